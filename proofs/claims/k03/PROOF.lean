import PyProof.Rows.All
import Wide.All
import OpenK.AllK
import Wide.FinOn
import HandS.ForMost
import HandS.Wide
import HandS.Codes
import HandS.IsInst
import HandS.Defaults
import HandS.MakeKw
import HandS.MakeKwOnly
import HandS.ClsMeth
import HandS.TupAny
import HandS.Style
import HandS.Zip
import HandS.Walk
import KE.GoesZip
import KE.GoesMore
import HandS.More
import HandS.SlotsOwn
import PyProof.InstNe
import HandS.Conv
import HandS.Star
import KE.DataEq
import PyProof.InstSpecial
import PySem.Challenge.RW_evenrules_k03_tests_made
open PySem PySem.W PyProof.Rows
set_option Elab.async false
set_option linter.all false
set_option maxRecDepth 100000 in
set_option maxHeartbeats 0 in
open_top hd for PySem.Challenge.rw_evenrules_k03_tests_made
set_option maxRecDepth 100000
set_option maxHeartbeats 4000000
namespace Ev
open PySem L2
def top (i : Nat) : Stmt := PySem.Challenge.pw_evenrules_k03_tests_made.main.body.getD i (.Pass ⟨0, 0, 0, 0⟩)
abbrev sDraw : Stmt := top 30
/-- all that was tracked is as it was, but at p -/
def But (p : Addr) (H H' : Hp) : Prop := ∀ b o, b ≠ p → H b = some o → H' b = some o
theorem But.refl (p : Addr) (H : Hp) : But p H H := fun _ _ _ e => e
theorem But.trans {p : Addr} {H H1 H2 : Hp} (a : But p H H1) (b : But p H1 H2) : But p H H2 := fun c o n e => b c o n (a c o n e)
theorem Same.but {p : Addr} {H H' : Hp} (a : Same H H') : But p H H' := fun c o _ e => a c o e
theorem But.upd_new {p q : Addr} {H : Hp} {o : HO} (h : H q = none) : But p H (upd H q o) := fun b u _ e => by
  rw [upd_ne (ne_of_none e h)]; exact e
theorem But.upd_at {p : Addr} {H : Hp} {o : HO} : But p H (upd H p o) := fun b u n e => by
  rw [upd_ne n]; exact e
/-- the pen: a list of a list of ints, how often it was asked, and a rest -/
def Pen (L : Addr) (H : Hp) (p : Addr) (B : Int) : Prop := ∃ (ns : List Int) (turn carry : Int),
  H p = some (.lst [.ref L, .int turn, .int carry]) ∧ H L = some (.lst (ns.map V.int)) ∧ L ≠ p ∧ ns.length ≤ 63 ∧ 0 ≤ turn ∧ turn ≤ B ∧ 0 ≤ carry
theorem Pen.keep {L : Addr} {H H' : Hp} {p : Addr} {B : Int} (h : Pen L H p B) (k : Same H H') : Pen L H' p B := by
  obtain ⟨ns, t, c, h1, h2, h3, h4, h5, h6, h7⟩ := h
  exact ⟨ns, t, c, k _ _ h1, k _ _ h2, h3, h4, h5, h6, h7⟩
theorem Pen.mono {L : Addr} {H : Hp} {p : Addr} {B B' : Int} (h : Pen L H p B) (k : B ≤ B') : Pen L H p B' := by
  obtain ⟨ns, t, c, h1, h2, h3, h4, h5, h6, h7⟩ := h
  exact ⟨ns, t, c, h1, h2, h3, h4, h5, by omega, h7⟩
def spDraw : Sp := fun vs H Q _ => ∃ (p L : Addr) (m B : Int), vs = [.ref p, .int m] ∧ 1 ≤ m ∧ m ≤ 10000000000000 ∧ B ≤ 1000000 ∧ Pen L H p B ∧
  ∀ (d : Int) (H' : Hp), But p H H' → Pen L H' p (B + 1) → 0 ≤ d → d < m → Q (.int d) H'
theorem dpInts {K : PySem.W.Frag} {H : Hp} : ∀ ns : List Int, DpAll K H (ns.map V.int) (ns.map PyData.int)
  | [] => .nil
  | n :: r => .cons (.int n) (dpInts r)
theorem sh_ints (ns : List Int) : SeqAt.shaped (.list (ns.map PyData.int)) = true := by
  have h1 : ∀ ns : List Int, PyData.canLayAll0 (ns.map PyData.int) = true := by
    intro ns
    induction ns with
    | nil => rfl
    | cons n r ih => simp [PyData.canLayAll0, PyData.canLay0, ih]
  have h2 : ∀ ns : List Int, PyData.depthAll (ns.map PyData.int) ≤ 1 := by
    intro ns
    induction ns with
    | nil => simp [PyData.depthAll]
    | cons n r ih => simp [PyData.depthAll, PyData.depth]; omega
  unfold SeqAt.shaped
  rw [Bool.and_eq_true]
  refine ⟨by simp [PyData.canLay0, h1], decide_eq_true ?_⟩
  have := h2 ns
  simp [PyData.depth]; omega
theorem eqv_nil (ns : List Int) : PyData.eqv (.list (ns.map PyData.int)) (.list []) = ns.isEmpty := by
  cases ns <;> simp [PyData.eqv, PyData.eqvAll]
section
variable {P : Program} {w : World} {K : PySem.W.Frag} {mg : Str → Option Value} {base : Heap}
/-- built-ins that the program does not cover -/
structure Blt (mg : Str → Option Value) : Prop where
  int : mg "int" = none
  len : mg "len" = none
  abs : mg "abs" = none
  list : mg "list" = none
  min : mg "min" = none
  max : mg "max" = none
  isi : mg "isinstance" = none
  bool : mg "bool" = none
  tuple : mg "tuple" = none
  all : mg "all" = none
  range : mg "range" = none
  repr : mg "repr" = none
theorem scD : FnScope ["_law_pen_here", "_law_top_so", "_law_digit", "_law_at", "_law_cell", "_law_great", "_law_mixed"] ["_law_pen_here", "_law_top_so"] (defScope sDraw) := ⟨rfl, rfl, rfl, by decide +kernel, rfl, by decide +kernel, by decide +kernel⟩
theorem fmod_lo (a : Int) {m : Int} (h : 1 ≤ m) : 0 ≤ a.fmod m := by rw [Int.fmod_eq_emod_of_nonneg a (by omega)]; exact Int.emod_nonneg a (by omega)
theorem fmod_hi (a : Int) {m : Int} (h : 1 ≤ m) : a.fmod m < m := by rw [Int.fmod_eq_emod_of_nonneg a (by omega)]; exact Int.emod_lt_of_pos a (by omega)
theorem fdiv_lo {a m : Int} (h : 1 ≤ m) (h0 : 0 ≤ a) : 0 ≤ a.fdiv m := by rw [Int.fdiv_eq_ediv_of_nonneg a (by omega)]; exact Int.ediv_nonneg h0 (by omega)
theorem cell_at {ns : List Int} (h : ns ≠ []) (t : Int) : ∃ c : Int, atI (ns.map V.int) (t.fmod (((ns.map V.int).length : Nat) : Int)) = some (V.int c) := by
  rw [List.length_map]
  have l : 0 < ns.length := List.length_pos_iff.mpr h
  have h1 : 0 ≤ t.fmod (ns.length : Int) := fmod_lo t (by omega)
  have h2 : t.fmod (ns.length : Int) < ns.length := fmod_hi t (by omega)
  generalize t.fmod (ns.length : Int) = i at h1 h2
  obtain ⟨j, rfl⟩ := Int.eq_ofNat_of_zero_le h1
  have hj : j < ns.length := by omega
  exact ⟨ns[j], atI_nat (by rw [List.getElem?_map, List.getElem?_eq_getElem hj]; rfl)⟩
theorem mul_le_of {a b A B : Int} (a0 : 0 ≤ a) (b0 : 0 ≤ b) (ha : a ≤ A) (hb : b ≤ B) : 0 ≤ a * b ∧ a * b ≤ A * B :=
  ⟨Int.mul_nonneg a0 b0, Int.mul_le_mul ha hb b0 (by omega)⟩
theorem bound1 (c : Int) {M C D t : Int} (hM : 1 ≤ M) (hM2 : M ≤ 4294967296) (hC : 0 ≤ C ∧ C ≤ 1000000) (hD : 0 ≤ D ∧ D ≤ 1000000) (h0 : 0 ≤ t) (h1 : t ≤ 1000000) : (c.fmod M + C * t + D).natAbs < 2 ^ 64 := by
  have a1 := fmod_lo c hM
  have a2 := fmod_hi c hM
  have ⟨a3, a4⟩ := mul_le_of hC.1 h0 hC.2 h1
  omega
theorem bound2 {x C5 C6 C7 t : Int} (hx : 0 ≤ x ∧ x < 4294967296) (h5 : 0 ≤ C5 ∧ C5 ≤ 1000000) (h6 : 0 ≤ C6 ∧ C6 ≤ 1000000) (h7 : 0 ≤ C7 ∧ C7 ≤ 1000000) (h0 : 0 ≤ t) (h1 : t ≤ 1000000) :
    (x * (2 * t + C5) + C6 * t * t + C7).natAbs < 2 ^ 64 := by
  have ⟨a1, a2⟩ := mul_le_of (b := 2 * t + C5) (A := 4294967296) (B := 3000000) hx.1 (by omega) (by omega) (by omega)
  have ⟨a3, a4⟩ := mul_le_of h6.1 h0 h6.2 h1
  have ⟨a5, a6⟩ := mul_le_of a3 h0 a4 h1
  omega
theorem great_nn {c e : Int} (h : e ≤ (if c < 0 then -c else c)) (b : Bool) : 0 ≤ 2 * ((if c < 0 then -c else c) - e) + (if b = true then 1 else 0) := by
  cases b
  · rw [if_neg Bool.false_ne_true]; omega
  · rw [if_pos rfl]; omega
theorem lt64 {x : Int} (h : 0 ≤ x ∧ x < 4294967296) : -(2 ^ 64) < x ∧ x < 2 ^ 64 := ⟨by omega, by omega⟩
theorem nz {M : Int} (h : 0 < M) : M ≠ 0 := by omega
theorem divW {i m : Int} (h : 1 ≤ m) (h2 : m ≤ 10000000000000) : CDivW i m := wide_div (b := 44) (by omega) (by omega) (by decide) (by decide)
theorem ediv_lo {a m : Int} (h : 1 ≤ m) (h0 : 0 ≤ a) : 0 ≤ a / m := Int.ediv_nonneg h0 (by omega)
theorem ok_draw {f : Addr} {fd : FuncData} (F : Fun K "_law_draw" "_law_draw" sDraw f fd) (T : Blt mg) : FnOk P w K mg base CX0 1 f fd ["_law_pen_here", "_law_top_so"] spDraw := by
  refine F.ok scD (fun vs H Q E h => ?_) (fun cdv A outer s H vs Q E hr h => ?_)
  · obtain ⟨p, L, m, B, rfl, _⟩ := h
    rfl
  · obtain ⟨p, L, m, B, rfl, hm, hm2, hB, ⟨ns, tn, ca, hp, hL, Lp, hlen, t0, tB, c0⟩, k⟩ := h
    have hu := hu_of hr
    refine ⟨_, pss_cons (ps_if (pt_cmpR op_gt (pe_ix ix_list (pv 0) pe_int (fun _ _ => rfl)) pe_int (nomark _))
        (pss_cons (ps_set (i := 2) scD.nd rfl (.inl rfl) (pe_op op_modN (pe_callTy call_int1 (by rfl) T.int (by decide +kernel) (pa_cons (pe_ix ix_list (pv 0) pe_int (fun _ _ => rfl)) pa_nil)) (pv 1)))
        (pss_cons (ps_asg (pe_op op_fdivW (pe_callTy call_int1 (by rfl) T.int (by decide +kernel) (pa_cons (pe_ix ix_list (pv 0) pe_int (fun _ _ => rfl)) pa_nil)) (pv 1)) (pg_sub (pv 0) pe_int set_list))
        (pss_one (ps_ret (pv 2))))) pss_nil)
      (pss_cons (ps_set (i := 3) scD.nd rfl (.inl rfl) (pe_ix ix_list (pv 0) pe_int (fun _ _ => rfl)))
      (pss_cons (ps_asg (pe_op op_add (pv 3) pe_int) (pg_sub (pv 0) pe_int set_list))
      (pss_cons (ps_set (i := 4) scD.nd rfl (.inl rfl) (pe_op op_add (pe_op op_mul pe_int (pv 3)) pe_int))
      (pss_cons (ps_if (pt_cmpR (op_neD hr.units) (pe_ix ix_list (pv 0) pe_int (fun _ _ => rfl)) (pe_lst pa_nil) (nomark _))
        (pss_one (ps_set (i := 4) scD.nd rfl (.inl rfl) (pe_ix ix_list (pe_ix ix_list (pv 0) pe_int (fun _ _ => rfl))
          (pe_op op_modN (pe_callTy call_int1 (by rfl) T.int (by decide +kernel) (pa_cons (pv 3) pa_nil)) (pe_callB call_len_seq (by rfl) T.len PySem.boot_len (pa_cons (pe_ix ix_list (pv 0) pe_int (fun _ _ => rfl)) pa_nil))) (fun _ _ => rfl)))) pss_nil)
      (pss_cons (ps_if (PW.pt (pw_and (pt_cmpR op_lt (pv 3) (pe_callB call_len_seq (by rfl) T.len PySem.boot_len (pa_cons (pe_ix ix_list (pv 0) pe_int (fun _ _ => rfl)) pa_nil)) (nomark _))
          (pw_and1 (pt_cmpR op_ge (pe_callB call_abs (by rfl) T.abs (by decide +kernel) (pa_cons (pv 4) pa_nil)) (pe_op op_pow pe_int pe_int) (nomark _)))))
        (pss_cons (ps_set (i := 5) scD.nd rfl (.inl rfl) (pe_op op_add (pe_op op_mul pe_int (pe_op op_sub (pe_callB call_abs (by rfl) T.abs (by decide +kernel) (pa_cons (pv 4) pa_nil)) (pe_op op_pow pe_int pe_int)))
            (pe_callTy call_int1 (by rfl) T.int (by decide +kernel) (pa_cons (pe_cmpR op_lt (pv 4) pe_int (nomark _)) pa_nil))))
        (pss_cons (ps_asg (pe_op op_fdivW (pe_callTy call_int1 (by rfl) T.int (by decide +kernel) (pa_cons (pv 5) pa_nil)) (pv 1)) (pg_sub (pv 0) pe_int set_list))
        (pss_one (ps_ret (pe_op op_modN (pe_callTy call_int1 (by rfl) T.int (by decide +kernel) (pa_cons (pv 5) pa_nil)) (pv 1)))))) pss_nil)
      (pss_cons (ps_set (i := 6) scD.nd rfl (.inl rfl) (pe_op op_modN (pe_callTy call_int1 (by rfl) T.int (by decide +kernel) (pa_cons (pe_op op_pow (pe_op op_add (pe_op op_add
          (pe_op op_modN (pe_callTy call_int1 (by rfl) T.int (by decide +kernel) (pa_cons (pv 4) pa_nil)) pe_int) (pe_op op_mul pe_int (pv 3))) pe_int) pe_int) pa_nil)) pe_int))
      (pss_cons (ps_set (i := 6) scD.nd rfl (.inl rfl) (pe_op op_modN (pe_callTy call_int1 (by rfl) T.int (by decide +kernel) (pa_cons (pe_op op_pow (pe_op op_add (pe_op op_add
          (pe_op op_mul (pv 6) (pe_op op_add (pe_op op_mul pe_int (pv 3)) pe_int)) (pe_op op_mul (pe_op op_mul pe_int (pv 3)) (pv 3))) pe_int) pe_int) pa_nil)) pe_int))
      (pss_one (ps_ret (pe_op op_modN (pe_callTy call_int1 (by rfl) T.int (by decide +kernel) (pa_cons (pe_op op_fdivN (pv 6) pe_int) pa_nil)) (pv 1))))))))))), ?_⟩
    have i2 : ∀ {a b c : V}, atI [a, b, c] 2 = some c := fun {a b c} => atI_nat (j := 2) rfl
    have i1 : ∀ {a b c : V}, atI [a, b, c] 1 = some b := fun {a b c} => atI_nat (j := 1) rfl
    have i0 : ∀ {a b c : V}, atI [a, b, c] 0 = some a := fun {a b c} => atI_nat (j := 0) rfl
    -- if pen[2] > 0
    refine ⟨_, rfl, p, _, 2, _, rfl, rfl, SqL.of hp, i2, _, _, rfl, rfl, _, rfl, ite2 (fun e => ?_) (fun e => ?_)⟩
    · -- digit
      refine ⟨_, rfl, p, _, 2, _, rfl, rfl, SqL.of hp, i2, .inl ⟨_, rfl, _, rfl, _, _, rfl, rfl, (by omega), ?_⟩⟩
      refine ⟨_, rfl, p, _, 2, _, rfl, rfl, SqL.of hp, i2, .inl ⟨_, rfl, _, rfl, _, _, rfl, rfl, divW hm hm2, _, rfl, p, _, _, 2, rfl, rfl, hp, rfl, ?_⟩⟩
      refine ⟨_, rfl, ?_⟩
      exact k _ _ But.upd_at ⟨ns, tn, _, upd_same, by rw [upd_ne Lp]; exact hL, Lp, hlen, t0, by omega, ediv_lo hm c0⟩ (fmod_lo _ hm) (fmod_hi _ hm)
    · -- turn
      refine ⟨_, rfl, p, _, 1, _, rfl, rfl, SqL.of hp, i1, ?_⟩
      refine ⟨_, rfl, _, _, rfl, rfl, _, rfl, p, _, _, 1, rfl, rfl, hp, rfl, ?_⟩
      have hp1 : upd H p (.lst ([V.ref L, V.int tn, V.int ca].set 1 (V.int (tn + 1)))) p = some (.lst [.ref L, .int (tn + 1), .int ca]) := upd_same
      have hL1 : upd H p (.lst ([V.ref L, V.int tn, V.int ca].set 1 (V.int (tn + 1)))) L = some (.lst (ns.map V.int)) := by rw [upd_ne Lp]; exact hL
      have b1 : But p H (upd H p (.lst ([V.ref L, V.int tn, V.int ca].set 1 (V.int (tn + 1))))) := But.upd_at
      generalize upd H p (.lst ([V.ref L, V.int tn, V.int ca].set 1 (V.int (tn + 1)))) = H1 at hp1 hL1 b1 ⊢
      -- cell = c * turn + c'
      refine ⟨_, rfl, _, _, rfl, rfl, .inl ⟨by decide, by decide⟩, _, _, rfl, rfl, ?_⟩
      -- if pen[0] != []
      refine ⟨_, rfl, p, _, 0, _, rfl, rfl, SqL.of hp1, i0, by decide, fun l hl => ?_⟩
      have n1 : p ≠ l := ne_of_none hp1 hl
      have n2 : L ≠ l := ne_of_none hL1 hl
      have hp2 : upd H1 l (.lst []) p = some (.lst [.ref L, .int (tn + 1), .int ca]) := by rw [upd_ne n1]; exact hp1
      have hL2 : upd H1 l (.lst []) L = some (.lst (ns.map V.int)) := by rw [upd_ne n2]; exact hL1
      have hl2 : upd H1 l (.lst []) l = some (.lst []) := upd_same
      have b2 : But p H (upd H1 l (.lst [])) := b1.trans (But.upd_new hl)
      clear b1 hp1 hL1
      generalize upd H1 l (.lst []) = H2 at hp2 hL2 hl2 b2
      refine ⟨_, _, .lst (SqL.of hL2) (dpInts ns), .lst (SqL.of hl2) .nil, sh_ints ns, sh_ints [], _, rfl, ?_⟩
      rw [eqv_nil]
      -- the rest, for any cell
      have hcell : ∀ c : Int, ∃ j : Int, (if c < 0 then -c else c) = j ∧ 0 ≤ j := fun c => by
        by_cases z : c < 0
        · exact ⟨_, rfl, by rw [if_pos z]; omega⟩
        · exact ⟨_, rfl, by rw [if_neg z]; omega⟩
      have fin : ∀ H' : Hp, H' p = some (.lst [.ref L, .int (tn + 1), .int ca]) → H' L = some (.lst (ns.map V.int)) → But p H H' → Pen L H' p (B + 1) := fun H' e1 e2 _ =>
        ⟨ns, tn + 1, ca, e1, e2, Lp, hlen, by omega, by omega, c0⟩
      have ht : tn ≤ 1000000 := by omega
      have hm6 : 0 ≤ 76705 * tn ∧ 76705 * tn ≤ 76705 * 1000000 := mul_le_of (by decide) t0 (Int.le_refl _) ht
      have hq : ∀ {x m : Int}, 1 ≤ m → m ≤ 4294967296 → 0 ≤ x.fmod m ∧ x.fmod m < 4294967296 := fun {x m} h1 h2 => ⟨fmod_lo x h1, by have := fmod_hi x h1; omega⟩
      cases hn : ns with
      | nil =>
        refine iteF ?_
        refine ⟨_, rfl, _, rfl, p, _, 0, _, rfl, rfl, SqL.of hp2, i0, L, _, rfl, .inl (SqL.of hL2), _, _, rfl, rfl, _, rfl, ite2 (fun e1 => ?_) (fun e1 => ?_)⟩
        · refine ⟨_, rfl, _, rfl, _, _, rfl, rfl, ⟨by decide, by decide, by decide⟩, _, _, rfl, rfl, _, rfl, ite2 (fun e2 => ?_) (fun e2 => ?_)⟩
          · refine ⟨_, rfl, _, rfl, _, _, rfl, rfl, ⟨by decide, by decide, by decide⟩, _, _, rfl, rfl, _, _, rfl, rfl, .inl ⟨by decide, by decide⟩, _, rfl, _, _, rfl, rfl, .inr ⟨_, rfl, _, _, rfl, rfl, ?_⟩⟩
            refine ⟨_, rfl, .inl ⟨_, rfl, _, rfl, _, _, rfl, rfl, divW hm hm2, _, rfl, p, _, _, 2, rfl, rfl, hp2, rfl, ?_⟩⟩
            refine ⟨_, rfl, .inl ⟨_, rfl, _, rfl, _, _, rfl, rfl, (by omega), ?_⟩⟩
            refine k _ _ (b2.trans But.upd_at) ⟨_, tn + 1, _, upd_same, by rw [upd_ne Lp]; exact hL2, Lp, hlen, by omega, by omega, ediv_lo hm ?_⟩ (fmod_lo _ hm) (fmod_hi _ hm)
            have e3 := of_decide_eq_true e2
            exact great_nn e3 _
          · skip
            refine ⟨_, rfl, .inl ⟨_, rfl, _, _, rfl, rfl, nz (by decide), _, rfl, _, _, rfl, rfl, .inl ⟨by decide, by decide⟩, _, _, rfl, rfl, _, _, rfl, rfl, _, _, rfl, rfl, ⟨by decide, by decide, bound1 _ (by decide) (by decide) (by decide) (by decide) t0 ht⟩, .inl ⟨_, rfl, _, _, rfl, rfl, nz (by decide), ?_⟩⟩⟩
            refine ⟨_, rfl, _, rfl, _, _, rfl, rfl, .inl ⟨by decide, by decide⟩, _, _, rfl, rfl, _, _, rfl, rfl, .inl ?_, _, rfl, _, _, rfl, rfl, .inl ⟨by decide, by decide⟩, _, rfl, _, _, rfl, rfl, .inl ?_, _, _, rfl, rfl, _, _, rfl, rfl, _, _, rfl, rfl, ⟨by decide, by decide, ?_⟩, .inl ⟨_, rfl, _, _, rfl, rfl, nz (by decide), ?_⟩⟩
            · exact lt64 (hq (by decide) (by decide))
            · exact ⟨by omega, by omega⟩
            · exact bound2 (hq (by decide) (by decide)) (by decide) (by decide) (by decide) t0 ht
            · refine ⟨_, rfl, _, _, rfl, rfl, ⟨by decide, by decide⟩, .inl ⟨_, rfl, _, rfl, _, _, rfl, rfl, (by omega), ?_⟩⟩
              exact k _ _ b2 (fin _ hp2 hL2 b2) (fmod_lo _ hm) (fmod_hi _ hm)
        · skip
          refine ⟨_, rfl, .inl ⟨_, rfl, _, _, rfl, rfl, nz (by decide), _, rfl, _, _, rfl, rfl, .inl ⟨by decide, by decide⟩, _, _, rfl, rfl, _, _, rfl, rfl, _, _, rfl, rfl, ⟨by decide, by decide, bound1 _ (by decide) (by decide) (by decide) (by decide) t0 ht⟩, .inl ⟨_, rfl, _, _, rfl, rfl, nz (by decide), ?_⟩⟩⟩
          refine ⟨_, rfl, _, rfl, _, _, rfl, rfl, .inl ⟨by decide, by decide⟩, _, _, rfl, rfl, _, _, rfl, rfl, .inl ?_, _, rfl, _, _, rfl, rfl, .inl ⟨by decide, by decide⟩, _, rfl, _, _, rfl, rfl, .inl ?_, _, _, rfl, rfl, _, _, rfl, rfl, _, _, rfl, rfl, ⟨by decide, by decide, ?_⟩, .inl ⟨_, rfl, _, _, rfl, rfl, nz (by decide), ?_⟩⟩
          · exact lt64 (hq (by decide) (by decide))
          · exact ⟨by omega, by omega⟩
          · exact bound2 (hq (by decide) (by decide)) (by decide) (by decide) (by decide) t0 ht
          · refine ⟨_, rfl, _, _, rfl, rfl, ⟨by decide, by decide⟩, .inl ⟨_, rfl, _, rfl, _, _, rfl, rfl, (by omega), ?_⟩⟩
            exact k _ _ b2 (fin _ hp2 hL2 b2) (fmod_lo _ hm) (fmod_hi _ hm)
      | cons n0 nr =>
        refine iteT ?_
        obtain ⟨c, hc⟩ := cell_at (ns := ns) (by rw [hn]; exact List.cons_ne_nil _ _) tn
        refine ⟨_, rfl, p, _, 0, _, rfl, rfl, SqL.of hp2, i0, _, rfl, .inl ⟨_, rfl, _, rfl, p, _, 0, _, rfl, rfl, SqL.of hp2, i0, L, _, rfl, .inl (SqL.of hL2), _, _, rfl, rfl, (by rw [List.length_map, hn, List.length_cons]; omega), L, _, _, _, rfl, rfl, SqL.of hL2, hc, ?_⟩⟩
        refine ⟨_, rfl, _, rfl, p, _, 0, _, rfl, rfl, SqL.of hp2, i0, L, _, rfl, .inl (SqL.of hL2), _, _, rfl, rfl, _, rfl, ite2 (fun e1 => ?_) (fun e1 => ?_)⟩
        · refine ⟨_, rfl, _, rfl, _, _, rfl, rfl, ⟨by decide, by decide, by decide⟩, _, _, rfl, rfl, _, rfl, ite2 (fun e2 => ?_) (fun e2 => ?_)⟩
          · refine ⟨_, rfl, _, rfl, _, _, rfl, rfl, ⟨by decide, by decide, by decide⟩, _, _, rfl, rfl, _, _, rfl, rfl, .inl ⟨by decide, by decide⟩, _, rfl, _, _, rfl, rfl, .inr ⟨_, rfl, _, _, rfl, rfl, ?_⟩⟩
            refine ⟨_, rfl, .inl ⟨_, rfl, _, rfl, _, _, rfl, rfl, divW hm hm2, _, rfl, p, _, _, 2, rfl, rfl, hp2, rfl, ?_⟩⟩
            refine ⟨_, rfl, .inl ⟨_, rfl, _, rfl, _, _, rfl, rfl, (by omega), ?_⟩⟩
            refine k _ _ (b2.trans But.upd_at) ⟨_, tn + 1, _, upd_same, by rw [upd_ne Lp]; exact hL2, Lp, hlen, by omega, by omega, ediv_lo hm ?_⟩ (fmod_lo _ hm) (fmod_hi _ hm)
            have e3 := of_decide_eq_true e2
            exact great_nn e3 _
          · skip
            refine ⟨_, rfl, .inl ⟨_, rfl, _, _, rfl, rfl, nz (by decide), _, rfl, _, _, rfl, rfl, .inl ⟨by decide, by decide⟩, _, _, rfl, rfl, _, _, rfl, rfl, _, _, rfl, rfl, ⟨by decide, by decide, bound1 _ (by decide) (by decide) (by decide) (by decide) t0 ht⟩, .inl ⟨_, rfl, _, _, rfl, rfl, nz (by decide), ?_⟩⟩⟩
            refine ⟨_, rfl, _, rfl, _, _, rfl, rfl, .inl ⟨by decide, by decide⟩, _, _, rfl, rfl, _, _, rfl, rfl, .inl ?_, _, rfl, _, _, rfl, rfl, .inl ⟨by decide, by decide⟩, _, rfl, _, _, rfl, rfl, .inl ?_, _, _, rfl, rfl, _, _, rfl, rfl, _, _, rfl, rfl, ⟨by decide, by decide, ?_⟩, .inl ⟨_, rfl, _, _, rfl, rfl, nz (by decide), ?_⟩⟩
            · exact lt64 (hq (by decide) (by decide))
            · exact ⟨by omega, by omega⟩
            · exact bound2 (hq (by decide) (by decide)) (by decide) (by decide) (by decide) t0 ht
            · refine ⟨_, rfl, _, _, rfl, rfl, ⟨by decide, by decide⟩, .inl ⟨_, rfl, _, rfl, _, _, rfl, rfl, (by omega), ?_⟩⟩
              exact k _ _ b2 (fin _ hp2 hL2 b2) (fmod_lo _ hm) (fmod_hi _ hm)
        · skip
          refine ⟨_, rfl, .inl ⟨_, rfl, _, _, rfl, rfl, nz (by decide), _, rfl, _, _, rfl, rfl, .inl ⟨by decide, by decide⟩, _, _, rfl, rfl, _, _, rfl, rfl, _, _, rfl, rfl, ⟨by decide, by decide, bound1 _ (by decide) (by decide) (by decide) (by decide) t0 ht⟩, .inl ⟨_, rfl, _, _, rfl, rfl, nz (by decide), ?_⟩⟩⟩
          refine ⟨_, rfl, _, rfl, _, _, rfl, rfl, .inl ⟨by decide, by decide⟩, _, _, rfl, rfl, _, _, rfl, rfl, .inl ?_, _, rfl, _, _, rfl, rfl, .inl ⟨by decide, by decide⟩, _, rfl, _, _, rfl, rfl, .inl ?_, _, _, rfl, rfl, _, _, rfl, rfl, _, _, rfl, rfl, ⟨by decide, by decide, ?_⟩, .inl ⟨_, rfl, _, _, rfl, rfl, nz (by decide), ?_⟩⟩
          · exact lt64 (hq (by decide) (by decide))
          · exact ⟨by omega, by omega⟩
          · exact bound2 (hq (by decide) (by decide)) (by decide) (by decide) (by decide) t0 ht
          · refine ⟨_, rfl, _, _, rfl, rfl, ⟨by decide, by decide⟩, .inl ⟨_, rfl, _, rfl, _, _, rfl, rfl, (by omega), ?_⟩⟩
            exact k _ _ b2 (fin _ hp2 hL2 b2) (fmod_lo _ hm) (fmod_hi _ hm)
end
end Ev
namespace Ev
open PySem L2 PySem.Spec PyProof.Rows
/-! zip of a tuple and a list. -/
def ItM (K : PySem.W.Frag) (a b : Addr) : It where
  go i H := ∃ us ws : List V, SqT K H a us ∧ SqL K H b ws ∧ i < us.length ∧ i < ws.length
  yld i H v H' := ∃ T x y, v = .ref T ∧ H T = none ∧ H' = upd H T (.tup [x, y]) ∧ (∀ us, SqT K H a us → us[i]? = some x) ∧ ∀ ws, SqL K H b ws → ws[i]? = some y
  stop i H := ∃ us ws : List V, SqT K H a us ∧ SqL K H b ws ∧ i ≤ us.length ∧ i ≤ ws.length ∧ (i = us.length ∨ i = ws.length)
theorem sep_of {I a b : Addr} (ha : a < I) (hb : b < I) : ZipSep2 (I + 4) (I + 2) (I + 3) I (I + 1) [I, a] [I + 1, b] := by
  have e : ∀ k : Nat, a ≠ I + k ∧ b ≠ I + k := fun k => ⟨Nat.ne_of_lt (Nat.lt_of_lt_of_le ha (Nat.le_add_right I k)), Nat.ne_of_lt (Nat.lt_of_lt_of_le hb (Nat.le_add_right I k))⟩
  have n : ∀ k l : Nat, k ≠ l → (I + k : Nat) ≠ I + l := fun k l h z => h (Nat.add_left_cancel z)
  have n0 : ∀ k : Nat, 0 ≠ k → (I : Nat) ≠ I + k := fun k h => n 0 k h
  refine ⟨n 2 4 (by decide), n 3 4 (by decide), n 2 3 (by decide), (n0 2 (by decide)).symm, List.mem_cons_self, ?_, ?_, n 2 1 (by decide), List.mem_cons_self, ?_, ?_, ?_, ?_⟩
  · intro z
    rcases List.mem_cons.mp z with z | z
    · exact n0 4 (by decide) z.symm
    · exact (e 4).1 (List.mem_singleton.mp z).symm
  · intro z
    rcases List.mem_cons.mp z with z | z
    · exact n0 3 (by decide) z.symm
    · exact (e 3).1 (List.mem_singleton.mp z).symm
  · intro z
    rcases List.mem_cons.mp z with z | z
    · exact n 4 1 (by decide) z
    · exact (e 4).2 (List.mem_singleton.mp z).symm
  · intro z
    rcases List.mem_cons.mp z with z | z
    · exact n 3 1 (by decide) z
    · exact (e 3).2 (List.mem_singleton.mp z).symm
  · intro z
    rcases List.mem_cons.mp z with z | z
    · exact n0 1 (by decide) z
    · exact (e 0).2 (List.mem_singleton.mp z).symm
  · intro z
    rcases List.mem_cons.mp z with z | z
    · exact n0 1 (by decide) z.symm
    · exact (e 1).1 (List.mem_singleton.mp z).symm
/-- the five cells of such a zip -/
def cellsM (I : Addr) : List Addr := [I + 4, I + 2, I + 3, I, I + 1]
theorem cellsM_of {I c : Addr} (h : c ∈ cellsM I) : c = I + 4 ∨ c = I + 2 ∨ c = I + 3 ∨ c = I ∨ c = I + 1 := by simpa [cellsM] using h
theorem cells_ge {I c : Addr} (h : c ∈ cellsM I) : I ≤ c := by
  rcases cellsM_of h with z | z | z | z | z <;> rw [z]
  · exact Nat.le_add_right I 4
  · exact Nat.le_add_right I 2
  · exact Nat.le_add_right I 3
  · exact Nat.le_refl I
  · exact Nat.le_add_right I 1
def tnM (I a b : Addr) (i : Nat) (h : Heap) : Prop := IsZip h (I + 4) (I + 2) (I + 3) .none ∧ IsTupOf2 h (I + 2) (.ref I) (.ref (I + 1)) ∧ (∃ x y, IsTupOf2 h (I + 3) x y) ∧ h.IsTupleIter I a i ∧ h.IsListIter (I + 1) b i
theorem turnM {P : Program} {w : World} {K : PySem.W.Frag} {elts : List Expr} {kk : Nat} {tpos : Pos} {I a b : Addr} (ha : a < I) (hb : b < I) : Turn P w K (.Tuple elts kk tpos) (ItM K a b) (cellsM I) (I + 4) (tnM I a b) where
  mem := by simp [cellsM]
  obj := by
    rintro i h ⟨q1, q2, ⟨x, y, q3⟩, ⟨o1, p1, _, d1⟩, ⟨o2, p2, _, d2⟩⟩ c hc
    rcases cellsM_of hc with rfl | rfl | rfl | rfl | rfl
    · exact ⟨_, q1, fun v z => by cases z⟩
    · exact ⟨_, q2, fun v z => by cases z⟩
    · exact ⟨_, q3, fun v z => by cases z⟩
    · exact ⟨o1, p1, fun v z => by rw [d1] at z; cases z⟩
    · exact ⟨o2, p2, fun v z => by rw [d2] at z; cases z⟩
  keep := by
    rintro i h h' ⟨q1, q2, ⟨x, y, q3⟩, q4, q5⟩ k
    refine ⟨k _ (by simp [cellsM]) _ q1, k _ (by simp [cellsM]) _ q2, ⟨x, y, k _ (by simp [cellsM]) _ q3⟩, q4.at fun o z => ?_, q5.at fun o z => ?_⟩
    · exact k _ (by simp [cellsM]) o z
    · exact k _ (by simp [cellsM]) o z
  item := by
    rintro X rfl rfl rfl hc i pins s σ H E J hf ⟨q1, q2, ⟨x0, y0, q3⟩, q4, q5⟩ ⟨us, ws, ku, kw, lu, lw⟩
    obtain ⟨its, rv, p, _⟩ := J.tuple ku
    obtain ⟨its2, rv2, p2, _⟩ := J.list kw
    obtain ⟨u, hu, ru⟩ := rv.get (List.getElem?_eq_getElem lu)
    obtain ⟨u2, hu2, ru2⟩ := rv2.get (List.getElem?_eq_getElem lw)
    have l1 := rv.length
    have l2 := rv2.length
    have hd : X.A.in1.handled = none := J.ok.hd hc
    refine wpAny_pyNext_zipD2_item (sep_of ha hb) (Draws.tuple hd I a (Nat.ne_of_lt ha) its.toArray) (Draws.list hd (I + 1) b (Nat.ne_of_lt (Nat.lt_succ_of_lt hb)) its2.toArray) q1 q2 q3 ⟨q4, p⟩ ⟨q5, p2.isList⟩ (by simp; omega) (by simp; omega) fun x1 x2 h' tk y1 y2 r1 r2 r3 r4 r5 r6 hk => ?_
    obtain rfl : u = x1 := by
      have e : its[i]? = some x1 := by simpa using y1
      rw [hu] at e
      exact Option.some.inj e
    obtain rfl : u2 = x2 := by
      have e : its2[i]? = some x2 := by simpa using y2
      rw [hu2] at e
      exact Option.some.inj e
    refine ⟨_, rfl, wpAny_letOwnedTupleGo_zip (s := { s with heap := h', toks := tk }) r1 fun h2 z2 sb => ?_⟩
    have zl : I + 4 < s.heap.objs.size := Heap.lt_size q1
    have fresh : H s.heap.objs.size = none := J.hok.fresh (Nat.le_refl _)
    have at2 : ∀ c o, c ≠ I + 4 → h'.get? c = some o → h2.get? c = some o := fun c o n e => (sb.2 c n).trans e
    have nT : s.heap.objs.size ≠ I + 4 := Nat.ne_of_gt zl
    have hT := at2 _ _ nT r5
    have kept : ∀ c o, c ∉ cellsM I → s.heap.get? c = some o → h2.get? c = some o := fun c o n e => by
      have m : c ≠ I + 4 ∧ c ≠ I + 3 ∧ c ≠ I ∧ c ≠ I + 1 := ⟨fun z => n (by simp [cellsM, z]), fun z => n (by simp [cellsM, z]), fun z => n (by simp [cellsM, z]), fun z => n (by simp [cellsM, z])⟩
      exact at2 c o m.1 (hk c o m.1 m.2.1 m.2.2.1 m.2.2.2 e)
    have S := sep_of ha hb
    have J1 := J.turnedNew (t' := tk) (ob := .tup [us[i], ws[i]]) (ch := cellsM I) kept hf (Nat.le_refl _) ⟨by show 2 ≤ sizeLine; decide, [u, u2], .cons ru (.cons ru2 .nil), ⟨_, hT, rfl, _, rfl⟩⟩
    refine ⟨.ref s.heap.objs.size, _, J1, rfl, ⟨_, _, _, rfl, fresh, rfl, fun l hl => ?_, fun l hl => ?_⟩, ⟨z2, ?_, ⟨_, _, at2 _ _ S.TOz r2⟩, ?_, ?_⟩, fun c hcm => ?_⟩
    · rw [J.tuple_inj hl ku]; exact List.getElem?_eq_getElem lu
    · rw [J.list_inj hl kw]; exact List.getElem?_eq_getElem lw
    · exact at2 _ _ S.TIz (hk _ _ S.TIz S.TITO S.TIi1 S.TIi2 q2)
    · exact r3.1.at fun o z => at2 _ o S.zi1.symm z
    · exact r4.1.at fun o z => at2 _ o S.zi2.symm z
    · have lt : c < s.heap.objs.size := by
        rcases cellsM_of hcm with rfl | rfl | rfl | rfl | rfl
        · exact zl
        · exact Heap.lt_size q2
        · exact Heap.lt_size q3
        · obtain ⟨_, z, _⟩ := q4; exact Heap.lt_size z
        · obtain ⟨_, z, _⟩ := q5; exact Heap.lt_size z
      rw [upd_ne (Nat.ne_of_lt lt)]
      exact (hf c hcm).1
  done := by
    rintro X rfl rfl rfl hc i pins s σ H E J hf ⟨q1, q2, ⟨x0, y0, q3⟩, q4, q5⟩ ⟨us, ws, ku, kw, lu, lw, le⟩
    obtain ⟨its, rv, p, _⟩ := J.tuple ku
    obtain ⟨its2, rv2, p2, _⟩ := J.list kw
    have l1 := rv.length
    have l2 := rv2.length
    have hd : X.A.in1.handled = none := J.ok.hd hc
    refine wpAny_pyNext_zipD2_end (sep_of ha hb) (Draws.tuple hd I a (Nat.ne_of_lt ha) its.toArray) (Draws.list hd (I + 1) b (Nat.ne_of_lt (Nat.lt_succ_of_lt hb)) its2.toArray) q1 q2 q3 ⟨q4, p⟩ ⟨q5, p2.isList⟩ (by simp; omega) (by simp; omega) (by simp; omega) fun h' tk hk => ⟨rfl, ?_⟩
    refine J.turnedL (t' := tk) (ch := cellsM I) (fun c o n e => ?_) hf
    have m : c ≠ I + 4 ∧ c ≠ I + 3 ∧ c ≠ I ∧ c ≠ I + 1 := ⟨fun z => n (by simp [cellsM, z]), fun z => n (by simp [cellsM, z]), fun z => n (by simp [cellsM, z]), fun z => n (by simp [cellsM, z])⟩
    exact hk c o m.1 m.2.1 m.2.2.1 m.2.2.2 e
  self := fun A i s Q E st h => wpAny_pyIter_zip st.1 h
def iZipM (K : PySem.W.Frag) (ta : TA) : TI := fun σ H R => ta σ H fun vs H1 => ∃ a b us ws, vs = [.ref a, .ref b] ∧ SqT K H1 a us ∧ SqL K H1 b ws ∧ R (ItM K a b) H1
theorem pi_zipM {X : Cx} {e e2 : Expr} {ta : TA} {p pos tpos : Pos} {elts : List Expr} {kk : Nat} (hg : Gl X "zip") (hm : X.mg "zip" = none) (ha : PA X [e, e2] ta)
    (hs : starEach [e, e2] X.env = (false, eval e X.env) :: starEach [e2] X.env := by rfl) (hpl : (backTo pos (starEach [e2] X.env)).any (·.1) = false := by rfl) :
    PI X (.Tuple elts kk tpos) (.Call (.Name "zip" p) [e, e2] [] pos) (iZipM X.K ta) := by
  constructor
  intro pins s σ H R I h
  refine Call_ (ld_blt I hg hm PyProof.Rows.boot_zip (PyProof.Rows.callWith_type1 (thn (ha.run pos pins s σ H _ I h) fun us s1 hh => ?_) hs hpl))
  obtain ⟨vs, H1, I1, r1, a, b, xs, ys, rfl, ka, kb, q⟩ := hh
  obtain ⟨w1, w2, rfl, e1, e2⟩ := vals2 r1
  obtain rfl : w1 = Value.ref a := e1
  obtain rfl : w2 = Value.ref b := e2
  obtain ⟨its, rv, p1, _⟩ := I1.tuple ka
  obtain ⟨its2, rv2, p2, _⟩ := I1.list kb
  have la : a < s1.heap.objs.size := by obtain ⟨_, z, _⟩ := id p1; exact Heap.lt_size z
  refine zip_begins2 (begins_tuple a its.toArray) (begins_list b its2.toArray) p1 p2.isList fun h' g1 g2 g3 g4 g5 g6 hk => ?_
  refine wpAny_pyIter_zip g1 ?_
  refine ⟨_, cellsM s1.heap.objs.size, tnM s1.heap.objs.size a b, ItM X.K a b, H1, rfl, I1.kept (t' := s1.toks) hk, turnM la p2.lt, ⟨g1, g2, ⟨_, _, g3⟩, ⟨_, g4, rfl, rfl⟩, ⟨_, g5, rfl, rfl⟩⟩, fun c hc => ?_, q⟩
  exact (I1.fpOk (cells_ge hc) (I1.hok.fresh (cells_ge hc)))
end Ev
namespace Ev
open PySem L2 PySem.Spec PyProof.Rows
/-! == and != by an own __eq__, both answers, beside values of other types. -/
section
variable {prog : Program} {w : World} {A : Around} {E : Value → Shared → Prop} {s : Shared} {K : PySem.W.Frag} {x C f : Addr} {ox : Obj} {od : Option Obj} {y : Value}
theorem neEntry {Q : Fin → Shared → Prop} (room : A.units < cLine) (X : K.In s.heap) (I : PySem.W.InstAt s.heap x ox C od) (he : PySem.W.findIn K (.ref C) "__eq__" = some (some (.ref f))) (hf : PySem.W.isFn K (.ref f) = true)
    (h : wpAny (model prog w) A (call (.ref f) [.ref x, y]) (fun v s' => ∃ b, v = .bool b ∧ Q (.done (.ret (.bool (!b)))) s') E s) : wpAny (model prog w) A (Builtin.«object.__ne__» ⟨[.ref x, y], []⟩) Q E s := by
  have asked : wpAny (model prog w) A (callSpecialIfBound? (.ref x) (Str.ofString "__eq__") [y]) (fun r s' => ∃ b, r = some (.bool b) ∧ Q (.done (.ret (.bool (!b)))) s') E s := by
    refine PySem.W.ifBound_K X I he hf (wpAny_mono h (fun v s' hv => ?_) fun _ _ z => z)
    obtain ⟨b, rfl, q⟩ := hv
    exact ⟨b, rfl, q⟩
  unfold Builtin.«object.__ne__»
  repeat (first
    | (with_reducible refine wpAny_cRoomFor room ?_)
    | (refine wpAny_bind (m := callSpecialIfBound? (.ref x) (Str.ofString "__eq__") [y]) (wpAny_mono asked (fun r s' hr => ?_) fun _ _ z => z)
       obtain ⟨b, rfl, q⟩ := hr)
    | exact q
    | (exact wpAny_truthy_bool q)
    | wp_step)
theorem neCall {Q : Value → Shared → Prop} (room : A.in1.units < cLine) (X : K.In s.heap) (I : PySem.W.InstAt s.heap x ox C od) (hm : PySem.W.mroIn K C (.type "object") = some true) (he : PySem.W.findIn K (.ref C) "__eq__" = some (some (.ref f))) (hf : PySem.W.isFn K (.ref f) = true)
    (h : wpAny (model prog w) A.in1 (call (.ref f) [.ref x, y]) (fun v s' => ∃ b, v = .bool b ∧ Q (.bool (!b)) s') E s) : wpAny (model prog w) A (call (.builtin "object.__ne__") [.ref x, y]) Q E s :=
  wpAny_call (codeAny_call_builtin F.cmp_object.ne.plain F.cmpEntry_ne (PySem.W.check_slot F.cmpKind_ne F.cmpSplit_ne (I.type.andThen (PySem.W.looks_mroIn X hm)) (F.cmpArgs_ne _ _)
    (neEntry room X I he hf h)))
theorem neBound {Q : Option Value → Shared → Prop} {M : Model} (X : K.In s.heap) (I : PySem.W.InstAt s.heap x ox C od) (hn : PySem.W.findIn K (.ref C) "__ne__" = some (some (.builtin "object.__ne__")))
    (h : wpAny M A (call (.builtin "object.__ne__") [.ref x, y]) (fun v => Q (some v)) E s) : wpAny M A (callSpecialIfBound? (.ref x) "__ne__" [y]) Q E s := by
  have last : wpAny M A (call (.builtin "object.__ne__") ([.ref x] ++ [y]) >>= fun v => pure (some v)) Q E s := by
    refine wpAny_bind (wpAny_mono h (fun v s' z => ?_) fun _ _ z => z)
    exact wpAny_pure z
  simp only [callSpecialIfBound?, bindSpecialIfBound?]
  refine wpAny_holding (wpAny_bind (wpAny_bind (wpAny_bind (I.type.here ?_))))
  refine (PySem.W.looks_findIn X hn).here (wpAny_bind (wpAny_askSetting (wpAny_ite ?_)))
  have bd := F.cmp_object.ne.bind (.ref x)
  split
  · refine wpAny_bind (wpAny_of_eq bd ?_)
    exact wpAny_pure (by exact last)
  · refine wpAny_tryCatch (wpAny_bind (wpAny_of_eq bd ?_))
    exact wpAny_pure (by exact last)
theorem neRich {Q : Value → Shared → Prop} {tb : Value} (room : A.units + 1 < cLine) (X : K.In s.heap) (I : PySem.W.InstAt s.heap x ox C od) (hb : PySem.W.Looks (model prog w) s.heap (typeOf y) tb) (nf : PySem.W.notFirst K C tb = true)
    (hm : PySem.W.mroIn K C (.type "object") = some true) (hn : PySem.W.findIn K (.ref C) "__ne__" = some (some (.builtin "object.__ne__"))) (he : PySem.W.findIn K (.ref C) "__eq__" = some (some (.ref f))) (hf : PySem.W.isFn K (.ref f) = true)
    (h : wpAny (model prog w) A.in1 (call (.ref f) [.ref x, y]) (fun v s' => ∃ b, v = .bool b ∧ Q (.bool (!b)) s') E s) : wpAny (model prog w) A (richCompare .NotEq (.ref x) y) Q E s := by
  have one : wpAny (model prog w) A (tryCompare (.ref x) "__ne__" y) (fun r s' => ∃ b, r = some (.bool b) ∧ Q (.bool b) s') E s := by
    unfold tryCompare
    refine wpAny_bind (neBound X I hn (neCall (show A.in1.units < cLine from room) X I hm he hf (wpAny_mono h (fun v s' z => ?_) fun _ _ z => z)))
    obtain ⟨b, rfl, q⟩ := z
    exact ⟨b, rfl, wpAny_pure ⟨_, rfl, q⟩⟩
  unfold richCompare
  simp only [oneThing_ref]
  rw [cmpInfo_NotEq]
  refine wpAny_holding (wpAny_bind (wpAny_cRoomFor (Nat.lt_of_succ_lt room) ?_))
  refine wpAny_bind (I.type.here ?_)
  refine wpAny_bind (hb.here ?_)
  split
  · rename_i q
    have sub : PySem.W.subIn K tb (.ref C) = some false := by
      rcases Bool.or_eq_true_iff.mp nf with z | z
      · rw [beq_iff_eq.mp z] at q
        simp at q
      · exact beq_iff_eq.mp z
    refine wpAny_bind ((PySem.W.looks_subIn X sub).here ?_)
    simp only [Bool.false_eq_true, if_false]
    refine wpAny_bind (wpAny_mono one (fun r s' z => ?_) fun _ _ z => z)
    obtain ⟨b, rfl, q2⟩ := z
    exact wpAny_pure q2
  · refine wpAny_bind (wpAny_pure ?_)
    simp only [Bool.false_eq_true, if_false]
    refine wpAny_bind (wpAny_mono one (fun r s' z => ?_) fun _ _ z => z)
    obtain ⟨b, rfl, q2⟩ := z
    exact wpAny_pure q2
end
/-- which types come behind an own class -/
theorem nf_own {K : PySem.W.Frag} {C : Addr} : PySem.W.notFirst K C (.ref C) = true := by
  unfold PySem.W.notFirst
  simp
theorem nf_sub {K : PySem.W.Frag} {C : Addr} {t : Value} (h : PySem.W.subIn K t (.ref C) = some false) : PySem.W.notFirst K C t = true := by
  unfold PySem.W.notFirst
  rw [h]
  simp
theorem nf_ty {K : PySem.W.Frag} {C : Addr} {T : String} {l : List String} (h : fastBuiltinMro T = some (l.map Value.type)) : PySem.W.notFirst K C (.type T) = true := by
  refine nf_sub ?_
  show (fastBuiltinMro T).map (·.contains (.ref C)) = some false
  rw [h]
  have z : (l.map Value.type).contains (.ref C) = false := by
    rw [Bool.eq_false_iff]
    intro z
    have m := List.contains_iff_mem.mp z
    simp at m
  exact congrArg some z
section
variable {X : Cx} {CX : CXT} {C g : Addr} {n : Nat} {sp : Sp} {E : XK}
/-- what an own == promises for such values: a truth -/
def rOwnB (K : PySem.W.Frag) (C : Addr) (sp : Sp) (E : XK) (neg : Bool) : R2 := fun x y H Q => ∃ (a dx : Addr) (fs : List (Str × V)) (t : Value), x = .ref a ∧ H a = some (.ins C dx fs) ∧ TyX K H y t ∧ PySem.W.notFirst K C t = true ∧ sp [x, y] H (fun z H' => ∃ b, z = .bl b ∧ Q (.bl (neg ^^ b)) H') E
theorem op_eqO (he : PySem.W.findIn X.K (.ref C) "__eq__" = some (some (.ref g))) (hf : PySem.W.isFn X.K (.ref g) = true) (F : FnR X.prog X.w X.K X.mg X.base CX n g sp) (hr : Room n X.A) (hx : Passes CX X E) : OpR X (compareOp .Eq) (rOwnB X.K C sp E false) := by
  intro pins s σ H x y v u Q I rx ry h
  obtain ⟨a, dx, fs, t, rfl, ha, ty, nf, q⟩ := h
  cases (show v = Value.ref a from rx)
  obtain ⟨mA, J, _⟩ := ins_get I.hok ha
  obtain ⟨od, J, _⟩ := J.look
  obtain ⟨m, hF⟩ := I.fr
  obtain ⟨P, Z, hP, _⟩ := kit_of I ry ty
  show wpAny _ _ (richCompare .Eq (.ref a) u) _ _ s
  refine PySem.W.cmp_K (op := .Eq) hr.units0 hF I.ok.mod.kin J (Z.ty _ _ I.kIn hP) nf he hf ?_
  refine wpAny_mono (wpAny_call (SlX.run_at (us := [.ref a, u]) (ws := [.ref a, y]) F hr I.env0 hx I (.cons rfl (.cons ry .nil)) q)) (fun w' s' z => ?_) fun _ _ z => z
  obtain ⟨z', H', I', rz, b, rfl, q'⟩ := z
  cases (show w' = Value.bool b from rz)
  have q' : Q (.bl b) H' := by simpa using q'
  exact ⟨.bl b, H', I', rfl, q'⟩
theorem op_neO (he : PySem.W.findIn X.K (.ref C) "__eq__" = some (some (.ref g))) (hn : PySem.W.findIn X.K (.ref C) "__ne__" = some (some (.builtin "object.__ne__"))) (hm : PySem.W.mroIn X.K C (.type "object") = some true) (hf : PySem.W.isFn X.K (.ref g) = true)
    (F : FnR X.prog X.w X.K X.mg X.base CX n g sp) (hr : Room (n + 1) X.A) (hx : Passes CX X E) : OpR X (compareOp .NotEq) (rOwnB X.K C sp E true) := by
  intro pins s σ H x y v u Q I rx ry h
  obtain ⟨a, dx, fs, t, rfl, ha, ty, nf, q⟩ := h
  cases (show v = Value.ref a from rx)
  obtain ⟨mA, J, _⟩ := ins_get I.hok ha
  obtain ⟨od, J, _⟩ := J.look
  obtain ⟨P, Z, hP, _⟩ := kit_of I ry ty
  have hr1 : Room n X.A.in1 := hr.in1
  show wpAny _ _ (richCompare .NotEq (.ref a) u) _ _ s
  refine neRich (by have := hr1.units0; exact this) I.kIn J (Z.ty _ _ I.kIn hP) nf hm hn he hf ?_
  refine wpAny_mono (wpAny_call (SlX.run_at (us := [.ref a, u]) (ws := [.ref a, y]) F hr1 I.env0.in1 hx I (.cons rfl (.cons ry .nil)) q)) (fun w' s' z => ?_) fun _ _ z => z
  obtain ⟨z', H', I', rz, b, rfl, q'⟩ := z
  cases (show w' = Value.bool b from rz)
  have q' : Q (.bl (!b)) H' := by simpa using q'
  exact ⟨b, rfl, .bl (!b), H', I', rfl, q'⟩
end
end Ev
namespace Ev
open PySem L2 PySem.Spec PyProof.Rows
abbrev sIsInt : Stmt := top 14
abbrev sTInit : Stmt := inClass (top 23) 0
abbrev sTLen : Stmt := inClass (top 23) 1
abbrev sAmount : Stmt := inClass (top 23) 2
abbrev sTCall : Stmt := inClass (top 23) 3
abbrev sTEq : Stmt := inClass (top 23) 10
abbrev sIsL : Stmt := top 24
abbrev sAreP : Stmt := top 25
abbrev sPen : Stmt := top 29
abbrev sPick : Stmt := top 31
abbrev sSmall : Stmt := top 32
abbrev sNum : Stmt := top 33
abbrev sSum : Stmt := top 34
abbrev sHolds : Stmt := top 35
abbrev sLike : Stmt := top 36
abbrev sRight : Stmt := top 37
abbrev sLaw : Stmt := top 38
theorem same_new {H : Hp} {q : Addr} {o : HO} (n : H q = none) : Same H (upd H q o) := fun b u e => by rw [upd_ne (ne_of_none e n)]; exact e
theorem Same.gone {H H' : Hp} {p : Addr} (k : Same H H') (n : H' p = none) : H p = none := by
  cases z : H p with
  | none => rfl
  | some o => rw [k _ _ z] at n; cases n
section
variable {X : Cx}
theorem pe_never {e : Expr} : PE X e (fun _ _ _ => False) := ⟨fun _ _ _ _ _ _ h => h.elim⟩
theorem pe_or {e : Expr} {t t' : TE} (h : PE X e t) (h' : PE X e t') : PE X e (fun σ H Q => t σ H Q ∨ t' σ H Q) :=
  ⟨fun pins s σ H Q I q => q.elim (h.run pins s σ H Q I) (h'.run pins s σ H Q I)⟩
theorem pi_or {tg e : Expr} {t t' : TI} (h : PI X tg e t) (h' : PI X tg e t') : PI X tg e (fun σ H R => t σ H R ∨ t' σ H R) :=
  ⟨fun pins s σ H R I q => q.elim (h.run pins s σ H R I) (h'.run pins s σ H R I)⟩
theorem pe_imp {e : Expr} {t t' : TE} (h : PE X e t) (k : ∀ σ H Q, t' σ H Q → t σ H Q) : PE X e t' := ⟨fun pins s σ H Q I q => h.run pins s σ H Q I (k σ H Q q)⟩
end
theorem fnr_of {P : Program} {w : World} {K : PySem.W.Frag} {mg : Str → Option Value} {base : Heap} {CX : CXT} {k : Nat} {f : Addr} {fd : FuncData} {ps : List Str} {sp : Sp} (F : FnOk P w K mg base CX k f fd ps sp) (b : Binds K fd ps []) : FnR P w K mg base CX k f sp := by
  intro A above s H us vs Q E room env rv hs
  have hl : us.length = ps.length := rv.length.symm.trans (F.len _ _ _ _ hs)
  have bt := b s us (env.mod.kin.keeps fun b o e => (env.bs b o e).1) (by rw [List.append_nil]; exact hl)
  rw [List.append_nil] at bt
  exact F.run A above s H ⟨us, []⟩ us vs Q E room env bt rv hs
/-- a def that stands under its name -/
structure Df (P : Program) (w : World) (K : PySem.W.Frag) (mg : Str → Option Value) (base : Heap) (k : Nat) (x : Str) (ps : List Str) (sp : Sp) : Prop where
  ex : ∃ (f : Addr) (fd : FuncData), FnOk P w K mg base CX0 k f fd ps sp ∧ mg x = some (.ref f) ∧ PySem.W.keepIn K (.ref f) = true ∧ Binds K fd ps []
/-- a list or a tuple of ints -/
def Ints (H : Hp) (a : Addr) (ns : List Int) : Prop := H a = some (.lst (ns.map V.int)) ∨ H a = some (.tup (ns.map V.int))
theorem Ints.keep {H H' : Hp} {a : Addr} {ns : List Int} (h : Ints H a ns) (k : Same H H') : Ints H' a ns := h.imp (k _ _) (k _ _)
def testF (t : Addr) (b : Int) : List (Str × V) := [("parts", .ref t), ("bound", .int b)]
/-- a test: its parts and its bound -/
def TestAt (C : Addr) (H : Hp) (x : Addr) (ps : List Int) (b : Int) : Prop := ∃ dx t, H x = some (.ins C dx (testF t b)) ∧ H t = some (.tup (ps.map V.int))
theorem TestAt.keep {C : Addr} {H H' : Hp} {x : Addr} {ps : List Int} {b : Int} (h : TestAt C H x ps b) (k : Same H H') : TestAt C H' x ps b := by
  obtain ⟨dx, t, h1, h2⟩ := h
  exact ⟨dx, t, k _ _ h1, k _ _ h2⟩
def Sm (n : Int) : Prop := n.natAbs < 2 ^ 140
def AllSm (ns : List Int) : Prop := ∀ n ∈ ns, Sm n
def sumI (ps ns : List Int) : Int := (List.zipWith (fun a b => a * b) ps ns).sum
def spIsInt : Sp := fun vs H Q _ => ∃ i : Int, vs = [.int i] ∧ Q (.bl true) H
def spIsL : Sp := fun vs H Q _ => ∃ (a : Addr) (ns : List Int), vs = [.ref a] ∧ Ints H a ns ∧ ns.length ≤ 1000 ∧ ∀ H', Same H H' → Q (.bl true) H'
def spAreP : Sp := fun vs H Q _ => ∃ (a : Addr) (ns : List Int), vs = [.ref a] ∧ Ints H a ns ∧ 1 ≤ ns.length ∧ ns.length ≤ 5 ∧ ∀ H', Same H H' → Q (.bl true) H'
def spTInit (C : Addr) : Sp := fun vs H Q _ => ∃ (x dx a : Addr) (ns : List Int) (b : Int), vs = [.ref x, .ref a, .int b] ∧ H x = some (.ins C dx []) ∧ Ints H a ns ∧ 1 ≤ ns.length ∧ ns.length ≤ 5 ∧
  ∀ H' t, But x H H' → H' x = some (.ins C dx (testF t b)) → H' t = some (.tup (ns.map V.int)) → Q .non H'
def spTLen (C : Addr) : Sp := fun vs H Q _ => ∃ (x : Addr) (ps : List Int) (b : Int), vs = [.ref x] ∧ TestAt C H x ps b ∧ ps.length ≤ 1000 ∧ Q (.int ps.length) H
def spAmount (C : Addr) : Sp := fun vs H Q _ => ∃ (x a : Addr) (ps ns : List Int) (b : Int), vs = [.ref x, .ref a] ∧ TestAt C H x ps b ∧ Ints H a ns ∧ ps.length = ns.length ∧ ps.length ≤ 1000 ∧ AllSm ps ∧ AllSm ns ∧ ∀ H', Same H H' → Q (.int (sumI ps ns)) H'
def spTCall (C : Addr) : Sp := fun vs H Q _ => ∃ (x a : Addr) (ps ns : List Int) (b : Int), vs = [.ref x, .ref a] ∧ TestAt C H x ps b ∧ Ints H a ns ∧ ps.length = ns.length ∧ ps.length ≤ 1000 ∧ AllSm ps ∧ AllSm ns ∧ ∀ H', Same H H' → Q (.bl (decide (b ≤ sumI ps ns))) H'
theorem lk_hit {k : Str} {v : V} {l : List (Str × V)} : List.lookup k ((k, v) :: l) = some v := by simp [List.lookup]
theorem lk_miss {k k' : Str} {v : V} {l : List (Str × V)} (h : ¬ k = k') : List.lookup k ((k', v) :: l) = List.lookup k l := by
  have : (k == k') = false := by simpa using h
  simp [List.lookup, this]
theorem test_parts (t : Addr) (b : Int) : (testF t b).lookup ("parts" : Str) = some (.ref t) := lk_hit
theorem test_bound (t : Addr) (b : Int) : (testF t b).lookup ("bound" : Str) = some (.int b) := (lk_miss (by decide +kernel)).trans lk_hit
theorem put_test (t : Addr) (b : Int) : putF "bound" (.int b) (putF "parts" (.ref t) []) = testF t b := by
  show (if ("parts" : Str) = "bound" then _ else _) = _
  rw [if_neg (by decide +kernel)]
  rfl
def kk2 (C x dx t : Addr) (b : Int) (H2 : Hp) (Q : VK) : Prop := Q .non (upd (upd H2 x (.ins C dx (putF "parts" (.ref t) []))) x (.ins C dx (putF "bound" (.int b) (putF "parts" (.ref t) []))))
/-- the class of tests -/
structure TCls (K : PySem.W.Frag) (C : Addr) : Prop where
  cl : Cls K C
  n1 : NoAttr K C "parts"
  n2 : NoAttr K C "bound"
theorem walk_M {K : PySem.W.Frag} {a b : Addr} {xs ys : List V} {n : Nat} (hn : n = xs.length) (hl : xs.length = ys.length) : Walk (ItM K a b) n (fun H => SqT K H a xs ∧ SqL K H b ys) (YPair (fun i => xs[i]?) (fun i => ys[i]?)) := by
  subst hn
  refine ⟨fun i H hi q => ⟨xs, ys, q.1, q.2, hi, by omega⟩, fun H q => ⟨xs, ys, q.1, q.2, Nat.le_refl _, by omega, .inl rfl⟩, fun i H v H' hi q y => ?_⟩
  obtain ⟨T, x, z, h1, h2, h3, h4, h5⟩ := y
  exact ⟨T, x, z, h1, h2, h3, h4 xs q.1, h5 ys q.2⟩
theorem walk_TT {K : PySem.W.Frag} {a b : Addr} {xs ys : List V} {n : Nat} (hn : n = xs.length) (hl : xs.length = ys.length) : Walk (RZ.ItzT K a b) n (fun H => SqT K H a xs ∧ SqT K H b ys) (YPair (fun i => xs[i]?) (fun i => ys[i]?)) := by
  subst hn
  refine ⟨fun i H hi q => ⟨xs, ys, _, _, q.1, q.2, List.getElem?_eq_getElem hi, List.getElem?_eq_getElem (by omega)⟩, fun H q => ⟨xs, ys, q.1, q.2, .inl (Nat.le_refl _)⟩, fun i H v H' hi q y => ?_⟩
  obtain ⟨T, x, z, h1, h2, h3, h4, h5⟩ := y
  exact ⟨T, x, z, h1, h2, h3, h4 xs q.1, h5 ys q.2⟩
theorem int_at {ns : List Int} {i : Nat} {x : V} (h : (ns.map V.int)[i]? = some x) : ∃ n, ns[i]? = some n ∧ x = .int n := by
  rw [List.getElem?_map] at h
  cases z : ns[i]? with
  | none => rw [z] at h; cases h
  | some n => rw [z] at h; exact ⟨n, rfl, (Option.some.inj h).symm⟩
theorem zip_at {ps ns : List Int} {i : Nat} {p n : Int} (h1 : ps[i]? = some p) (h2 : ns[i]? = some n) : (List.zipWith (fun a b => a * b) ps ns)[i]? = some (p * n) := by
  rw [List.getElem?_zipWith, h1, h2]
theorem mulW {p n : Int} (h1 : Sm p) (h2 : Sm n) : CMulW p n := wide_mul h1 h2 (by decide) (by decide) (by decide)
section
variable {P : Program} {w : World} {K : PySem.W.Frag} {mg : Str → Option Value} {base : Heap}
theorem scIsInt : FnScope ["value"] ["value"] (defScope sIsInt) := ⟨rfl, rfl, rfl, by decide +kernel, rfl, by decide +kernel, by decide +kernel⟩
theorem ok_isInt {f : Addr} {fd : FuncData} (F : Fun K "is_integer" "is_integer" sIsInt f fd) (T : Blt mg) : FnOk P w K mg base CX0 1 f fd ["value"] spIsInt := by
  refine F.ok scIsInt (fun vs H Q E h => ?_) (fun cdv A outer s H vs Q E hr h => ?_)
  · obtain ⟨i, rfl, _⟩ := h
    rfl
  · obtain ⟨i, rfl, k⟩ := h
    refine ⟨_, pss_one (ps_ret (pe_and (pe_callB call_isi (by rfl) T.isi (by decide +kernel) (pa_cons (pv 0) (pa_cons (pe_bltn (v := .ty "int") (by rfl) T.int (by decide +kernel) rfl) pa_nil)))
      (pe_one (pe_not (pe_callB call_isi (by rfl) T.isi (by decide +kernel) (pa_cons (pv 0) (pa_cons (pe_bltn (v := .ty "bool") (by rfl) T.bool (by decide +kernel) rfl) pa_nil))))))), ?_⟩
    exact ⟨_, rfl, _, _, _, _, true, rfl, .ty _, .base (.int i), kit_ty (by decide +kernel), true, rfl, iteT ⟨_, rfl, _, _, _, _, false, rfl, .ty _, .base (.int i), kit_ty (by decide +kernel), _, rfl, k⟩⟩
theorem kit_any2 {T a b : String} {r1 r2 : Bool} (h1 : kitB T a = some r1) (h2 : kitB T b = some r2) : PySem.W.kitAny K (.type T) [.type a, .type b] = some (r1 || r2) := by
  refine kitAny_cons (kit_ty h1) (fun e => ?_) (fun e => by rw [e]; rfl)
  refine kitAny_cons (kit_ty h2) (fun e2 => ?_) (fun e2 => by rw [e, e2]; rfl)
  rw [e, e2]
  exact kitAny_nil
theorem scIsL : FnScope ["value", "item"] ["value"] (defScope sIsL) := ⟨rfl, rfl, rfl, by decide +kernel, rfl, by decide +kernel, by decide +kernel⟩
theorem all_true (n : Nat) : (List.replicate n true).all id = true := by
  induction n with
  | zero => rfl
  | succ n ih => rw [List.replicate_succ, List.all_cons, ih]; rfl
theorem ok_isL {f : Addr} {fd : FuncData} (F : Fun K "is_list_of_integers" "is_list_of_integers" sIsL f fd) (T : Blt mg) (D : Df P w K mg base 1 "is_integer" ["value"] spIsInt) : FnOk P w K mg base CX0 2 f fd ["value"] spIsL := by
  refine F.ok scIsL (fun vs H Q E h => ?_) (fun cdv A outer s H vs Q E hr h => ?_)
  · obtain ⟨a, ns, rfl, _⟩ := h
    rfl
  · obtain ⟨a, ns, rfl, ha, hn, k⟩ := h
    refine ⟨_, pss_cons (ps_if (pt_not (pt_val (pe_callB call_isiT (by rfl) T.isi (by decide +kernel) (pa_cons (pv 0) (pa_cons (pe_tup (pa_cons (pe_bltn (v := .ty "list") (by rfl) T.list (by decide +kernel) rfl) (pa_cons (pe_bltn (v := .ty "tuple") (by rfl) T.tuple (by decide +kernel) rfl) pa_nil))) pa_nil))))) (pss_one ps_never) pss_nil)
      (pss_cons (ps_for PassesOwn.never rfl (pi_or (pi_list (pv 0)) (pi_tup (pv 0))) (pg_name (i := 1) scIsL.nd rfl (.inl rfl))
        (pss_one (ps_if (PW.pt (pw_or (pt_not (pt_val (pe_callB call_isi (by rfl) T.isi (by decide +kernel) (pa_cons (pv 1) (pa_cons (pe_bltn (v := .ty "int") (by rfl) T.int (by decide +kernel) rfl) pa_nil))))) (pw_or1 (pt_val (pe_callB call_isi (by rfl) T.isi (by decide +kernel) (pa_cons (pv 1) (pa_cons (pe_bltn (v := .ty "bool") (by rfl) T.bool (by decide +kernel) rfl) pa_nil))))))) (pss_one ps_never) pss_nil)))
      (pss_one (ps_ret pe_bl))), ?_⟩
    have turn : ∀ {x : V} {i : Nat}, (ns.map V.int)[i]? = some x → ∃ n, V.int n = x := fun {x i} hx => by
      rw [List.getElem?_map] at hx
      cases z : ns[i]? with
      | none => rw [z] at hx; cases hx
      | some n => rw [z] at hx; exact ⟨n, Option.some.inj hx⟩
    rcases ha with ha | ha
    · refine ⟨_, rfl, (by show 2 ≤ sizeLine; decide), fun tp ntp => ⟨.ref a, tp, _, _, _, true, rfl, upd_same, .cons (.ty _) (.cons (.ty _) .nil), .base (.lst (same_new ntp _ _ ha)), kit_any2 (r1 := true) (r2 := false) (by decide +kernel) (by decide +kernel), _, rfl, iteF ?_⟩⟩
      have s1 := same_new (o := .tup [.ty "list", .ty "tuple"]) ntp
      have h1 := s1 _ _ ha
      generalize upd H tp (.tup [.ty "list", .ty "tuple"]) = H1 at s1 h1 ⊢
      refine .inl ⟨_, rfl, a, rfl, ⟨_, SqL.of h1⟩, ?_⟩
      have wk : Walk (Itl K a) ns.length (fun H => SqL K H a (ns.map V.int)) (YAt (ns.map V.int)) := by
        have w := walk_list (K := K) (a := a) (xs := ns.map V.int)
        rw [List.length_map] at w
        exact w
      refine for_it wk (fun i σ H' => H' = H1 ∧ ∃ z, σ = [some (.ref a), z]) ⟨rfl, _, rfl⟩ (fun i σ H' _ h => by rw [h.1]; exact SqL.of h1) (fun i v σ H2 H3 hi h y => ?_) (fun σ H' h => ?_)
      · obtain ⟨rfl, z, rfl⟩ := h
        obtain ⟨rfl, hx⟩ := y
        obtain ⟨n, rfl⟩ := turn hx
        exact ⟨_, rfl, _, _, _, _, true, rfl, .ty _, .base (.int n), kit_ty (by decide +kernel), _, rfl, iteF ⟨_, rfl, _, _, _, _, false, rfl, .ty _, .base (.int n), kit_ty (by decide +kernel), _, rfl, iteF ⟨rfl, _, rfl⟩⟩⟩
      · obtain ⟨rfl, z, rfl⟩ := h
        exact k _ s1
    · refine ⟨_, rfl, (by show 2 ≤ sizeLine; decide), fun tp ntp => ⟨.ref a, tp, _, _, _, true, rfl, upd_same, .cons (.ty _) (.cons (.ty _) .nil), .base (.tup (same_new ntp _ _ ha)), kit_any2 (r1 := false) (r2 := true) (by decide +kernel) (by decide +kernel), _, rfl, iteF ?_⟩⟩
      have s1 := same_new (o := .tup [.ty "list", .ty "tuple"]) ntp
      have h1 := s1 _ _ ha
      generalize upd H tp (.tup [.ty "list", .ty "tuple"]) = H1 at s1 h1 ⊢
      refine .inr ⟨_, rfl, a, rfl, ⟨_, SqT.of h1⟩, ?_⟩
      have wk : Walk (Itt K a) ns.length (fun H => SqT K H a (ns.map V.int)) (YAt (ns.map V.int)) := by
        have w := walk_tup (K := K) (a := a) (xs := ns.map V.int)
        rw [List.length_map] at w
        exact w
      refine for_it wk (fun i σ H' => H' = H1 ∧ ∃ z, σ = [some (.ref a), z]) ⟨rfl, _, rfl⟩ (fun i σ H' _ h => by rw [h.1]; exact SqT.of h1) (fun i v σ H2 H3 hi h y => ?_) (fun σ H' h => ?_)
      · obtain ⟨rfl, z, rfl⟩ := h
        obtain ⟨rfl, hx⟩ := y
        obtain ⟨n, rfl⟩ := turn hx
        exact ⟨_, rfl, _, _, _, _, true, rfl, .ty _, .base (.int n), kit_ty (by decide +kernel), _, rfl, iteF ⟨_, rfl, _, _, _, _, false, rfl, .ty _, .base (.int n), kit_ty (by decide +kernel), _, rfl, iteF ⟨rfl, _, rfl⟩⟩⟩
      · obtain ⟨rfl, z, rfl⟩ := h
        exact k _ s1
theorem Ints.sq {H : Hp} {a : Addr} {ns : List Int} (h : Ints H a ns) : SqL K H a (ns.map V.int) ∨ SqT K H a (ns.map V.int) := h.imp SqL.of SqT.of
theorem scAreP : FnScope ["value"] ["value"] (defScope sAreP) := ⟨rfl, rfl, rfl, by decide +kernel, rfl, by decide +kernel, by decide +kernel⟩
theorem ok_areP {f : Addr} {fd : FuncData} (F : Fun K "are_parts" "are_parts" sAreP f fd) (T : Blt mg) (D : Df P w K mg base 2 "is_list_of_integers" ["value"] spIsL) {t : Tok} (gM : mg "MOST_PARTS" = some (.int 5 t)) : FnOk P w K mg base CX0 3 f fd ["value"] spAreP := by
  obtain ⟨f1, fd1, G1, g1, k1, b1⟩ := D.ex
  refine F.ok scAreP (fun vs H Q E h => ?_) (fun cdv A outer s H vs Q E hr h => ?_)
  · obtain ⟨a, ns, rfl, _⟩ := h
    rfl
  · obtain ⟨a, ns, rfl, ha, n1, n5, k⟩ := h
    refine ⟨_, pss_one (ps_ret (pe_and (pe_call G1 hr (by rfl) g1 k1 b1 .nil pass0 (pa_cons (pv 0) pa_nil)) (pe_one (pe_chain op_le op_le pe_int (pe_callB call_len_seq (by rfl) T.len PySem.boot_len (pa_cons (pv 0) pa_nil)) (pe_glob (v := .int 5) rfl gM ⟨_, rfl⟩))))), ?_⟩
    refine ⟨_, rfl, a, ns, rfl, ha, by omega, fun H1 s1 => ⟨_, rfl, iteT ?_⟩⟩
    have h1 := ha.keep s1
    refine ⟨_, rfl, a, _, rfl, h1.sq, _, _, rfl, rfl, _, rfl, ?_⟩
    rw [List.length_map, decide_eq_true (show (1 : Int) ≤ (ns.length : Int) by omega)]
    refine iteT ⟨_, _, rfl, rfl, ?_⟩
    have k2 := k H1 s1
    show Q (.bl (decide ((ns.length : Int) ≤ 5))) H1
    rw [decide_eq_true (show (ns.length : Int) ≤ 5 by omega)]
    exact k2
theorem scTInit : FnScope ["self", "parts", "bound"] ["self", "parts", "bound"] (defScope sTInit) := ⟨rfl, rfl, rfl, by decide +kernel, rfl, by decide +kernel, by decide +kernel⟩
theorem ok_tInit {f C : Addr} {fd : FuncData} (F : Fun K "__init__" "Test.__init__" sTInit f fd) (T : Blt mg) (TC : TCls K C) (D1 : Df P w K mg base 3 "are_parts" ["value"] spAreP) (D2 : Df P w K mg base 1 "is_integer" ["value"] spIsInt) : FnOk P w K mg base CX0 4 f fd ["self", "parts", "bound"] (spTInit C) := by
  obtain ⟨f1, fd1, G1, g1, k1, b1⟩ := D1.ex
  obtain ⟨f2, fd2, G2, g2, k2, b2⟩ := D2.ex
  refine F.ok scTInit (fun vs H Q E h => ?_) (fun cdv A outer s H vs Q E hr h => ?_)
  · obtain ⟨x, dx, a, ns, b, rfl, _⟩ := h
    rfl
  · obtain ⟨x, dx, a, ns, b, rfl, hx, ha, n1, n5, kk⟩ := h
    refine ⟨_, PSs.nox (pss_cons (ps_if (pt_not (pt_val (pe_call G1 hr (by rfl) g1 k1 b1 .nil pass0 (pa_cons (pv 1) pa_nil)))) (pss_one ps_never) pss_nil)
      (pss_cons (ps_if (pt_not (pt_val (pe_call G2 (hr.mono (by decide)) (by rfl) g2 k2 b2 .nil pass0 (pa_cons (pv 2) pa_nil)))) (pss_one ps_never) pss_nil)
      (pss_cons (ps_fld (pv 0) (pe_callTy call_tuple_of (by rfl) T.tuple (by decide +kernel) (pa_cons (pv 1) pa_nil)) rfl) (pss_one (ps_fld (pv 0) (pv 2) rfl))))), ?_⟩
    refine ⟨_, rfl, a, ns, rfl, ha, n1, n5, fun H1 s1 => ⟨true, rfl, iteF ?_⟩⟩
    refine ⟨_, rfl, b, rfl, true, rfl, iteF ?_⟩
    have hx1 := s1 _ _ hx
    have tail : ∀ (t : Addr) (H2 : Hp), Same H1 H2 → H2 t = some (.tup (ns.map V.int)) → H2 x = some (.ins C dx []) → kk2 C x dx t b H2 Q := fun t H2 s2 ht hx2 => by
      have tx : t ≠ x := ne_of ht hx2 (by intro z; cases z)
      refine kk _ t (fun c o n e => ?_) ?_ ?_
      · rw [upd_ne n, upd_ne n]; exact s2 _ _ (s1 _ _ e)
      · rw [upd_same, put_test]
      · rw [upd_ne tx, upd_ne tx]; exact ht
    rcases ha.keep s1 with h1 | h1
    · refine ⟨_, rfl, a, _, rfl, .inl ⟨SqL.of h1, fun l nl => ?_⟩⟩
      have hx2 := same_new (o := .tup (ns.map V.int)) nl _ _ hx1
      exact ⟨_, rfl, x, C, dx, _, rfl, hx2, TC.cl, TC.n1, (by show 0 < 1000; decide), _, rfl, _, rfl, x, C, dx, _, rfl, upd_same, TC.cl, TC.n2, (by show 1 < 1000; decide), tail l _ (same_new nl) upd_same hx2⟩
    · exact ⟨_, rfl, a, _, rfl, .inr ⟨SqT.of h1, _, rfl, x, C, dx, _, rfl, hx1, TC.cl, TC.n1, (by show 0 < 1000; decide), _, rfl, _, rfl, x, C, dx, _, rfl, upd_same, TC.cl, TC.n2, (by show 1 < 1000; decide), tail a _ (Same.refl _) h1 hx1⟩⟩
theorem scTLen : FnScope ["self"] ["self"] (defScope sTLen) := ⟨rfl, rfl, rfl, by decide +kernel, rfl, by decide +kernel, by decide +kernel⟩
theorem ok_tLen {f C : Addr} {fd : FuncData} (F : Fun K "__len__" "Test.__len__" sTLen f fd) (T : Blt mg) (TC : TCls K C) : FnOk P w K mg base CX0 1 f fd ["self"] (spTLen C) := by
  refine F.ok scTLen (fun vs H Q E h => ?_) (fun cdv A outer s H vs Q E hr h => ?_)
  · obtain ⟨x, ps, b, rfl, _⟩ := h
    rfl
  · obtain ⟨x, ps, b, rfl, ⟨dx, t, hx, ht⟩, n1, kk⟩ := h
    refine ⟨_, pss_one (ps_ret (pe_callB call_len_seq (by rfl) T.len PySem.boot_len (pa_cons (pe_fld (pv 0) rfl) pa_nil))), ?_⟩
    refine ⟨_, rfl, x, C, dx, _, _, rfl, hx, TC.cl, TC.n1, test_parts t b, t, _, rfl, .inr (SqT.of ht), ?_⟩
    rw [List.length_map]
    exact kk
theorem scAmount : FnScope ["self", "numbers", "total", "part", "number"] ["self", "numbers"] (defScope sAmount) := ⟨rfl, rfl, rfl, by decide +kernel, rfl, by decide +kernel, by decide +kernel⟩
theorem ok_amount {f C : Addr} {fd : FuncData} (F : Fun K "amount" "Test.amount" sAmount f fd) (T : Blt mg) (msum : mg "sum" = none) (mzip : mg "zip" = none) (TC : TCls K C) (D1 : Df P w K mg base 2 "is_list_of_integers" ["value"] spIsL) : FnOk P w K mg base CX0 3 f fd ["self", "numbers"] (spAmount C) := by
  refine F.ok scAmount (fun vs H Q E h => ?_) (fun cdv A outer s H vs Q E hr h => ?_)
  · obtain ⟨x, a, ps, ns, b, rfl, _⟩ := h
    rfl
  · obtain ⟨x, a, ps, ns, b, rfl, tt, ha, hl, n1, sp1, sp2, kk⟩ := h
    refine ⟨_, (pss_cons (ps_if (PW.pt (pw_or (pt_not (pt_val (pe_callB call_isiT (by rfl) T.isi (by decide +kernel) (pa_cons (pv 1) (pa_cons (pe_tup (pa_cons (pe_bltn (v := .ty "list") (by rfl) T.list (by decide +kernel) rfl) (pa_cons (pe_bltn (v := .ty "tuple") (by rfl) T.tuple (by decide +kernel) rfl) pa_nil))) pa_nil)))))
        (pw_or1 (pt_cmpR op_ne (pe_callB call_len_seq (by rfl) T.len PySem.boot_len (pa_cons (pv 1) pa_nil)) (pe_callB call_len_seq (by rfl) T.len PySem.boot_len (pa_cons (pe_fld (pv 0) rfl) pa_nil)) (nomark _))))) (pss_one ps_never) pss_nil)
      (pss_cons (ps_set (i := 2) scAmount.nd rfl (.inl rfl) pe_int)
      (pss_cons (ps_for PassesOwn.never rfl (pi_or (pi_zipM rfl mzip (pa_cons (pe_fld (pv 0) rfl) (pa_cons (pv 1) pa_nil))) (RZ.pi_zipA rfl mzip (pa_cons (pe_fld (pv 0) rfl) (pa_cons (pv 1) pa_nil)))) (pg_tup (by rfl) (pgs_cons (pg_name (i := 3) scAmount.nd rfl (.inl rfl)) (pgs_cons (pg_name (i := 4) scAmount.nd rfl (.inl rfl)) pgs_nil)))
        (pss_cons (ps_if (PW.pt (pw_or (pt_not (pt_val (pe_callB call_isi (by rfl) T.isi (by decide +kernel) (pa_cons (pv 4) (pa_cons (pe_bltn (v := .ty "int") (by rfl) T.int (by decide +kernel) rfl) pa_nil))))) (pw_or1 (pt_val (pe_callB call_isi (by rfl) T.isi (by decide +kernel) (pa_cons (pv 4) (pa_cons (pe_bltn (v := .ty "bool") (by rfl) T.bool (by decide +kernel) rfl) pa_nil))))))) (pss_one ps_never) pss_nil)
        (pss_one (ps_set (i := 2) scAmount.nd rfl (.inl rfl) (pe_op op_add (pv 2) (pe_op op_mulW (pv 3) (pv 4)))))))
      (pss_one (ps_ret (pv 2)))))), ?_⟩
    obtain ⟨dx, t, hx, ht⟩ := id tt
    refine ⟨_, rfl, (by show 2 ≤ sizeLine; decide), fun tp ntp => ?_⟩
    have s1 := same_new (o := .tup [.ty "list", .ty "tuple"]) ntp
    have hT1 : upd H tp (.tup [.ty "list", .ty "tuple"]) tp = some (.tup [.ty "list", .ty "tuple"]) := upd_same
    generalize upd H tp (.tup [.ty "list", .ty "tuple"]) = H1 at s1 hT1 ⊢
    have h1 := ha.keep s1
    have hx1 := s1 _ _ hx
    have ht1 := s1 _ _ ht
    have isi : ∃ u : Value, TyX K H1 (.ref a) u ∧ PySem.W.kitAny K u [.type "list", .type "tuple"] = some true := by
      rcases h1 with h1 | h1
      · exact ⟨_, .base (.lst h1), kit_any2 (r1 := true) (r2 := false) (by decide +kernel) (by decide +kernel)⟩
      · exact ⟨_, .base (.tup h1), kit_any2 (r1 := false) (r2 := true) (by decide +kernel) (by decide +kernel)⟩
    obtain ⟨u, ty, ki⟩ := isi
    refine ⟨.ref a, tp, _, _, _, true, rfl, hT1, .cons (.ty _) (.cons (.ty _) .nil), ty, ki, _, rfl, iteF ?_⟩
    refine ⟨_, rfl, a, _, rfl, h1.sq, _, rfl, x, C, dx, _, _, rfl, hx1, TC.cl, TC.n1, test_parts t b, t, _, rfl, .inr (SqT.of ht1), rfl, _, rfl, ?_⟩
    rw [List.length_map, List.length_map, hl]
    refine ite2 (fun e => absurd e (by simp)) (fun _ => ?_)
    have hz : (List.zipWith (fun a b => a * b) ps ns).length = ps.length := by rw [List.length_zipWith]; omega
    have sumS : ∀ {L : List Int} {i : Nat} {z : Int}, L[i]? = some z → (L.take (i + 1)).sum = (L.take i).sum + z := fun {L i z} h => by
      rw [List.take_add_one, h, List.sum_append]
      simp
    have turn : ∀ (i : Nat) (H2 H3 : Hp) (v : V) (x3 x4 : Option V), i < ps.length → Same H1 H2 → YPair (fun i => (ps.map V.int)[i]?) (fun i => (ns.map V.int)[i]?) i H2 v H3 →
        ∃ (T' : Addr) (p n : Int), v = .ref T' ∧ SqT K H3 T' [.int p, .int n] ∧ Same H1 H3 ∧ CMulW p n ∧ ((List.zipWith (fun a b => a * b) ps ns).take i).sum + p * n = ((List.zipWith (fun a b => a * b) ps ns).take (i + 1)).sum := by
      intro i H2 H3 v x3 x4 hi s2 y
      obtain ⟨T', u, z, rfl, nT, rfl, h4, h5⟩ := y
      obtain ⟨p, hp, rfl⟩ := int_at h4
      obtain ⟨n, hn, rfl⟩ := int_at h5
      exact ⟨T', p, n, rfl, SqT.of upd_same, s2.trans (same_new nT), mulW (sp1 p (List.mem_of_getElem? hp)) (sp2 n (List.mem_of_getElem? hn)), (sumS (zip_at hp hn)).symm⟩
    rcases h1 with h1 | h1
    · refine .inl ⟨_, rfl, x, C, dx, _, _, rfl, hx1, TC.cl, TC.n1, test_parts t b, _, rfl, t, a, _, _, rfl, SqT.of ht1, SqL.of h1, ?_⟩
      refine for_it (walk_M (xs := ps.map V.int) (ys := ns.map V.int) (n := ps.length) (by simp) (by simpa using hl)) (fun i σ G => Same H1 G ∧ ∃ x3 x4, σ = [some (.ref x), some (.ref a), some (.int (((List.zipWith (fun a b => a * b) ps ns).take i).sum)), x3, x4]) ⟨Same.refl _, none, none, rfl⟩
        (fun i σ G _ h => ⟨SqT.of (h.1 _ _ ht1), SqL.of (h.1 _ _ h1)⟩) (fun i v σ G2 G3 hi h y => ?_) (fun σ G h => ?_)
      · obtain ⟨s2, x3, x4, rfl⟩ := h
        obtain ⟨T', p, n, rfl, hT, s3, hm, es⟩ := turn i G2 G3 v x3 x4 hi s2 y
        refine ⟨T', _, rfl, hT, rfl, _, _, rfl, _, _, rfl, rfl, ?_⟩
        refine ⟨_, rfl, _, _, _, _, true, rfl, .ty _, .base (.int n), kit_ty (by decide +kernel), _, rfl, iteF ⟨_, rfl, _, _, _, _, false, rfl, .ty _, .base (.int n), kit_ty (by decide +kernel), _, rfl, iteF ?_⟩⟩
        refine ⟨_, rfl, _, rfl, _, rfl, p, n, rfl, rfl, hm, _, _, rfl, rfl, s3, some (.int p), some (.int n), ?_⟩
        rw [← es]
        rfl
      · obtain ⟨s2, x3, x4, rfl⟩ := h
        refine ⟨_, rfl, ?_⟩
        rw [show ps.length = (List.zipWith (fun a b => a * b) ps ns).length from hz.symm, List.take_length]
        exact kk G (s1.trans s2)
    · refine .inr ⟨_, rfl, x, C, dx, _, _, rfl, hx1, TC.cl, TC.n1, test_parts t b, _, rfl, t, a, _, _, rfl, .inr ⟨SqT.of ht1, SqT.of h1, ?_⟩⟩
      refine for_it (walk_TT (xs := ps.map V.int) (ys := ns.map V.int) (n := ps.length) (by simp) (by simpa using hl)) (fun i σ G => Same H1 G ∧ ∃ x3 x4, σ = [some (.ref x), some (.ref a), some (.int (((List.zipWith (fun a b => a * b) ps ns).take i).sum)), x3, x4]) ⟨Same.refl _, none, none, rfl⟩
        (fun i σ G _ h => ⟨SqT.of (h.1 _ _ ht1), SqT.of (h.1 _ _ h1)⟩) (fun i v σ G2 G3 hi h y => ?_) (fun σ G h => ?_)
      · obtain ⟨s2, x3, x4, rfl⟩ := h
        obtain ⟨T', p, n, rfl, hT, s3, hm, es⟩ := turn i G2 G3 v x3 x4 hi s2 y
        refine ⟨T', _, rfl, hT, rfl, _, _, rfl, _, _, rfl, rfl, ?_⟩
        refine ⟨_, rfl, _, _, _, _, true, rfl, .ty _, .base (.int n), kit_ty (by decide +kernel), _, rfl, iteF ⟨_, rfl, _, _, _, _, false, rfl, .ty _, .base (.int n), kit_ty (by decide +kernel), _, rfl, iteF ?_⟩⟩
        refine ⟨_, rfl, _, rfl, _, rfl, p, n, rfl, rfl, hm, _, _, rfl, rfl, s3, some (.int p), some (.int n), ?_⟩
        rw [← es]
        rfl
      · obtain ⟨s2, x3, x4, rfl⟩ := h
        refine ⟨_, rfl, ?_⟩
        rw [show ps.length = (List.zipWith (fun a b => a * b) ps ns).length from hz.symm, List.take_length]
        exact kk G (s1.trans s2)
end
end Ev
namespace Ev
open PySem L2 PySem.Spec PyProof.Rows
def eqT (ps : List Int) (b : Int) (qs : List Int) (c : Int) : Bool := decide (ps = qs) && decide (V.int b = V.int c)
theorem sh_intsT (ns : List Int) : SeqAt.shaped (.tuple (ns.map PyData.int)) = true := by
  have h := sh_ints ns
  unfold SeqAt.shaped at h ⊢
  simpa [PyData.canLay0, PyData.depth] using h
theorem eqv_tupI (ps qs : List Int) : PyData.eqv (.tuple (ps.map PyData.int)) (.tuple (qs.map PyData.int)) = decide (ps = qs) := by
  have h : ∀ ps qs : List Int, PyData.eqvAll (ps.map PyData.int) (qs.map PyData.int) = decide (ps = qs) := by
    intro ps
    induction ps with
    | nil => intro qs; cases qs <;> simp [PyData.eqvAll]
    | cons a r ih =>
      intro qs
      cases qs with
      | nil => simp [PyData.eqvAll]
      | cons c t =>
        simp only [List.map_cons, PyData.eqvAll, ih t, PyData.eqv]
        by_cases e1 : a = c <;> by_cases e2 : r = t <;> simp [e1, e2]
  simp only [PyData.eqv, h]
/-- an instance's kind -/
structure InsT (K : PySem.W.Frag) (C : Addr) : Prop where
  ha : PySem.W.findIn K (.ref C) "__class__" = some (some (.builtin "object.__class__"))
  hn : PySem.W.specialIn K (.builtin "object.__class__") "__get__" = some (some (.builtin "getset_descriptor.__get__"))
  htk : PySem.W.takesIn K (.builtin "object.__class__") = some true
  hm : PySem.W.mroIn K C (.type "object") = some true
  ic : PySem.W.isClsIn K C = true
  tt : PySem.W.typeIn K (.ref C) = some (.type "type")
theorem tyTest {K : PySem.W.Frag} {C : Addr} {H : Hp} {x : Addr} {ps : List Int} {b : Int} (TC : TCls K C) (IT : InsT K C) (h : TestAt C H x ps b) : TyX K H (.ref x) (.ref C) := by
  obtain ⟨dx, t, h1, h2⟩ := h
  exact .base (.ins h1 TC.cl IT.ha IT.hn IT.htk IT.hm)
/-- a value of a built-in type, no test -/
def NoTest (H : Hp) (y : V) : Prop := ∃ (T : String) (l : List String), (∀ (K : PySem.W.Frag) (H' : Hp), Same H H' → TyX K H' y (.type T)) ∧ fastBuiltinMro T = some (l.map Value.type)
theorem noTest_lst {H : Hp} {a : Addr} {xs : List V} (h : H a = some (.lst xs)) : NoTest H (.ref a) := ⟨"list", ["list", "object"], fun _ _ k => .base (.lst (k _ _ h)), by decide +kernel⟩
theorem noTest_tup {H : Hp} {a : Addr} {xs : List V} (h : H a = some (.tup xs)) : NoTest H (.ref a) := ⟨"tuple", ["tuple", "object"], fun _ _ k => .base (.tup (k _ _ h)), by decide +kernel⟩
theorem noTest_non (H : Hp) : NoTest H .non := ⟨"NoneType", ["NoneType", "object"], fun _ _ _ => .base .non, by decide +kernel⟩
theorem noTest_int (H : Hp) (i : Int) : NoTest H (.int i) := ⟨"int", ["int", "object"], fun _ _ _ => .base (.int i), by decide +kernel⟩
theorem NoTest.keep {H H' : Hp} {y : V} (h : NoTest H y) (k : Same H H') : NoTest H' y := by
  obtain ⟨T, l, h1, h2⟩ := h
  exact ⟨T, l, fun K G q => h1 K G (k.trans q), h2⟩
theorem sub_no {K : PySem.W.Frag} {C : Addr} {T : String} {l : List String} (h : fastBuiltinMro T = some (l.map Value.type)) : PySem.W.subIn K (.type T) (.ref C) = some false := by
  show (fastBuiltinMro T).map (·.contains (.ref C)) = some false
  rw [h]
  have z : (l.map Value.type).contains (.ref C) = false := by
    rw [Bool.eq_false_iff]
    intro z
    have m := List.contains_iff_mem.mp z
    simp at m
  exact congrArg some z
theorem kit_no {K : PySem.W.Frag} {C : Addr} {T : String} {l : List String} (IT : InsT K C) (h : fastBuiltinMro T = some (l.map Value.type)) : PySem.W.kitOne K (.type T) (.ref C) = some false := by
  have h1 : (PySem.W.clsIn K C).isSome = true := IT.ic
  unfold PySem.W.kitOne
  rw [show ((Value.type T) == (Value.ref C)) = false from by simp, if_neg Bool.false_ne_true]
  unfold PySem.W.kitCls
  simp only [h1, IT.tt, sub_no h]
  decide
theorem kit_self {K : PySem.W.Frag} {C : Addr} : PySem.W.kitOne K (.ref C) (.ref C) = some true := by
  unfold PySem.W.kitOne
  rw [if_pos (by simp)]
def spTEq (C : Addr) : Sp := fun vs H Q _ => ∃ (x : Addr) (y : V) (ps : List Int) (b : Int), vs = [.ref x, y] ∧ TestAt C H x ps b ∧
  ((∃ z qs c, y = .ref z ∧ TestAt C H z qs c ∧ Q (.bl (eqT ps b qs c)) H) ∨ (NoTest H y ∧ Q (.bl false) H))
section
variable {P : Program} {w : World} {K : PySem.W.Frag} {mg : Str → Option Value} {base : Heap}
theorem scTCall : FnScope ["self", "numbers"] ["self", "numbers"] (defScope sTCall) := ⟨rfl, rfl, rfl, by decide +kernel, rfl, by decide +kernel, by decide +kernel⟩
theorem ok_tCall {f fA C : Addr} {fd fdA : FuncData} (F : Fun K "__call__" "Test.__call__" sTCall f fd) (TC : TCls K C) (GA : FnOk P w K mg base CX0 3 fA fdA ["self", "numbers"] (spAmount C)) (bA : Binds K fdA ["self", "numbers"] []) (mA : Meth K C "amount" fA) : FnOk P w K mg base CX0 4 f fd ["self", "numbers"] (spTCall C) := by
  refine F.ok scTCall (fun vs H Q E h => ?_) (fun cdv A outer s H vs Q E hr h => ?_)
  · obtain ⟨x, a, ps, ns, b, rfl, _⟩ := h
    rfl
  · obtain ⟨x, a, ps, ns, b, rfl, tt, ha, hl, n1, sp1, sp2, kk⟩ := h
    obtain ⟨dx, t, hx, ht⟩ := id tt
    refine ⟨_, pss_one (ps_ret (pe_cmpR op_ge (pe_meth (pv 0) TC.cl mA GA hr bA .nil pass0 (pa_cons (pv 1) pa_nil)) (pe_fld (pv 0) rfl) (nomark _))), ?_⟩
    refine ⟨_, rfl, x, dx, _, rfl, hx, ?_, _, rfl, x, a, ps, ns, b, rfl, tt, ha, hl, n1, sp1, sp2, fun H1 s1 => ?_⟩
    · exact (lk_miss (by decide +kernel)).trans ((lk_miss (by decide +kernel)).trans rfl)
    · exact ⟨_, rfl, x, C, dx, _, _, rfl, s1 _ _ hx, TC.cl, TC.n2, test_bound t b, _, _, rfl, rfl, kk H1 s1⟩
theorem scTEq : FnScope ["self", "other"] ["self", "other"] (defScope sTEq) := ⟨rfl, rfl, rfl, by decide +kernel, rfl, by decide +kernel, by decide +kernel⟩
theorem ok_tEq {f C : Addr} {fd : FuncData} (F : Fun K "__eq__" "Test.__eq__" sTEq f fd) (T : Blt mg) (TC : TCls K C) (IT : InsT K C) (gC : mg "Test" = some (.ref C)) : FnOk P w K mg base CX0 1 f fd ["self", "other"] (spTEq C) := by
  refine F.ok scTEq (fun vs H Q E h => ?_) (fun cdv A outer s H vs Q E hr h => ?_)
  · obtain ⟨x, y, ps, b, rfl, _⟩ := h
    rfl
  · obtain ⟨x, y, ps, b, rfl, tt, h⟩ := h
    obtain ⟨dx, t, hx, ht⟩ := id tt
    refine ⟨_, pss_one (ps_ret (pe_and (pe_callB call_isi (by rfl) T.isi (by decide +kernel) (pa_cons (pv 1) (pa_cons (pe_glob (v := .ref C) rfl gC rfl) pa_nil)))
      (pe_and (pe_cmpR (op_eqD (Room.units hr)) (pe_fld (pv 0) rfl) (pe_fld (pv 1) rfl) (nomark _)) (pe_one (pe_cmpR op_eq (pe_fld (pv 0) rfl) (pe_fld (pv 1) rfl) (nomark _)))))), ?_⟩
    rcases h with ⟨z, qs, c, rfl, tz, k⟩ | ⟨⟨T', l, ty, mro⟩, k⟩
    · obtain ⟨dz, t2, hz, ht2⟩ := id tz
      refine ⟨_, rfl, _, _, _, _, true, rfl, .own C, tyTest TC IT tz, kit_self, true, rfl, iteT ?_⟩
      refine ⟨_, rfl, x, C, dx, _, _, rfl, hx, TC.cl, TC.n1, test_parts t b, _, rfl, z, C, dz, _, _, rfl, hz, TC.cl, TC.n1, test_parts t2 c, _, _, .tup (SqT.of ht) (dpInts ps), .tup (SqT.of ht2) (dpInts qs), sh_intsT ps, sh_intsT qs, _, rfl, ?_⟩
      rw [eqv_tupI]
      unfold eqT at k
      by_cases e : ps = qs
      · rw [decide_eq_true e] at k ⊢
        refine iteT ⟨_, rfl, x, C, dx, _, _, rfl, hx, TC.cl, TC.n2, test_bound t b, _, rfl, z, C, dz, _, _, rfl, hz, TC.cl, TC.n2, test_bound t2 c, rfl, ?_⟩
        simpa using k
      · rw [decide_eq_false e] at k ⊢
        exact iteF (by simpa using k)
    · exact ⟨_, rfl, _, _, _, _, false, rfl, .own C, ty _ _ (Same.refl H), kit_no IT mro, _, rfl, iteF k⟩
end
end Ev
namespace Ev
open PySem L2 PySem.Spec PyProof.Rows
section
variable {prog : Program} {w : World} {A : Around} {E : Value → Shared → Prop} {s : Shared} {K : PySem.W.Frag} {x C f : Addr} {ox : Obj} {od : Option Obj}
theorem lenRun {Q : Value → Shared → Prop} (X : K.In s.heap) (I : PySem.W.InstAt s.heap x ox C od) (hs : PySem.W.findIn K (.ref C) "__len__" = some (some (.ref f))) (hf : PySem.W.isFn K (.ref f) = true)
    (h : wpAny (model prog w) A.in1 (call (.ref f) [.ref x]) (fun r s' => ∃ (n : Int) (u : Tok), r = .int n u ∧ (0 ≤ n ∧ n < 2 ^ 63) ∧ Q (.int n s'.toks) { s' with toks := s'.toks + 1 }) E s) : wpAny (model prog w) A (call (.builtin "len") [.ref x]) Q E s := by
  refine Calls.call_function_entry kind_len plain_len entry_len (args_len1 (.ref x)) ?_
  unfold Builtin.«len»
  refine wpAny_bind (m := oneArg "len" ⟨[.ref x], []⟩) (wpAny_pure ?_)
  refine wpAny_bind (m := callSpecial? (.ref x) (Str.ofString "__len__")) (PySem.W.special_fn X I hs (beq_iff_eq.mp hf) (wpAny_mono h (fun r s' z => ?_) fun _ _ z => z))
  obtain ⟨n, u, rfl, ⟨n0, n1⟩, q⟩ := z
  refine wpAny_bind (wpAny_holding (wpAny_pure (wpAny_bind (wpAny_letGo ?_))))
  show wpAny _ _ (if n < 0 then _ else _) _ _ s'
  rw [if_neg (show ¬ n < 0 by omega)]
  show wpAny _ _ (if n ≥ 2 ^ 63 then _ else _) _ _ s'
  rw [if_neg (show ¬ n ≥ 2 ^ 63 by omega)]
  exact wpAny_bind (wpAny_mkInt (wpAny_pure ⟨_, rfl, q⟩))
end
section
variable {X : Cx} {CX : CXT} {C g : Addr} {n : Nat} {sp : Sp} {E : XK}
def rLenO (C : Addr) (sp : Sp) (E : XK) : List V → Hp → VK → Prop := fun xs H Q => ∃ (a dx : Addr) (fs : List (Str × V)), xs = [V.ref a] ∧ H a = some (.ins C dx fs) ∧ sp [.ref a] H (fun z H' => ∃ i : Int, z = .int i ∧ (0 ≤ i ∧ i < 2 ^ 63) ∧ Q (.int i) H') E
theorem call_lenO (hs : PySem.W.findIn X.K (.ref C) "__len__" = some (some (.ref g))) (hf : PySem.W.isFn X.K (.ref g) = true) (F : FnR X.prog X.w X.K X.mg X.base CX n g sp) (hr : Room (n + 1) X.A) (hx : Passes CX X E) : CallR X (.builtin "len") (rLenO C sp E) := by
  intro pins s σ H xs us Q I r h
  obtain ⟨a, dx, fs, rfl, ha, q⟩ := h
  obtain ⟨u, rfl, ru⟩ := vals1 r
  cases (show u = Value.ref a from ru)
  obtain ⟨mA, J, _⟩ := ins_get I.hok ha
  obtain ⟨od, J, _⟩ := J.look
  have hr1 : Room n X.A.in1 := hr.in1
  refine lenRun I.kIn J hs hf (wpAny_mono (wpAny_call (SlX.run_at (us := [.ref a]) (ws := [.ref a]) F hr1 I.env0.in1 hx I (.cons rfl .nil) q)) (fun w' s' z => ?_) fun _ _ z => z)
  obtain ⟨z', H', I', rz, i, rfl, b, q'⟩ := z
  obtain ⟨t, e⟩ := (show ∃ t, w' = Value.int i t from rz)
  exact ⟨i, t, e, b, .int i, H', I'.tok _, ⟨_, rfl⟩, q'⟩
end
end Ev
namespace Ev
open PySem L2 PySem.Spec PyProof.Rows
/-! Promises of defs that are called while no repr is under way (so what they make can be shown). -/
structure FnG (P : Program) (w : World) (K : PySem.W.Frag) (mg : Str → Option Value) (base : Heap) (k : Nat) (f : Addr)
    (fd : FuncData) (ps : List Str) (sp : Sp) : Prop where
  many : ∀ vs H Q E, sp vs H Q E → vs.length = ps.length
  goes : ∀ (A : Around) (above : List Env) (s : Shared) (H : Hp) (args : Args) (us : List Value) (vs : List V) (Q : VK)
    (E : XK), Room k A → A.guards = some [] → Env0 P w K mg base A above s H → BindsTo s fd args (ps.zip us) → Vals vs us →
    sp vs H Q E → codeAny (model P w) A (.call (.ref f) args) (CR CX0 above P w H s Q E) s
theorem FnG.of {P : Program} {w : World} {K : PySem.W.Frag} {mg : Str → Option Value} {base : Heap} {k : Nat} {f : Addr}
    {fd : FuncData} {ps : List Str} {sp : Sp} (F : FnOk P w K mg base CX0 k f fd ps sp) : FnG P w K mg base k f fd ps sp :=
  ⟨F.len, fun A above s H args us vs Q E hr _ => F.run A above s H args us vs Q E hr⟩
section
variable {P : Program} {w : World} {K : PySem.W.Frag} {mg : Str → Option Value} {base : Heap}
/-- a def by its body, where no repr is under way -/
theorem fng_code {x qual : Str} {st : Stmt} {f : Addr} {fd : FuncData} {N ps : List Str} {k : Nat} {sp : Sp} (F : Fun K x qual st f fd)
    (S : FnScope N ps (defScope st)) (many : ∀ vs H Q E, sp vs H Q E → vs.length = ps.length)
    (body : ∀ (cdv : Value), fd.code = cdv → ∀ (A : Around) (above : List Env) (s : Shared) (H : Hp) (vs : List V) (Q : VK) (E : XK),
      Room k (A.deeper (envOfC qual (defScope st) s.heap.objs.size f cdv)) → A.guards = some [] → sp vs H Q E →
      ∃ t, PSs (cxOf CX0 P w K mg base N qual (defScope st) f cdv A above s H E).nox (defBody st) t ∧
        t { nx := fun _ H' => Q .non H', rt := Q } (start N vs) H) : FnG P w K mg base (k + 1) f fd ps sp := by
  obtain ⟨oc, od, kV, doc, pm, an, cdv, ct, osl, rfl, lk, hcd⟩ := F.ex
  constructor
  · exact many
  · intro A above s H args us vs Q E room gd env bt rv hs
    have inK : K.In s.heap := env.mod.kin.keeps fun b o e => (env.bs b o e).1
    have noLim : s.heap.NoLimit := env.mod.nolimit.keeps fun b o e => (env.bs b o e).1
    have kinds : ∀ y ∈ ps.zip us, (defScope st).names.lookup y.1 = some .local ∨
        ((defScope st).names.lookup y.1 = some .cell ∧ ((cellsFrom (s.heap.objs.size + 1) (defScope st).names []).lookup y.1).isSome = true) := by
      rintro ⟨n, v⟩ hy
      cases S.par n (List.of_mem_zip hy).1 with
      | inl q => exact .inl q
      | inr q => exact .inr ⟨q, PySem.W.cellsFrom_some _ _ _ (.inl q)⟩
    refine codeAny_call_function room.depth (inK _ _ lk) rfl S.co S.gen rfl (PySem.W.codeRec_of inK hcd) (bt _ _ _ _ ?_)
    refine wpAny_newFunctionEnv_cells S.kind kinds fun e2 he s2 x => ?_
    subst he
    refine ⟨noLim.keeps x.toInCall.keep, codeAny_func ?_⟩
    obtain ⟨t, ht, hq⟩ := body cdv rfl A above s H vs Q E (room.deeper _) gd hs
    have inv := inv_start (CX := CX0) (E := E) S room.hd env (many _ _ _ _ hs) rv x
    refine wpAny_mono (ht.nox.run [] s2 (start N vs) H _ inv hq) (fun fl s3 h3 => ?_) fun e s3 h3 => h3
    cases fl with
    | ret u =>
      obtain ⟨v, σ3, H3, J, rr, q⟩ := h3
      exact ⟨v, H3, J.os, J.bare, J.base, J.hok, rr, q⟩
    | next =>
      obtain ⟨σ3, H3, J, q⟩ := h3
      exact ⟨.non, H3, J.os, J.bare, J.base, J.hok, rfl, q⟩
    | brk =>
      obtain ⟨_, _, _, z⟩ := h3
      exact False.elim z
    | cont =>
      obtain ⟨_, _, _, z⟩ := h3
      exact False.elim z
theorem fng_of {x qual : Str} {st : Stmt} {f : Addr} {fd : FuncData} {N ps : List Str} {k : Nat} {sp : Sp} (F : Fun K x qual st f fd)
    (S : FnScope N ps (defScope st)) (many : ∀ vs H Q E, sp vs H Q E → vs.length = ps.length)
    (body : ∀ (cdv : Value) (A : Around) (above : List Env) (s : Shared) (H : Hp) (vs : List V) (Q : VK) (E : XK),
      Room k (A.deeper (envOfC qual (defScope st) s.heap.objs.size f cdv)) → A.guards = some [] → sp vs H Q E →
      ∃ t, PSs (cxOf CX0 P w K mg base N qual (defScope st) f cdv A above s H E).nox (defBody st) t ∧
        t { nx := fun _ H' => Q .non H', rt := Q } (start N vs) H) : FnG P w K mg base (k + 1) f fd ps sp :=
  fng_code F S many fun cdv _ => body cdv
end
section
variable {X : Cx}
/-- f(e, ..) of such a def -/
theorem pe_callG {k : Nat} {f : Addr} {fd : FuncData} {ps : List Str} {sp : Sp} {E : XK} {x : Str} {p pos : Pos} {e : Expr} {es : List Expr} {t : TA}
    (F : FnG X.prog X.w X.K X.mg X.base k f fd ps sp) (room : Room k X.A) (gd : X.A.guards = some []) (hg : Gl X x)
    (hm : X.mg x = some (.ref f)) (kp : PySem.W.keepIn X.K (.ref f) = true) (hb : Binds X.K fd ps []) (ha : PA X (e :: es) t)
    (hdb : (x == ("__debug__" : Str)) = false := by decide)
    (he : starEach (e :: es) X.env = (false, eval e X.env) :: starEach es X.env := by rfl)
    (hpl : (backTo pos (starEach es X.env)).any (·.1) = false := by rfl) :
    PE X (.Call (.Name x p) (e :: es) [] pos) (tCall sp [] E t) := by
  constructor
  intro pins s σ H Q I h
  refine wpAny_Call_Name_kw (ld_glob I hg hm ?_ hdb)
  refine PySem.W.callWith_K (h₀ := X.base) I.ok.mod.kin kp (thn (ha.run pos pins s σ H _ I h) fun us s1 d => ?_) he hpl
  obtain ⟨vs, H1, I1, rv, q⟩ := d
  refine ⟨I1.kIn, ?_⟩
  have q : sp vs H1 Q E := by
    have q' : sp (vs ++ []) H1 Q E := q
    rw [List.append_nil] at q'
    exact q'
  have hl : us.length = ps.length := rv.length.symm.trans (F.many _ _ _ _ q)
  have bt := hb s1 us I1.kIn (by rw [List.append_nil]; exact hl)
  rw [List.append_nil] at bt
  refine wpAny_call (codeAny_mono (F.goes X.A X.stack s1 H1 ⟨us, []⟩ us vs Q E room gd I1.env0 bt rv q) fun r s2 h2 => ?_)
  cases r with
  | error e => exact False.elim h2
  | ok fl =>
    cases fl with
    | ret u => exact I1.after h2
    | next => exact False.elim h2
    | brk => exact False.elim h2
    | cont => exact False.elim h2
/-- repr of data, where none is under way -/
def rRepr (K : PySem.W.Frag) : List V → Hp → VK → Prop := fun xs H Q => ∃ (a : Addr) (d : PyData), xs = [.ref a] ∧ Dp K H (.ref a) d ∧
  d.showable = true ∧ d.hasDict = false ∧ d.depth ≤ 32 ∧ d.shown.length ≤ sizeLine ∧ Q (.str d.shown) H
theorem call_repr (gd : X.A.guards = some []) (hu : X.A.units + 64 < cLine) : CallR X (.builtin "repr") (rRepr X.K) := by
  intro pins s σ H xs us Q I r h
  obtain ⟨a, d, rfl, hd, h1, h2, h3, h4, q⟩ := h
  cases r with
  | cons r1 r2 =>
    cases r2
    cases r1
    obtain ⟨as, rd⟩ := Dp.reads I d (.ref a) (.ref a) hd rfl
    exact repr_of_reads' rd h1 (fun z => by rw [h2] at z; cases z) gd (by omega) (fun _ _ e => e)
      (fun h' u tk hk => ⟨.str d.shown, H, I.kept hk, ⟨u, rfl⟩, q⟩) h4
end
/-! ### the law's own call -/
section
variable {P : Program} {w : World} {K : PySem.W.Frag} {mg mb : Str → Option Value}
theorem law_callG {k : Nat} {fa a : Addr} {fd : FuncData} {x : Str} {sp : Sp} {s : Shared} {vs : List Value} {ns : List Int}
    (inK : K.In s.heap) (ns1 : s.heap.Ns mainGlobals mg) (ns2 : s.heap.Ns builtinsNs mb) (blt : ∀ x : Str, x ≠ "__name__" → mb x = bootBuiltins x)
    (noLim : s.heap.NoLimit) (hg : s.gens = #[]) (ha : s.heap.get? a = some { cls := .type "list", data := .seq vs.toArray })
    (hi : IntsAre vs ns) (hl : ns.length ≤ sizeLine) (hr : Room k callerA)
    (F : ∀ base : Heap, K.In base → base.Ns mainGlobals mg → FnG P w K mg base k fa fd [x] sp)
    (bt : ∀ (s : Shared) (u : Value), BindsTo s fd ⟨[u], []⟩ [(x, u)])
    (hsp : ∀ H : Hp, SqL K H a (ns.map V.int) → sp [.ref a] H (fun v _ => v = .bl true) fun _ _ _ => False) :
    codeAny (model P w) callerA (.call (.ref fa) ⟨[.ref a], []⟩)
      (fun r s' => r = .ok (.ret (.bool true)) ∧ OldK s.heap s'.heap ∧ s'.os = s.os ∧ AllBare s'.gens) s := by
  have rv := vals_ints hi
  have lv := hi.length
  have key : ∀ H : Hp, (∀ b u, H b = some u → b = a ∧ K.lookup a = none ∧ u = .frz { cls := .type "list", data := .seq vs.toArray } (.lst (ns.map V.int))) →
      SqL K H a (ns.map V.int) → codeAny (model P w) callerA (.call (.ref fa) ⟨[.ref a], []⟩)
        (fun r s' => r = .ok (.ret (.bool true)) ∧ OldK s.heap s'.heap ∧ s'.os = s.os ∧ AllBare s'.gens) s := by
    intro H only sq
    have ok : HOk P w H s.heap := by
      intro b u e
      obtain ⟨rfl, _, rfl⟩ := only b u e
      exact ⟨ha, by rw [List.length_map]; exact hl, vs, _, rv, ha⟩
    have plain : ∀ {b : Addr} {o : Obj} {es : Array DictEntry} {n : Nat}, s.heap.get? b = some o → o.data = .dict es n → H b = none := by
      intro b o es n e d
      cases q : H b with
      | none => rfl
      | some u =>
        obtain ⟨rfl, _, _⟩ := only b u q
        rw [ha] at e
        cases e
        exact nomatch d
    have names : ∀ {b : Addr} {m : Str → Option Value}, s.heap.Ns b m → (hidT s.heap H).Ns b m := by
      rintro b m ⟨o, es, n, e, d, r⟩
      exact ⟨o, es, n, hidT_get e (plain e d), d, r⟩
    have inB : K.In (hidT s.heap H) := by
      intro b o e
      refine hidT_get (inK b o e) ?_
      cases q : H b with
      | none => rfl
      | some u =>
        obtain ⟨rfl, n, _⟩ := only b u q
        rw [n] at e
        cases e
    obtain ⟨mc, l1, l2⟩ := noLim
    have md : Mod K mg (hidT s.heap H) := ⟨inB, names ns1, ⟨mb, names ns2, blt⟩, ⟨mc, names l1, l2⟩⟩
    have env : Env0 P w K mg (hidT s.heap H) callerA [] s H :=
      ⟨rfl, md, fun b o e => of_hidT e, Nat.le_of_eq (hidT_size _ _), trivial, (fun b hb => by cases hb), ok, .of_eq hg⟩
    have go := (F _ inB (names ns1)).goes callerA [] s H ⟨[.ref a], []⟩ [.ref a] [.ref a] _ _ hr rfl env (bt s (.ref a)) (.cons rfl .nil) (hsp H sq)
    refine codeAny_mono go fun r s2 h2 => ?_
    cases r with
    | error e => exact False.elim h2
    | ok fl =>
      cases fl with
      | next => exact False.elim h2
      | brk => exact False.elim h2
      | cont => exact False.elim h2
      | ret u =>
        obtain ⟨v, H2, os, bare, un, ok2, rr, q⟩ := h2
        obtain rfl : v = V.bl true := q
        obtain rfl : u = Value.bool true := rr
        refine ⟨rfl, OldK.of_keep fun b o e => ?_, os, bare⟩
        cases q : H b with
        | none => exact un.keep b o e q (by intro z; cases z) (by simp)
        | some u =>
          obtain ⟨rfl, _, rfl⟩ := only b u q
          obtain ⟨e1, _⟩ := ok b _ q
          obtain ⟨e2, _⟩ := ok2 b _ (un.frzs b _ _ q)
          rw [e] at e1
          cases e1
          exact e2
  cases hk : K.lookup a with
  | none =>
    refine key (fun b => if b = a then some (.frz { cls := .type "list", data := .seq vs.toArray } (.lst (ns.map V.int))) else none) (fun b u e => ?_) (.inl (.inr ⟨_, if_pos rfl⟩))
    by_cases z : b = a
    · rw [if_pos z] at e
      cases e
      exact ⟨z, hk, rfl⟩
    · rw [if_neg z] at e
      cases e
  | some o =>
    have e := inK a o hk
    rw [ha] at e
    cases e
    refine key (fun _ => none) (fun b u e => by cases e) (.inr ⟨_, vs.toArray, _, hk, rfl, rfl, rfl, ?_, by simpa using rv⟩)
    rw [List.size_toArray, lv]
    exact hl
end
theorem walk_ofG {l : PySem.W.OpenLaw} {n k : Nat} {q : Program} {loose : List Str} {XP : (Str → Option Value) → Heap → Prop} {YP : World → Heap → Prop}
    {d : DefRec} {K : Params → PySem.W.Frag} {sp : World → Sp} {x : Str} (hn : l.most = some n) (hn2 : n ≤ sizeLine) (hdf : d.params.defaults = [])
    (hr : Room k callerA) (hY : ∀ (w : World) (h : Heap), YP w h → (K w.params).In h)
    (F : ∀ (w : World) (mg : Str → Option Value) (fa : Addr) (h : Heap), (K w.params).In h → h.Ns mainGlobals mg → mg d.name = some (.ref fa) →
      ∃ fd : FuncData, (∀ (s : Shared) (u : Value), BindsTo s fd ⟨[u], []⟩ [(x, u)]) ∧
        ∀ base : Heap, (K w.params).In base → base.Ns mainGlobals mg → FnG l.prog w (K w.params) mg base k fa fd [x] (sp w))
    (hsp : ∀ (w : World) (H : Hp) (a : Addr) (ns : List Int), ns.length ≤ n → SqL (K w.params) H a (ns.map V.int) → sp w [.ref a] H (fun v _ => v = .bl true) fun _ _ _ => False) :
    PySem.W.WalkO q loose XP YP l.row.toRowW d [] (fun f vs => PySem.call f vs) := by
  refine Att.attach_call hn hdf fun w s0 s1 mg mb fa o pm cd doc a vs ns G Y h1 h2 h3 h4 h5 h6 h7 h8 => ?_
  obtain ⟨fd, bt, hF⟩ := F w mg fa _ (hY w _ Y) G.T.g h4
  exact law_callG (hY w _ Y) G.T.g G.T.b G.T.builtins G.T.nolimit h8 h5 h6 (Nat.le_trans h7 hn2) hr hF bt (fun H sq => hsp w H a ns h7 sq)
end Ev
namespace Ev
open PySem L2 PySem.Spec PyProof.Rows
theorem walk_ofGE {l : PySem.W.OpenLaw} {n k : Nat} {q : Program} {loose : List Str} {XP : (Str → Option Value) → Heap → Prop} {YP : World → Heap → Prop}
    {d : DefRec} {x : Str} (hn : l.most = some n) (hn2 : n ≤ sizeLine) (hdf : d.params.defaults = []) (hr : Room k callerA)
    (F : ∀ (w : World) (mg : Str → Option Value) (fa : Addr) (h : Heap), YP w h → h.Ns mainGlobals mg → mg d.name = some (.ref fa) →
      ∃ (K : PySem.W.Frag) (fd : FuncData) (sp : Sp), K.In h ∧ (∀ (s : Shared) (u : Value), BindsTo s fd ⟨[u], []⟩ [(x, u)]) ∧
        (∀ (H : Hp) (a : Addr) (ns : List Int), ns.length ≤ n → SqL K H a (ns.map V.int) → sp [.ref a] H (fun v _ => v = .bl true) fun _ _ _ => False) ∧
        ∀ base : Heap, K.In base → base.Ns mainGlobals mg → FnG l.prog w K mg base k fa fd [x] sp) :
    PySem.W.WalkO q loose XP YP l.row.toRowW d [] (fun f vs => PySem.call f vs) := by
  refine Att.attach_call hn hdf fun w s0 s1 mg mb fa o pm cd doc a vs ns G Y h1 h2 h3 h4 h5 h6 h7 h8 => ?_
  obtain ⟨K, fd, sp, inK, bt, hsp, hF⟩ := F w mg fa _ Y G.T.g h4
  exact law_callG inK G.T.g G.T.b G.T.builtins G.T.nolimit h8 h5 h6 (Nat.le_trans h7 hn2) hr hF bt (fun H sq => hsp H a ns h7 sq)
end Ev
namespace Ev
open PySem L2 PySem.Spec PyProof.Rows
theorem Pen.new {L : Addr} {H : Hp} {p q : Addr} {B : Int} {o : HO} (h : Pen L H p B) (n : H q = none) : Pen L (upd H q o) p B := h.keep (fun b u e => by rw [upd_ne (ne_of_none e n)]; exact e)
theorem Pen.some {L : Addr} {H : Hp} {p : Addr} {B : Int} (h : Pen L H p B) : ∃ xs, H p = some (.lst xs) := by
  obtain ⟨ns, t, c, h1, _⟩ := h
  exact ⟨_, h1⟩
theorem Pen.ne {L : Addr} {H : Hp} {p q : Addr} {B : Int} (h : Pen L H p B) (n : H q = none) : q ≠ p := by
  obtain ⟨xs, e⟩ := h.some
  exact (ne_of_none e n).symm
theorem But.free {L p a : Addr} {H H' : Hp} {B : Int} (t : But p H H') (h : Pen L H' p B) (n : H' a = none) : H a = none := by
  cases e : H a with
  | none => rfl
  | some o =>
    have := t a o (h.ne n) e
    rw [n] at this
    cases this
def spPick : Sp := fun vs H Q _ => ∃ (p l L : Addr) (xs : List V) (B : Int), vs = [.ref p, .ref l] ∧ H l = some (.lst xs) ∧ l ≠ p ∧ 1 ≤ xs.length ∧ xs.length ≤ 1000 ∧ B ≤ 1000000 ∧ Pen L H p B ∧
  ∀ (d : V) (H' : Hp), d ∈ xs → But p H H' → Pen L H' p (B + 1) → Q d H'
/-- a drawn number -/
def Nn (n : Int) : Prop := n.natAbs ≤ 10 ^ 40 + 9
theorem Nn.sm {n : Int} (h : Nn n) : Sm n := Nat.lt_of_le_of_lt h (by decide)
def AllN (ns : List Int) : Prop := ∀ n ∈ ns, Nn n
theorem AllN.sm {ns : List Int} (h : AllN ns) : AllSm ns := fun n m => (h n m).sm
def spSmall : Sp := fun vs H Q _ => ∃ (p L : Addr) (m B : Int), vs = [.ref p, .int m] ∧ 0 ≤ m ∧ m ≤ 1000000000000 ∧ B ≤ 1000000 ∧ Pen L H p B ∧ ∀ (d : Int) (H' : Hp), -m ≤ d → d ≤ m → But p H H' → Pen L H' p (B + 1) → Q (.int d) H'
def spNum : Sp := fun vs H Q _ => ∃ (p L : Addr) (B : Int), vs = [.ref p] ∧ B ≤ 900000 ∧ Pen L H p B ∧ ∀ (d : Int) (H' : Hp), Nn d → But p H H' → Pen L H' p (B + 3) → Q (.int d) H'
def spSum : Sp := fun vs H Q _ => ∃ (a b : Addr) (ps ns : List Int), vs = [.ref a, .ref b] ∧ H a = some (.lst (ps.map V.int)) ∧ H b = some (.lst (ns.map V.int)) ∧ ps.length = ns.length ∧ ps.length ≤ 1000 ∧ AllSm ps ∧ AllSm ns ∧ Q (.int (sumI ps ns)) H
section
variable {P : Program} {w : World} {K : PySem.W.Frag} {mg : Str → Option Value} {base : Heap}
theorem scPick : FnScope ["_law_pen_here", "_law_some"] ["_law_pen_here", "_law_some"] (defScope sPick) := ⟨rfl, rfl, rfl, by decide +kernel, rfl, by decide +kernel, by decide +kernel⟩
theorem ok_pick {f : Addr} {fd : FuncData} (F : Fun K "_law_pick" "_law_pick" sPick f fd) (T : Blt mg) (D : Df P w K mg base 1 "_law_draw" ["_law_pen_here", "_law_top_so"] spDraw) : FnOk P w K mg base CX0 2 f fd ["_law_pen_here", "_law_some"] spPick := by
  obtain ⟨f1, fd1, G1, g1, k1, b1⟩ := D.ex
  refine F.ok scPick (fun vs H Q E h => ?_) (fun cdv A outer s H vs Q E hr h => ?_)
  · obtain ⟨p, l, L, xs, B, rfl, _⟩ := h
    rfl
  · obtain ⟨p, l, L, xs, B, rfl, hl, hne, x1, x2, hB, hp, kk⟩ := h
    refine ⟨_, pss_one (ps_ret (pe_ix ix_list (pv 1) (pe_call G1 hr (by rfl) g1 k1 b1 .nil pass0 (pa_cons (pv 0) (pa_cons (pe_callB call_len_seq (by rfl) T.len PySem.boot_len (pa_cons (pv 1) pa_nil)) pa_nil))) (fun _ _ => rfl))), ?_⟩
    refine ⟨_, rfl, _, rfl, _, rfl, l, _, rfl, .inl (SqL.of hl), p, L, _, B, rfl, by omega, by omega, hB, hp, fun d H1 bt pn d0 d1 => ?_⟩
    obtain ⟨j, rfl⟩ := Int.eq_ofNat_of_zero_le d0
    have hj : j < xs.length := by omega
    refine ⟨l, xs, _, xs[j], rfl, rfl, SqL.of (bt _ _ hne hl), atI_nat (List.getElem?_eq_getElem hj), ?_⟩
    exact kk _ _ (List.getElem_mem hj) bt pn
theorem scSmall : FnScope ["_law_pen_here", "_law_most_so"] ["_law_pen_here", "_law_most_so"] (defScope sSmall) := ⟨rfl, rfl, rfl, by decide +kernel, rfl, by decide +kernel, by decide +kernel⟩
theorem ok_small {f : Addr} {fd : FuncData} (F : Fun K "_law_small" "_law_small" sSmall f fd) (D : Df P w K mg base 1 "_law_draw" ["_law_pen_here", "_law_top_so"] spDraw) : FnOk P w K mg base CX0 2 f fd ["_law_pen_here", "_law_most_so"] spSmall := by
  obtain ⟨f1, fd1, G1, g1, k1, b1⟩ := D.ex
  refine F.ok scSmall (fun vs H Q E h => ?_) (fun cdv A outer s H vs Q E hr h => ?_)
  · obtain ⟨p, L, m, B, rfl, _⟩ := h
    rfl
  · obtain ⟨p, L, m, B, rfl, m0, m1, hB, hp, kk⟩ := h
    refine ⟨_, pss_one (ps_ret (pe_op op_sub (pe_call G1 hr (by rfl) g1 k1 b1 .nil pass0 (pa_cons (pv 0) (pa_cons (pe_op op_add (pe_op op_mul pe_int (pv 1)) pe_int) pa_nil))) (pv 1))), ?_⟩
    refine ⟨_, rfl, _, rfl, _, _, rfl, rfl, .inl ⟨by decide, by decide⟩, _, _, rfl, rfl, p, L, _, _, rfl, by omega, by omega, hB, hp, fun d H1 t1 p1 lo hi => ?_⟩
    exact ⟨_, rfl, _, _, rfl, rfl, kk _ _ (by omega) (by omega) t1 p1⟩
theorem scNum : FnScope ["_law_pen_here", "_law_near", "_law_far"] ["_law_pen_here"] (defScope sNum) := ⟨rfl, rfl, rfl, by decide +kernel, rfl, by decide +kernel, by decide +kernel⟩
theorem ok_num {f : Addr} {fd : FuncData} (F : Fun K "_law_number" "_law_number" sNum f fd) (D1 : Df P w K mg base 2 "_law_small" ["_law_pen_here", "_law_most_so"] spSmall) (D2 : Df P w K mg base 2 "_law_pick" ["_law_pen_here", "_law_some"] spPick) : FnOk P w K mg base CX0 3 f fd ["_law_pen_here"] spNum := by
  obtain ⟨f1, fd1, G1, g1, k1, b1⟩ := D1.ex
  obtain ⟨f2, fd2, G2, g2, k2, b2⟩ := D2.ex
  refine F.ok scNum (fun vs H Q E h => ?_) (fun cdv A outer s H vs Q E hr h => ?_)
  · obtain ⟨p, L, B, rfl, _⟩ := h
    rfl
  · obtain ⟨p, L, B, rfl, hB, hp, kk⟩ := h
    refine ⟨_, pss_cons (ps_set (i := 1) scNum.nd rfl (.inl rfl) (pe_call G1 hr (by rfl) g1 k1 b1 .nil pass0 (pa_cons (pv 0) (pa_cons pe_int pa_nil))))
      (pss_cons (ps_set (i := 2) scNum.nd rfl (.inl rfl) (pe_call G1 hr (by rfl) g1 k1 b1 .nil pass0 (pa_cons (pv 0) (pa_cons (pe_op op_pow pe_int pe_int) pa_nil))))
      (pss_one (ps_ret (pe_call G2 hr (by rfl) g2 k2 b2 .nil pass0 (pa_cons (pv 0) (pa_cons (pe_lst (pa_cons (pv 1) (pa_cons (pv 1) (pa_cons pe_int (pa_cons pe_int (pa_cons (pe_un un_neg pe_int) (pa_cons (pv 2) (pa_cons (pe_op op_add (pe_op op_pow pe_int pe_int) (pv 1)) (pa_cons (pe_op op_sub (pv 1) (pe_op op_pow pe_int pe_int)) pa_nil))))))))) pa_nil)))))), ?_⟩
    refine ⟨_, rfl, p, L, _, _, rfl, by decide, by decide, by omega, hp, fun ne H1 a1 a2 t1 p1 => ?_⟩
    refine ⟨_, rfl, _, _, rfl, rfl, ⟨by decide, by decide, by decide⟩, p, L, _, _, rfl, by decide, by decide, by omega, p1, fun fa H2 c1 c2 t2 p2 => ?_⟩
    refine ⟨_, rfl, _, rfl, _, rfl, _, rfl, _, rfl, _, _, rfl, rfl, ⟨by decide, by decide, by decide⟩, _, rfl, _, _, rfl, rfl, _, rfl, _, _, rfl, rfl, ⟨by decide, by decide, by decide⟩, _, _, rfl, rfl, (by show 8 ≤ sizeLine; decide), fun l nl => ?_⟩
    refine ⟨p, l, L, _, _, rfl, upd_same, p2.ne nl, (by show 1 ≤ 8; decide), (by show 8 ≤ 1000; decide), by omega, p2.new nl, fun dv H3 mem t3 p3 => ?_⟩
    have bt := (t1.trans t2).trans ((Same.but (same_new nl)).trans t3)
    have e12 : (10 : Int) ^ Int.toNat 12 = 1000000000000 := by decide
    have e25 : (10 : Int) ^ Int.toNat 25 = 10000000000000000000000000 := by decide
    have e40 : (10 : Int) ^ Int.toNat 40 = 10000000000000000000000000000000000000000 := by decide
    have n40 : (10 : Nat) ^ 40 = 10000000000000000000000000000000000000000 := by decide
    rw [e12] at c1 c2
    obtain ⟨d, rfl, hd⟩ : ∃ d : Int, dv = .int d ∧ Nn d := by
      simp only [List.mem_cons, List.not_mem_nil, or_false] at mem
      unfold Nn
      rcases mem with rfl | rfl | rfl | rfl | rfl | rfl | rfl | rfl
      · exact ⟨_, rfl, by omega⟩
      · exact ⟨_, rfl, by omega⟩
      · exact ⟨_, rfl, by decide⟩
      · exact ⟨_, rfl, by decide⟩
      · exact ⟨_, rfl, by decide⟩
      · exact ⟨_, rfl, by omega⟩
      · exact ⟨_, rfl, by rw [e40]; omega⟩
      · exact ⟨_, rfl, by rw [e25]; omega⟩
    exact kk _ _ hd bt (p3.mono (by omega))
theorem scSum : FnScope ["_law_some", "_law_row", "_law_found", "_law_k"] ["_law_some", "_law_row"] (defScope sSum) := ⟨rfl, rfl, rfl, by decide +kernel, rfl, by decide +kernel, by decide +kernel⟩
theorem sum_take {l : List Int} {i : Nat} {x : Int} (h : l[i]? = some x) : (l.take (i + 1)).sum = (l.take i).sum + x := by
  rw [List.take_add_one, h, List.sum_append]
  simp
theorem ok_sum {f : Addr} {fd : FuncData} (F : Fun K "_law_sum" "_law_sum" sSum f fd) (T : Blt mg) : FnOk P w K mg base CX0 1 f fd ["_law_some", "_law_row"] spSum := by
  refine F.ok scSum (fun vs H Q E h => ?_) (fun cdv A outer s H vs Q E hr h => ?_)
  · obtain ⟨a, b, ps, ns, rfl, _⟩ := h
    rfl
  · obtain ⟨a, b, ps, ns, rfl, ha, hb, hl, n1, s1, s2, kk⟩ := h
    refine ⟨_, pss_cons (ps_set (i := 2) scSum.nd rfl (.inl rfl) pe_int)
      (pss_cons (ps_for PassesOwn.never rfl (pi_range1 rfl T.range (pa_cons (pe_callB call_len_seq (by rfl) T.len PySem.boot_len (pa_cons (pv 0) pa_nil)) pa_nil)) (pg_name (i := 3) scSum.nd rfl (.inl rfl))
        (pss_one (ps_set (i := 2) scSum.nd rfl (.inl rfl) (pe_op op_add (pv 2) (pe_op op_mulW (pe_ix ix_list (pv 0) (pv 3) (fun _ _ => rfl)) (pe_ix ix_list (pv 1) (pv 3) (fun _ _ => rfl)))))))
      (pss_one (ps_ret (pv 2)))), ?_⟩
    have hz : (List.zipWith (fun a b => a * b) ps ns).length = ps.length := by rw [List.length_zipWith]; omega
    refine ⟨_, rfl, a, _, rfl, .inl (SqL.of ha), _, rfl, by omega, by rw [List.length_map]; omega, ?_⟩
    rw [List.length_map, Int.toNat_natCast]
    refine for_range (n := ps.length) (fun i σ H2 => (∃ v3 : Option V, σ = [some (.ref a), some (.ref b), some (.int ((List.zipWith (fun a b => a * b) ps ns).take i).sum), v3]) ∧ H2 = H) ⟨⟨none, rfl⟩, rfl⟩ ?_ ?_
    · rintro i σ H4 hi ⟨⟨v3, rfl⟩, rfl⟩
      have hp : ps[i]? = some ps[i] := List.getElem?_eq_getElem hi
      have hn : ns[i]? = some (ns[i]'(by omega)) := List.getElem?_eq_getElem (by omega)
      have hp' : (ps.map V.int)[0 + i]? = some (V.int ps[i]) := by rw [Nat.zero_add, List.getElem?_map, hp]; rfl
      have hn' : (ns.map V.int)[0 + i]? = some (V.int (ns[i]'(by omega))) := by rw [Nat.zero_add, List.getElem?_map, hn]; rfl
      refine ⟨_, rfl, _, rfl, _, rfl, a, _, _, _, rfl, rfl, SqL.of ha, atI_nat hp', _, rfl, _, rfl, b, _, _, _, rfl, rfl, SqL.of hb, atI_nat hn', ?_⟩
      refine ⟨_, _, rfl, rfl, mulW (s1 _ (List.mem_of_getElem? hp)) (s2 _ (List.mem_of_getElem? hn)), _, _, rfl, rfl, ⟨some (.int ((0 : Int) + (i : Nat))), ?_⟩, rfl⟩
      rw [sum_take (zip_at hp hn)]
      rfl
    · rintro σ H4 ⟨⟨v3, rfl⟩, rfl⟩
      rw [← hz, List.take_length]
      exact ⟨_, rfl, kk⟩
end
end Ev
namespace Ev
open PySem L2 PySem.Spec PyProof.Rows
section
variable {X : Cx}
/-- o.m(k = v, ..): keywords alone -/
def tMethK (C : Addr) (m : Str) (sp : Sp) (gV : List V → List V → List V) (E : XK) (ta : TE) (tk : TA) : TE := fun σ H Q => ta σ H fun x H1 => ∃ a dx fs, x = .ref a ∧ H1 a = some (.ins C dx fs) ∧ fs.lookup m = none ∧
  tk σ H1 fun zs H2 => sp (gV [x] zs) H2 Q E
theorem pe_methK0 {CX : CXT} {k : Nat} {f C : Addr} {fd : FuncData} {ps ks : List Str} {sp : Sp} {E : XK} {o : Expr} {m : Str} {pos : Pos} {apos : Pos} {kws : List Keyword} {ta : TE} {tk : TA} {g : List Value → List Value → List Value} {gV : List V → List V → List V} {pl : Sem Bool}
    (he : PE X o ta) (c : Cls X.K C) (hm : Meth X.K C m f) (F : FnOk X.prog X.w X.K X.mg X.base CX k f fd ps sp) (hr : Room k X.A) (hb : KBinds X.K fd ps ks g gV) (hx : Passes CX X E) (hkw : PK X kws tk)
    (hall : (backToKw pos (keywordEach kws X.env)).all (·.1.isSome) = true := by rfl) (hks : (backToKw pos (keywordEach kws X.env)).filterMap (·.1) = ks := by rfl)
    (hpl : ((backTo pos (starEach [] X.env)).any (·.1) || (backToKw pos (keywordEach kws X.env)).any (·.1.isNone)) = false := by rfl)
    (ht : eval (.Call (.Attribute o m apos) [] kws pos) X.env = (do
      let ov ← eval o X.env
      standAt apos.atName
      let (f, first) ← holding [ov] (getMethod ov m pl)
      callWith pos f first (backTo pos (starEach [] X.env)) (backToKw pos (keywordEach kws X.env))) := by rfl) :
    PE X (.Call (.Attribute o m apos) [] kws pos) (tMethK C m sp gV E ta tk) := by
  refine ⟨fun pins s σ H Q I h => ?_⟩
  refine PySem.W.methodCall_KW (pl := pl) (thn (he.run pins s σ H _ I h) fun u s1 ⟨x, H1, I1, rx, a, dx, fs, ex, ea, l, q⟩ => ?_) ht
  subst ex
  obtain rfl : u = Value.ref a := rx
  refine getmeth_ok I1 ea c hm l ?_
  refine PySem.W.callWith_KW0 (first := [.ref a]) (h₀ := X.base) I.ok.mod.kin hm.kp hall ?_ hpl
  refine thn (hkw.run pos pins s1 σ H1 _ I1 q) fun ws s2 ⟨zs, H2, I2, rz, q2⟩ => ⟨I2.kIn, ?_⟩
  rw [hks]
  exact run_fnk (us := [.ref a]) (vs := [.ref a]) F hr hb hx I2 (.cons rfl .nil) rz q2
def tCallOK (X : Cx) (C : Addr) (sp : Sp) (gV : List V → List V → List V) (E : XK) (tf : TE) (tk : TA) : TE := fun σ H Q => tf σ H fun y H1 => ∃ a, y = V.ref a ∧ tk σ H1 fun vs H2 => StX.InsC X H2 a C ∧ sp (gV [V.ref a] vs) H2 Q E
end
theorem callOK_of {M : Model} {A : Around} {E : Value → Shared → Prop} {s : Shared} {a : Addr} {pos : Pos} {Q : Value → Shared → Prop} {args : List (Bool × Sem Value)} {kws : List (Option Str × Sem Value)} (hplain : (args.any (·.1) || kws.any (·.1.isNone)) = false)
    (h : wpAny M A (evalArgs (.ref a) true args kws) (fun z s₁ => (∃ C ox od, PySem.W.InstAt s₁.heap a ox C od ∧ ox.data = .plain) ∧ wpAny M A (call (.ref a) z.pos z.kw) Q E s₁) E s) : wpAny M A (callWith pos (.ref a) [] args kws) Q E s := by
  unfold callWith
  refine wpAny_bind (wpAny_holding (wpAny_mono h (fun z s1 h1 => ?_) fun _ _ y => y))
  obtain ⟨⟨C, ox, od, J, hd⟩, h1⟩ := h1
  refine wpAny_bind (wpAny_standAt ?_)
  have keep := PySem.W.kco_keeper (M := M) J hd
  simp only [hplain]
  refine wpAny_bind (keep.here ?_)
  have ends : ∀ {t : Sem Value}, wpAny M A t Q E s1 → wpAny M A (t >>= fun r => holding [r] point >>= fun _ => pure r) Q E s1 := by
    intro t ht
    refine wpAny_bind (wpAny_mono ht (fun r s2 hr => ?_) fun _ _ y => y)
    exact wpAny_bind (wpAny_holding (wpAny_point (wpAny_pure hr)))
  exact ends (wpAny_operateT h1)
section
variable {X : Cx} {CX : CXT} {k : Nat} {g C : Addr} {fd : FuncData} {ps ks : List Str} {sp : Sp} {E : XK} {fe : Expr} {kws : List Keyword} {pos : Pos} {tf : TE} {tk : TA} {gg : List Value → List Value → List Value} {gV : List V → List V → List V}
theorem pe_callOK (hf : PE X fe tf) (c : StX.CallO X.K C g) (F : FnOk X.prog X.w X.K X.mg X.base CX k g fd ps sp) (hr : Room k X.A) (hb : KBinds X.K fd ps ks gg gV) (hx : Passes CX X E) (hkw : PK X kws tk)
    (hall : (backToKw pos (keywordEach kws X.env)).all (·.1.isSome) = true := by rfl) (hks : (backToKw pos (keywordEach kws X.env)).filterMap (·.1) = ks := by rfl)
    (hpl : ((backTo pos (starEach [] X.env)).any (·.1) || (backToKw pos (keywordEach kws X.env)).any (·.1.isNone)) = false := by rfl)
    (ht : eval (.Call fe [] kws pos) X.env = (do callWith pos (← eval fe X.env) [] (backTo pos (starEach [] X.env)) (backToKw pos (keywordEach kws X.env))) := by rfl) :
    PE X (.Call fe [] kws pos) (tCallOK X C sp gV E tf tk) := by
  constructor
  intro pins s σ H Q I h
  rw [ht]
  refine wpAny_bind (thn (hf.run pins s σ H _ I h) fun u s1 hh => ?_)
  obtain ⟨y, H1, I1, ry, a, rfl, q⟩ := hh
  obtain rfl : u = Value.ref a := ry
  refine callOK_of hpl (PyProof.Rows.evalArgs_kw2_nil hall (thn (hkw.run pos pins s1 σ H1 _ I1 q) fun ws s2 hh => ?_))
  obtain ⟨zs, H2, I2, rz, hi, q2⟩ := hh
  obtain ⟨ox, od, J, hd⟩ := StX.insC_at I2 hi
  refine ⟨⟨C, ox, od, J, hd⟩, ?_⟩
  rw [hks]
  have r2 := hb.rel (vs := [V.ref a]) (us := [.ref a]) (.cons rfl .nil) rz
  have hl : (gg [.ref a] ws).length = ps.length := by rw [← r2.length]; exact F.len _ _ _ _ q2
  refine wpAny_call (PySem.W.kco_code I2.kIn J hd c.at_ c.fn c.fi (codeAny_mono (F.run X.A X.stack s2 H2 ⟨[.ref a], ks.zip ws⟩ (gg [.ref a] ws) (gV [.ref a] zs) Q E hr I2.env0 (hb.to s2 [.ref a] ws I2.kIn hl) r2 q2) fun r s' hq => ?_))
  cases r with
  | error e => exact hx pins σ H2 s2 e s' I2 hq
  | ok fl =>
    cases fl with
    | ret u => exact I2.after hq
    | next => exact False.elim hq
    | brk => exact False.elim hq
    | cont => exact False.elim hq
end
/-- an instance called, the reading without a context -/
def tCallI (C : Addr) (sp : Sp) (E : XK) (tf : TE) (t : TA) : TE := fun σ H Q => tf σ H fun y H1 => ∃ a, y = V.ref a ∧ t σ H1 fun vs H2 => ((∃ dx vs, SlX.Slt H2 a C dx vs) ∨ ∃ dx fs, H2 a = some (.ins C dx fs)) ∧ sp (V.ref a :: vs) H2 Q E
theorem pe_callI {X : Cx} {CX : CXT} {k : Nat} {C g : Addr} {sp : Sp} {E : XK} {e fe : Expr} {es : List Expr} {tf : TE} {t : TA} {pos : Pos} (hf : PE X fe tf) (c : StX.CallO X.K C g) (F : FnR X.prog X.w X.K X.mg X.base CX k g sp) (hr : Room k X.A) (hx : Passes CX X E) (ha : PA X (e :: es) t)
    (ht : eval (.Call fe (e :: es) [] pos) X.env = (do callWith pos (← eval fe X.env) [] (backTo pos (starEach (e :: es) X.env)) (backToKw pos (keywordEach [] X.env))) := by rfl)
    (he : starEach (e :: es) X.env = (false, eval e X.env) :: starEach es X.env := by rfl) (hpl : (backTo pos (starEach es X.env)).any (·.1) = false := by rfl) : PE X (.Call fe (e :: es) [] pos) (tCallI C sp E tf t) :=
  StX.pe_callO hf c F hr hx ha ht he hpl
def gP {α : Type} : List α → List α → List α
  | [a], [x] => [a, x]
  | _, _ => []
theorem gP_rel {vs zs : List V} {us ws : List Value} (r1 : Vals vs us) (r2 : Vals zs ws) : Vals (gP vs zs) (gP us ws) := by
  rcases r1 with _ | ⟨a, _ | ⟨_, _⟩⟩ <;> rcases r2 with _ | ⟨b, _ | ⟨_, _⟩⟩ <;> first | exact .nil | exact .cons a (.cons b .nil)
theorem gP_len {α : Type} {us ws : List α} (h : (gP us ws).length = 2) : ∃ a x, us = [a] ∧ ws = [x] := by
  match us, ws, h with
  | [a], [x], _ => exact ⟨a, x, rfl, rfl⟩
/-- __init__ by keywords, the bound first -/
def gBP {α : Type} : List α → List α → List α
  | [x], [b, p] => [x, p, b]
  | _, _ => []
theorem gBP_rel {vs zs : List V} {us ws : List Value} (r1 : Vals vs us) (r2 : Vals zs ws) : Vals (gBP vs zs) (gBP us ws) := by
  cases r1 with
  | nil => exact .nil
  | cons a t =>
    cases t with
    | cons b t => exact .nil
    | nil =>
      cases r2 with
      | nil => exact .nil
      | cons c t =>
        cases t with
        | nil => exact .nil
        | cons d t =>
          cases t with
          | nil => exact .cons a (.cons d (.cons c .nil))
          | cons e t => exact .nil
/-- the class of tests, with what its methods promise -/
structure TMeth (P : Program) (w : World) (K : PySem.W.Frag) (mg : Str → Option Value) (base : Heap) (C : Addr) : Prop where
  cl : TCls K C
  it : InsT K C
  g : mg "Test" = some (.ref C)
  mkr : ∃ (f : Addr) (fd : FuncData), Mk K C f ∧ FnOk P w K mg base CX0 4 f fd ["self", "parts", "bound"] (spTInit C) ∧ Binds K fd ["self", "parts", "bound"] [] ∧ KBn K fd ["self", "parts", "bound"] 1 ["bound", "parts"] gBP gBP
  am : ∃ (f : Addr) (fd : FuncData), FnOk P w K mg base CX0 3 f fd ["self", "numbers"] (spAmount C) ∧ Binds K fd ["self", "numbers"] [] ∧ Meth K C "amount" f ∧ KBinds K fd ["self", "numbers"] ["numbers"] gP gP
  ca : ∃ (f : Addr) (fd : FuncData), FnOk P w K mg base CX0 4 f fd ["self", "numbers"] (spTCall C) ∧ Binds K fd ["self", "numbers"] [] ∧ StX.CallO K C f ∧ KBinds K fd ["self", "numbers"] ["numbers"] gP gP
  eq : ∃ (f : Addr) (fd : FuncData), FnOk P w K mg base CX0 1 f fd ["self", "other"] (spTEq C) ∧ Binds K fd ["self", "other"] [] ∧ PySem.W.findIn K (.ref C) "__eq__" = some (some (.ref f)) ∧ PySem.W.isFn K (.ref f) = true
  ne : PySem.W.findIn K (.ref C) "__ne__" = some (some (.builtin "object.__ne__"))
  le : ∃ (f : Addr) (fd : FuncData), FnOk P w K mg base CX0 1 f fd ["self"] (spTLen C) ∧ Binds K fd ["self"] [] ∧ PySem.W.findIn K (.ref C) "__len__" = some (some (.ref f)) ∧ PySem.W.isFn K (.ref f) = true
theorem mk_of {C a : Addr} {H1 : Hp} {ns : List Int} {b : Int} {QQ : Addr → Hp → Prop} {E : XK} (h : Ints H1 a ns) (n1 : 1 ≤ ns.length) (n5 : ns.length ≤ 5) (k : ∀ (x : Addr) (H2 : Hp), H1 x = none → Same H1 H2 → TestAt C H2 x ns b → QQ x H2) :
    ∀ x dx, H1 x = none → H1 dx = none → dx ≠ x → spTInit C [.ref x, .ref a, .int b] (upd (upd H1 dx (.own x)) x (.ins C dx [])) (fun v H2 => v = .non ∧ QQ x H2) E := by
  intro x dx nx ndx nd
  have s1 : Same H1 (upd (upd H1 dx (.own x)) x (.ins C dx [])) := fun c o e => by rw [upd_ne (ne_of_none e nx), upd_ne (ne_of_none e ndx)]; exact e
  refine ⟨x, dx, a, ns, b, rfl, upd_same, h.keep s1, n1, n5, fun H2 t bt hx ht => ⟨rfl, ?_⟩⟩
  exact k x H2 nx (fun c o e => bt c o (ne_of_none e nx) (s1 c o e)) ⟨dx, t, hx, ht⟩
/-! ### how such rows show -/
def Big (n : Int) : Prop := n.natAbs < 2 ^ 1000
theorem Nn.big {n : Int} (h : Nn n) : Big n := Nat.lt_of_le_of_lt h (by decide +kernel)
theorem big_log {n : Int} (h : Big n) : n.natAbs.log2 < 1920 := by
  by_cases z : n.natAbs = 0
  · rw [z]; decide
  · exact (Nat.log2_lt z).mpr (Nat.lt_of_lt_of_le h (by decide +kernel))
theorem big_weight {n : Int} (h : Big n) : (PyData.int n).weight ≤ 1002 := by
  have e : n = 0 ∨ n.natAbs.log2 < 1000 := by
    by_cases z : n.natAbs = 0
    · exact .inl (Int.natAbs_eq_zero.mp z)
    · exact .inr ((Nat.log2_lt z).mpr h)
  simp only [PyData.weight]
  split
  · omega
  · rename_i z
    have : ¬ n = 0 := by simpa using z
    omega
theorem big_show {n : Int} (h : Big n) : (PyData.int n).showable = true := decide_eq_true (big_log h)
theorem big_leaf {n : Int} (h : Big n) : (PyData.int n).leavesShort 2000 = true := by
  have e := int_text_length_le (k := 1920) (by decide) (big_log h)
  refine decide_eq_true ?_
  show (Str.ofString (toString n)).length ≤ 2000
  rw [PySem.ofString_length]
  omega
theorem show_len {d : PyData} (h : d.leavesShort 2000 = true) (hw : d.weight ≤ 8000) : d.shown.length ≤ sizeLine := by
  have := PyData.shown_le 2000 (by decide) d h
  rw [sizeLine_eq]
  omega
theorem natAbs_sum : ∀ (l : List Int) (M : Nat), (∀ x ∈ l, x.natAbs ≤ M) → l.sum.natAbs ≤ l.length * M
  | [], M, _ => by simp
  | x :: r, M, h => by
    have h1 := h x List.mem_cons_self
    have h2 := natAbs_sum r M fun y hy => h y (List.mem_cons_of_mem _ hy)
    rw [List.sum_cons, List.length_cons, Nat.succ_mul]
    have := Int.natAbs_add_le x r.sum
    omega
theorem big_sum {ps ns : List Int} (h1 : AllN ps) (h2 : AllN ns) (h : ps.length ≤ 5) : Big (sumI ps ns) := by
  have e : (sumI ps ns).natAbs ≤ (List.zipWith (fun a b => a * b) ps ns).length * ((10 ^ 40 + 9) * (10 ^ 40 + 9)) := by
    refine natAbs_sum _ _ fun x hx => ?_
    obtain ⟨i, hi, rfl⟩ := List.getElem_of_mem hx
    rw [List.getElem_zipWith, Int.natAbs_mul]
    exact Nat.mul_le_mul (h1 _ (List.getElem_mem _)) (h2 _ (List.getElem_mem _))
  have l : (List.zipWith (fun a b => a * b) ps ns).length ≤ 5 := by rw [List.length_zipWith]; omega
  have l2 := Nat.mul_le_mul_right ((10 ^ 40 + 9) * (10 ^ 40 + 9)) l
  exact Nat.lt_of_le_of_lt (Nat.le_trans e l2) (by decide +kernel)
end Ev
namespace Ev
open PySem L2 PySem.Spec PyProof.Rows
def spHolds : Sp := fun vs H Q _ => ∃ (a r : Addr) (ps ns : List Int) (far : Int), vs = [.ref a, .int far, .ref r] ∧ H a = some (.lst (ps.map V.int)) ∧ H r = some (.lst (ns.map V.int)) ∧ ps.length = ns.length ∧ 1 ≤ ps.length ∧ ps.length ≤ 5 ∧ AllN ps ∧ AllN ns ∧ ∀ H', Same H H' → Q (.bl true) H'
section
variable {P : Program} {w : World} {K : PySem.W.Frag} {mg : Str → Option Value} {base : Heap}
theorem scHolds : FnScope ["_law_some", "_law_far", "_law_row", "_law_due", "_law_made", "_law_told"] ["_law_some", "_law_far", "_law_row"] (defScope sHolds) := ⟨rfl, rfl, rfl, by decide +kernel, rfl, by decide +kernel, by decide +kernel⟩
def toldD (s : Int) (b : Bool) : PyData := .list [.int s, .int s, .bool b, .bool b]
theorem told_show {s : Int} (h : Big s) (b : Bool) : (toldD s b).showable = true ∧ (toldD s b).hasDict = false ∧ (toldD s b).depth ≤ 32 ∧ (toldD s b).shown.length ≤ sizeLine := by
  refine ⟨?_, rfl, by simp [toldD, PyData.depth, PyData.depthAll], show_len ?_ ?_⟩
  · simp only [toldD, PyData.showable, PyData.showableAll, Bool.and_true]
    have e := big_show h
    simp only [PyData.showable] at e
    simp [e]
  · have e := big_leaf h
    simp only [toldD, PyData.leavesShort, PyData.leavesShortAll, Bool.and_true] at e ⊢
    simp [e]
  · have e := big_weight h
    simp only [toldD, PyData.weight, PyData.weightAll] at e ⊢
    omega
theorem fld_no {t : Addr} {b : Int} {m : Str} (h1 : ¬ m = "parts") (h2 : ¬ m = "bound") : (testF t b).lookup m = none := (lk_miss h1).trans ((lk_miss h2).trans rfl)
theorem ok_holds {f C : Addr} {fd : FuncData} (F : Fun K "_law_holds_right" "_law_holds_right" sHolds f fd) (T : Blt mg) (mr : mg "repr" = none) (TM : TMeth P w K mg base C) (D1 : Df P w K mg base 1 "_law_sum" ["_law_some", "_law_row"] spSum) : FnG P w K mg base 6 f fd ["_law_some", "_law_far", "_law_row"] spHolds := by
  obtain ⟨f1, fd1, G1, g1, k1, b1⟩ := D1.ex
  obtain ⟨TC, IT, gC, ⟨fm, fdm, MM, GM, bM, bMk⟩, ⟨fa, fda, GA, bA, mA, bAk⟩, ⟨fc, fdc, GC, bC, cC, bCk⟩, _, _, _⟩ := id TM
  have RC := fnr_of GC bC
  refine fng_of F scHolds (fun vs H Q E h => ?_) (fun cdv A outer s H vs Q E hr gd h => ?_)
  · obtain ⟨a, r, ps, ns, far, rfl, _⟩ := h
    rfl
  · obtain ⟨a, r, ps, ns, far, rfl, ha, hr', hl, n1, n5, s1, s2, kk⟩ := h
    have hr1 : Room 1 _ := hr.mono (by decide)
    have hr3 : Room 3 _ := hr.mono (by decide)
    have hr4 : Room 4 _ := hr.mono (by decide)
    have hu := Room.units hr
    refine ⟨_, pss_cons (ps_par (i := 3) (j := 4) rfl scHolds.nd rfl rfl (by decide) rfl rfl (pa_cons (pe_call G1 hr1 (by rfl) g1 k1 b1 .nil pass0 (pa_cons (pv 0) (pa_cons (pv 2) pa_nil))) (pa_cons (pe_make MM GM hr (by rfl) gC bM .nil pass0 (pa_cons (pv 0) (pa_cons (pv 1) pa_nil))) pa_nil)) (by rfl))
      (pss_cons (ps_set (i := 5) scHolds.nd rfl (.inl rfl) (pe_lst (pa_cons (pe_meth (pv 4) TC.cl mA GA hr3 bA .nil pass0 (pa_cons (pv 2) pa_nil)) (pa_cons (pe_methK0 (pv 4) TC.cl mA GA hr3 bAk (E := E0) pass0 (pk_cons (pe_callTy call_tuple_of (by rfl) T.tuple (by decide +kernel) (pa_cons (pv 2) pa_nil)) pk_nil))
          (pa_cons (pe_callI (pv 4) cC RC hr4 (E := E0) pass0 (pa_cons (pv 2) pa_nil)) (pa_cons (pe_callOK (pv 4) cC GC hr4 bCk (E := E0) pass0 (pk_cons (pe_callTy call_tuple_of (by rfl) T.tuple (by decide +kernel) (pa_cons (pv 2) pa_nil)) pk_nil)) pa_nil))))))
      (pss_one (ps_ret (pe_cmpR op_eq (pe_callB (call_repr gd hu) (by rfl) mr (by decide +kernel) (pa_cons (pv 5) pa_nil)) (pe_callB (call_repr gd hu) (by rfl) mr (by decide +kernel) (pa_cons (pe_lst (pa_cons (pv 3) (pa_cons (pv 3) (pa_cons (pe_cmpR op_ge (pv 3) (pv 1) (nomark _)) (pa_cons (pe_cmpR op_ge (pv 3) (pv 1) (nomark _)) pa_nil))))) pa_nil)) (nomark _))))), ?_⟩
    refine ⟨_, rfl, _, rfl, a, r, ps, ns, rfl, ha, hr', hl, by omega, s1.sm, s2.sm, ?_⟩
    refine ⟨_, rfl, _, rfl, mk_of (.inl ha) n1 n5 fun x H1 nx e1 tt => ?_⟩
    refine ⟨_, _, rfl, ?_⟩
    have e2 := e1
    have t2 := tt
    generalize H1 = H2 at e2 t2
    obtain ⟨dx, t, hx, ht⟩ := id t2
    have hrow := e2 _ _ hr'
    refine ⟨_, rfl, x, dx, _, rfl, hx, fld_no (by decide +kernel) (by decide +kernel), _, rfl, x, r, ps, ns, far, rfl, t2, .inl hrow, hl, by omega, s1.sm, s2.sm, fun H3 e3 => ?_⟩
    have t3 := t2.keep e3
    refine ⟨_, rfl, x, dx, _, rfl, e3 _ _ hx, fld_no (by decide +kernel) (by decide +kernel), _, rfl, r, _, rfl, .inl ⟨SqL.of (e3 _ _ hrow), fun l nl => ?_⟩⟩
    have e4 := e3.trans (same_new (o := .tup (ns.map V.int)) nl)
    refine ⟨x, l, ps, ns, far, rfl, t2.keep e4, .inr upd_same, hl, by omega, s1.sm, s2.sm, fun H4 e5 => ?_⟩
    have e6 := e4.trans e5
    refine ⟨_, rfl, x, rfl, _, rfl, .inr ⟨dx, _, e6 _ _ hx⟩, x, r, ps, ns, far, rfl, t2.keep e6, .inl (e6 _ _ hrow), hl, by omega, s1.sm, s2.sm, fun H5 e7 => ?_⟩
    have e8 := e6.trans e7
    refine ⟨_, rfl, x, rfl, _, rfl, r, _, rfl, .inl ⟨SqL.of (e8 _ _ hrow), fun l2 nl2 => ?_⟩⟩
    have e9 := e8.trans (same_new (o := .tup (ns.map V.int)) nl2)
    refine ⟨.inr ⟨dx, _, e9 _ _ hx⟩, x, l2, ps, ns, far, rfl, t2.keep e9, .inr upd_same, hl, by omega, s1.sm, s2.sm, fun H6 e10 => ⟨(by show 4 ≤ sizeLine; decide), fun l3 nl3 => ?_⟩⟩
    have bg := big_sum s1 s2 n5
    obtain ⟨w1, w2, w3, w4⟩ := told_show bg (decide (far ≤ sumI ps ns))
    have e11 := e2.trans ((e9.trans e10).trans (same_new (o := .lst [.int (sumI ps ns), .int (sumI ps ns), .bl (decide (far ≤ sumI ps ns)), .bl (decide (far ≤ sumI ps ns))]) nl3))
    have h3 : upd H6 l3 (.lst [.int (sumI ps ns), .int (sumI ps ns), .bl (decide (far ≤ sumI ps ns)), .bl (decide (far ≤ sumI ps ns))]) l3 = some (.lst [.int (sumI ps ns), .int (sumI ps ns), .bl (decide (far ≤ sumI ps ns)), .bl (decide (far ≤ sumI ps ns))]) := upd_same
    generalize upd H6 l3 (.lst [.int (sumI ps ns), .int (sumI ps ns), .bl (decide (far ≤ sumI ps ns)), .bl (decide (far ≤ sumI ps ns))]) = H7 at e11 h3 ⊢
    refine ⟨_, rfl, l3, toldD (sumI ps ns) (decide (far ≤ sumI ps ns)), rfl, .lst (SqL.of h3) (.cons (.int _) (.cons (.int _) (.cons (.bl _) (.cons (.bl _) .nil)))), w1, w2, w3, w4, ?_⟩
    refine ⟨_, rfl, _, rfl, _, rfl, _, rfl, _, _, rfl, rfl, _, rfl, _, rfl, _, _, rfl, rfl, (by show 4 ≤ sizeLine; decide), fun l4 nl4 => ?_⟩
    refine ⟨l4, toldD (sumI ps ns) (decide (far ≤ sumI ps ns)), rfl, .lst (SqL.of upd_same) (.cons (.int _) (.cons (.int _) (.cons (.bl _) (.cons (.bl _) .nil)))), w1, w2, w3, w4, rfl, ?_⟩
    rw [decide_eq_true rfl]
    exact kk _ (e11.trans (same_new nl4))
end
end Ev
namespace Ev
open PySem L2 PySem.Spec PyProof.Rows
/-- a value of a built-in type, no test, whatever becomes of the list at l -/
def NoTB (l : Addr) (H : Hp) (y : V) : Prop := ∃ (T : String) (m : List String), (∀ (K : PySem.W.Frag) (H' : Hp), But l H H' → TyX K H' y (.type T)) ∧ fastBuiltinMro T = some (m.map Value.type)
/-- what is unlike a test -/
def Oth (C l : Addr) (H : Hp) (ps : List Int) (b : Int) (y : V) : Prop := (∃ z qs c, y = .ref z ∧ TestAt C H z qs c ∧ eqT ps b qs c = false) ∨ NoTB l H y
theorem TestAt.but {C l x : Addr} {H H' : Hp} {ps : List Int} {b : Int} {xs : List V} (h : TestAt C H x ps b) (hl : H l = some (.lst xs)) (k : But l H H') : TestAt C H' x ps b := by
  obtain ⟨dx, t, h1, h2⟩ := h
  exact ⟨dx, t, k _ _ (ne_of h1 hl (by intro z; cases z)) h1, k _ _ (ne_of h2 hl (by intro z; cases z)) h2⟩
theorem Oth.but {C l : Addr} {H H' : Hp} {ps : List Int} {b : Int} {y : V} {xs : List V} (h : Oth C l H ps b y) (hl : H l = some (.lst xs)) (k : But l H H') : Oth C l H' ps b y := by
  rcases h with ⟨z, qs, c, e, t, n⟩ | ⟨T, m, ty, mro⟩
  · exact .inl ⟨z, qs, c, e, t.but hl k, n⟩
  · exact .inr ⟨T, m, fun K G q => ty K G (k.trans q), mro⟩
theorem Oth.keep {C l : Addr} {H H' : Hp} {ps : List Int} {b : Int} {y : V} (h : Oth C l H ps b y) (k : Same H H') : Oth C l H' ps b y := by
  rcases h with ⟨z, qs, c, e, t, n⟩ | ⟨T, m, ty, mro⟩
  · exact .inl ⟨z, qs, c, e, t.keep k, n⟩
  · exact .inr ⟨T, m, fun K G q => ty K G ((Same.but k).trans q), mro⟩
theorem noTB_lst {H : Hp} {a l : Addr} {xs : List V} (h : H a = some (.lst xs)) (n : a ≠ l) : NoTB l H (.ref a) := ⟨"list", ["list", "object"], fun _ _ k => .base (.lst (k _ _ n h)), by decide +kernel⟩
theorem noTB_tup {H : Hp} {a l : Addr} {xs : List V} (h : H a = some (.tup xs)) (n : a ≠ l) : NoTB l H (.ref a) := ⟨"tuple", ["tuple", "object"], fun _ _ k => .base (.tup (k _ _ n h)), by decide +kernel⟩
theorem noTB_non (l : Addr) (H : Hp) : NoTB l H .non := ⟨"NoneType", ["NoneType", "object"], fun _ _ _ => .base .non, by decide +kernel⟩
theorem noTB_int (l : Addr) (H : Hp) (i : Int) : NoTB l H (.int i) := ⟨"int", ["int", "object"], fun _ _ _ => .base (.int i), by decide +kernel⟩
theorem eqT_self (ps : List Int) (b : Int) : eqT ps b ps b = true := by simp [eqT]
theorem eqT_parts {ps qs : List Int} {b c : Int} (h : ps ≠ qs) : eqT ps b qs c = false := by simp [eqT, h]
theorem eqT_bound {ps qs : List Int} {b c : Int} (h : b ≠ c) : eqT ps b qs c = false := by simp [eqT, h]
theorem Pen.butN {L p lo : Addr} {H0 G' : Hp} {B : Int} {o : HO} (h : Pen L H0 p B) (n : H0 lo = none) (k : But lo (upd H0 lo o) G') : Pen L G' p B := by
  obtain ⟨ns, t, c, h1, h2, r⟩ := h
  have a1 := ne_of_none h1 n
  have a2 := ne_of_none h2 n
  exact ⟨ns, t, c, k _ _ a1 (by rw [upd_ne a1]; exact h1), k _ _ a2 (by rw [upd_ne a2]; exact h2), r⟩
theorem ixN_nat {n j : Nat} (h : j < n) : ixN n (j : Int) = some j := by
  unfold ixN
  rw [if_pos (by omega)]
  simp [h]
theorem cut_one {z : Int} {ys : List Int} : cutV ((z :: ys).map V.int) (some 1) none = ys.map V.int := by
  unfold cutV
  have n1 : HT.sIx ((z :: ys).map V.int).length 0 (some 1) = 1 := by
    have q := HT.sIx_nat ((z :: ys).map V.int).length 0 1
    rw [show ((1 : Nat) : Int) = 1 from rfl] at q
    rw [q, List.length_map, List.length_cons]
    omega
  rw [n1, HT.sIx_none, List.map_cons, List.length_cons, Nat.add_sub_cancel]
  show (ys.map V.int).take (ys.map V.int).length = ys.map V.int
  exact List.take_length
section
variable {K : PySem.W.Frag} {C : Addr} {H : Hp} {x : Addr} {ps : List Int} {b : Int} {E : XK} {neg : Bool} {Q : VK}
theorem own_test {z : Addr} {qs : List Int} {c : Int} (TC : TCls K C) (IT : InsT K C) (h : TestAt C H x ps b) (hz : TestAt C H z qs c) (k : Q (.bl (neg ^^ eqT ps b qs c)) H) : rOwnB K C (spTEq C) E neg (.ref x) (.ref z) H Q := by
  obtain ⟨dx, t, hx, ht⟩ := id h
  exact ⟨x, dx, _, _, rfl, hx, tyTest TC IT hz, nf_own, x, .ref z, ps, b, rfl, h, .inl ⟨z, qs, c, rfl, hz, _, rfl, k⟩⟩
theorem own_oth {y : V} {l : Addr} (TC : TCls K C) (IT : InsT K C) (h : TestAt C H x ps b) (hy : Oth C l H ps b y) (k : Q (.bl (neg ^^ false)) H) : rOwnB K C (spTEq C) E neg (.ref x) y H Q := by
  rcases hy with ⟨z, qs, c, rfl, hz, n⟩ | ⟨T, m, ty, mro⟩
  · exact own_test TC IT h hz (by rw [n]; exact k)
  · obtain ⟨dx, t, hx, ht⟩ := id h
    exact ⟨x, dx, _, _, rfl, hx, ty _ _ (But.refl l H), nf_ty mro, x, y, ps, b, rfl, h, .inr ⟨⟨T, m, fun K G q => ty K G (Same.but q), mro⟩, _, rfl, k⟩⟩
end
def spLike : Sp := fun vs H Q _ => ∃ (p L a : Addr) (ps : List Int) (far B : Int), vs = [.ref p, .ref a, .int far] ∧ B ≤ 900000 ∧ Pen L H p B ∧ H a = some (.lst (ps.map V.int)) ∧ a ≠ p ∧ 1 ≤ ps.length ∧ ps.length ≤ 5 ∧ AllN ps ∧ Nn far ∧ ∀ H', But p H H' → Pen L H' p (B + 5) → Q (.bl true) H'
abbrev nLike : List Str := ["_law_pen_here", "_law_some", "_law_far", "_law_made", "_law_at", "_law_bent", "_law_others", "_law_one"]
theorem scLike : FnScope nLike ["_law_pen_here", "_law_some", "_law_far"] (defScope sLike) := ⟨rfl, rfl, rfl, by decide +kernel, rfl, by decide +kernel, by decide +kernel⟩
abbrev restLike (n : Nat) : List Stmt := (defBody sLike).drop n
section
variable {P : Program} {w : World} {K : PySem.W.Frag} {mg : Str → Option Value} {base : Heap}
theorem ok_like {f C : Addr} {fd : FuncData} (F : Fun K "_law_like_right" "_law_like_right" sLike f fd) (T : Blt mg) (TM : TMeth P w K mg base C) (D1 : Df P w K mg base 1 "_law_draw" ["_law_pen_here", "_law_top_so"] spDraw) (D2 : Df P w K mg base 2 "_law_pick" ["_law_pen_here", "_law_some"] spPick) : FnOk P w K mg base CX0 6 f fd ["_law_pen_here", "_law_some", "_law_far"] spLike := by
  obtain ⟨f1, fd1, G1, g1, k1, b1⟩ := D1.ex
  obtain ⟨f2, fd2, G2, g2, k2, b2⟩ := D2.ex
  obtain ⟨TC, IT, gC, ⟨fm, fdm, MM, GM, bM, bMk⟩, _, _, ⟨fe, fde, GE, bE, heq, hef⟩, hne, _⟩ := id TM
  have RE := fnr_of GE bE
  refine F.ok scLike (fun vs H Q E h => ?_) (fun cdv A outer s H vs Q E hr h => ?_)
  · obtain ⟨p, L, a, ps, far, B, rfl, _⟩ := h
    rfl
  · obtain ⟨p, L, a, ps, far, B, rfl, hB, pn, ha, ap, n1, n5, an, nf, kk⟩ := h
    have hr1 : Room 1 _ := hr.mono (by decide)
    have hr2 : Room 2 _ := hr.mono (by decide)
    have hu := Room.units hr
    obtain ⟨tC, hC, qC⟩ : ∃ t : TS, PSs (cxOf CX0 P w K mg base nLike "_law_like_right" (defScope sLike) f cdv A outer s H E).nox (restLike 6) t ∧ ∀ (D : Ends) (G : Hp) (x l : Addr) (xs : List V) (v4 v5 v7 : Option V), TestAt C G x ps far → G a = some (.lst (ps.map V.int)) → G l = some (.lst xs) → (∀ y ∈ xs, Oth C l G ps far y) →
        (∀ G', Same G G' → D.rt (.bl true) G') → t D [some (.ref p), some (.ref a), some (.int far), some (.ref x), v4, v5, some (.ref l), v7] G := by
      refine ⟨_, pss_cons (ps_if (PW.pt (pw_or (pt_cmpR (op_neD hu) (pe_lc (own := [("_law_one", 7)]) (g := gName 7) (tt := tTest (tOp (rOwnB K C (spTEq C) E0 false) (tVar 3) (tVar 7))) (by rfl) scLike.nd (pi_list (pv 6)) (blkOk_by (own := [("_law_one", 7)]) (N := nLike) (sc := defScope sLike) (by decide +kernel))
            (fun _ _ _ _ _ => pg_name (i := 7) scLike.nd rfl (.inl rfl)) (fun _ _ _ _ _ => pts_one (pt_cmpR (op_eqO (E := E0) heq hef RE hr1 pass0) (pv 3) (pv 7) (nomark _))) (fun _ _ _ _ _ => pv 7)) (pe_lst pa_nil) (nomark _))
          (pw_or1 (pt_cmpR (op_neD hu) (pe_lc (own := [("_law_one", 7)]) (g := gName 7) (tt := tNot (tTest (tOp (rOwnB K C (spTEq C) E0 true) (tVar 3) (tVar 7)))) (by rfl) scLike.nd (pi_list (pv 6)) (blkOk_by (own := [("_law_one", 7)]) (N := nLike) (sc := defScope sLike) (by decide +kernel))
            (fun _ _ _ _ _ => pg_name (i := 7) scLike.nd rfl (.inl rfl)) (fun _ _ _ _ _ => pts_one (pt_not (pt_cmpR (op_neO (E := E0) heq hne IT.hm hef RE hr2 pass0) (pv 3) (pv 7) (nomark _)))) (fun _ _ _ _ _ => pv 7)) (pe_lst pa_nil) (nomark _))))) (pss_one (ps_ret pe_bl)) pss_nil)
        (pss_one (ps_ret (pe_and (pe_cmpR (op_eqO (E := E0) heq hef RE hr1 pass0) (pv 3) (pe_makeK0 MM GM hr (by rfl) gC bMk (E := E0) pass0 (pk_cons (pv 2) (pk_cons (pe_callTy call_tuple_of (by rfl) T.tuple (by decide +kernel) (pa_cons (pv 1) pa_nil)) pk_nil))) (nomark _))
          (pe_one (pe_cmpR (op_eqO (E := E0) heq hef RE hr1 pass0) (pv 3) (pe_make MM GM hr (by rfl) gC bM .nil pass0 (pa_cons (pe_callTy call_list_of (by rfl) T.list (by decide +kernel) (pa_cons (pv 1) pa_nil)) (pa_cons (pv 2) pa_nil))) (nomark _)))))), ?_⟩
      intro D G x l xs v4 v5 v7 tt ga gl oth fin
      have mem : ∀ {i : Nat} {y : V}, xs[i]? = some y → y ∈ xs := fun e => List.mem_of_getElem? e
      refine ⟨_, rfl, l, rfl, ⟨_, SqL.of gl⟩, fun D1 nD1 => ?_⟩
      have s1 := same_new (o := .lst []) nD1
      have d1 : upd G D1 (.lst []) D1 = some (.lst []) := upd_same
      refine lc_it (n := xs.length) (walk_list (xs := xs)) (fun _ H' => H' = upd G D1 (.lst [])) rfl (fun i H' _ h => by rw [h]; exact SqL.of (s1 _ _ gl)) (fun i y H1 H' hi e hy => ?_) (fun H' e => ?_)
      · obtain ⟨rfl, hx⟩ := hy
        subst e
        exact ⟨rfl, _, rfl, _, rfl, own_oth TC IT (tt.keep s1) ((oth y (mem hx)).keep s1) ⟨false, rfl, iteF rfl⟩⟩
      subst e
      generalize upd G D1 (.lst []) = A1 at s1 d1 ⊢
      refine ⟨(by show 0 ≤ sizeLine; decide), fun D2 nD2 => ⟨.list [], .list [], .lst (SqL.of (same_new nD2 _ _ d1)) .nil, .lst (SqL.of upd_same) .nil, sh_ints [], sh_ints [], _, rfl, ?_⟩⟩
      rw [show PyData.eqv (.list []) (.list []) = true by decide +kernel]
      refine iteF ?_
      have s2 := s1.trans (same_new (o := .lst []) nD2)
      generalize upd A1 D2 (.lst []) = A2 at s2 ⊢
      refine ⟨_, rfl, l, rfl, ⟨_, SqL.of (s2 _ _ gl)⟩, fun D3 nD3 => ?_⟩
      have s3 := s2.trans (same_new (o := .lst []) nD3)
      have d3 : upd A2 D3 (.lst []) D3 = some (.lst []) := upd_same
      refine lc_it (n := xs.length) (walk_list (xs := xs)) (fun _ H' => H' = upd A2 D3 (.lst [])) rfl (fun i H' _ h => by rw [h]; exact SqL.of (s3 _ _ gl)) (fun i y H1 H' hi e hy => ?_) (fun H' e => ?_)
      · obtain ⟨rfl, hx⟩ := hy
        subst e
        exact ⟨rfl, _, rfl, _, rfl, own_oth TC IT (tt.keep s3) ((oth y (mem hx)).keep s3) ⟨true, rfl, iteF rfl⟩⟩
      subst e
      generalize upd A2 D3 (.lst []) = A3 at s3 d3 ⊢
      refine ⟨(by show 0 ≤ sizeLine; decide), fun D4 nD4 => ⟨.list [], .list [], .lst (SqL.of (same_new nD4 _ _ d3)) .nil, .lst (SqL.of upd_same) .nil, sh_ints [], sh_ints [], _, rfl, ?_⟩⟩
      rw [show PyData.eqv (.list []) (.list []) = true by decide +kernel]
      refine iteF ?_
      have s4 := s3.trans (same_new (o := .lst []) nD4)
      generalize upd A3 D4 (.lst []) = A4 at s4 ⊢
      refine ⟨_, rfl, _, rfl, _, rfl, a, _, rfl, .inl ⟨SqL.of (s4 _ _ ga), fun t nt => ⟨rfl, rfl, mk_of (.inr upd_same) n1 n5 fun z H2 nz e2 tz => ?_⟩⟩⟩
      have s5 := s4.trans ((same_new (o := .tup (ps.map V.int)) nt).trans e2)
      refine own_test TC IT (tt.keep s5) tz ?_
      rw [eqT_self]
      refine ⟨true, rfl, iteT ?_⟩
      refine ⟨_, rfl, _, rfl, a, _, rfl, .inl (SqL.of (s5 _ _ ga)), fun t2 nt2 => ⟨_, rfl, mk_of (.inl upd_same) n1 n5 fun z2 H3 nz2 e3 tz2 => ?_⟩⟩
      have s6 := s5.trans ((same_new (o := .lst (ps.map V.int)) nt2).trans e3)
      refine own_test TC IT (tt.keep s6) tz2 ?_
      rw [eqT_self]
      exact fin _ s6
    obtain ⟨t5, h5, q5⟩ : ∃ t : TS, PSs (cxOf CX0 P w K mg base nLike "_law_like_right" (defScope sLike) f cdv A outer s H E).nox (restLike 5) t ∧ ∀ (D : Ends) (G : Hp) (x l : Addr) (xs : List V) (v4 v5 v7 : Option V), TestAt C G x ps far → G a = some (.lst (ps.map V.int)) → a ≠ l → G l = some (.lst xs) → xs.length ≤ 100 → (∀ y ∈ xs, Oth C l G ps far y) →
        (∀ G', But l G G' → D.rt (.bl true) G') → t D [some (.ref p), some (.ref a), some (.int far), some (.ref x), v4, v5, some (.ref l), v7] G := by
      refine ⟨_, pss_cons (ps_if (pt_cmpR op_gt (pe_callB call_len_seq (by rfl) T.len PySem.boot_len (pa_cons (pv 1) pa_nil)) pe_int (nomark _))
        (pss_one (ps_expr (pe_bm PySem.F.plainAttrs_list PySem.F.slot_list_append PySem.F.type_list_append mt_append (pv 6) (pa_cons (pe_make MM GM hr (by rfl) gC bM .nil pass0 (pa_cons (pe_slice sl_list (pv 1) (po_some pe_int) po_none) (pa_cons (pv 2) pa_nil))) pa_nil)))) pss_nil) hC, ?_⟩
      intro D G x l xs v4 v5 v7 tt ga al gl xl oth fin
      refine ⟨_, rfl, a, _, rfl, .inl (SqL.of ga), _, _, rfl, rfl, _, rfl, ite2 (fun e => ?_) (fun _ => qC D G x l xs v4 v5 v7 tt ga gl oth (fun G' k => fin G' (Same.but k)))⟩
      have e : decide ((1 : Int) < ((ps.map V.int).length : Nat)) = true := e
      have e : (1 : Int) < (ps.length : Nat) := by rw [List.length_map] at e; exact of_decide_eq_true e
      obtain ⟨z, ys, rfl⟩ : ∃ z ys, ps = z :: ys := by
        cases ps with
        | nil => simp at n1
        | cons z ys => exact ⟨z, ys, rfl⟩
      have ly : (z :: ys).length = ys.length + 1 := rfl
      refine ⟨_, rfl, .inl ⟨rfl, _, SqL.of gl⟩, _, rfl, _, rfl, a, _, rfl, SqL.of ga, fun q nq => ?_⟩
      rw [cut_one]
      refine ⟨_, rfl, mk_of (.inl upd_same) (by omega) (by omega) fun u H2 nu e2 tu => ?_⟩
      have s2 := (same_new (o := .lst (ys.map V.int)) nq).trans e2
      refine ⟨l, _, _, rfl, rfl, s2 _ _ gl, Nat.lt_of_le_of_lt xl (by decide), ?_⟩
      have gl2 := s2 _ _ gl
      have bt : But l H2 (upd H2 l (.lst (xs ++ [.ref u]))) := But.upd_at
      refine qC D _ x l _ v4 v5 v7 ((tt.keep s2).but gl2 bt) (bt _ _ al (s2 _ _ ga)) upd_same (fun y my => ?_) (fun G' k => fin G' (fun c o n ec => k _ _ (bt _ _ n (s2 _ _ ec))))
      rcases List.mem_append.mp my with m | m
      · exact ((oth y m).keep s2).but gl2 bt
      · obtain rfl := List.mem_singleton.mp m
        exact .inl ⟨u, ys, far, rfl, tu.but gl2 bt, eqT_parts fun ez => by have := congrArg List.length ez; omega⟩
    obtain ⟨t4, h4, q4⟩ : ∃ t : TS, PSs (cxOf CX0 P w K mg base nLike "_law_like_right" (defScope sLike) f cdv A outer s H E).nox (restLike 4) t ∧ ∀ (D : Ends) (G : Hp) (x l : Addr) (xs : List V) (v4 v5 v7 : Option V), TestAt C G x ps far → G a = some (.lst (ps.map V.int)) → a ≠ l → G l = some (.lst xs) → xs.length ≤ 99 → (∀ y ∈ xs, Oth C l G ps far y) →
        (∀ G', But l G G' → D.rt (.bl true) G') → t D [some (.ref p), some (.ref a), some (.int far), some (.ref x), v4, v5, some (.ref l), v7] G := by
      refine ⟨_, pss_cons (ps_if (pt_cmpR op_lt (pe_callB call_len_seq (by rfl) T.len PySem.boot_len (pa_cons (pv 1) pa_nil)) pe_int (nomark _))
        (pss_one (ps_expr (pe_bm PySem.F.plainAttrs_list PySem.F.slot_list_append PySem.F.type_list_append mt_append (pv 6) (pa_cons (pe_make MM GM hr (by rfl) gC bM .nil pass0 (pa_cons (pe_op op_cat (pe_callTy call_list_of (by rfl) T.list (by decide +kernel) (pa_cons (pv 1) pa_nil)) (pe_lst (pa_cons pe_int pa_nil))) (pa_cons (pv 2) pa_nil))) pa_nil)))) pss_nil) h5, ?_⟩
      intro D G x l xs v4 v5 v7 tt ga al gl xl oth fin
      refine ⟨_, rfl, a, _, rfl, .inl (SqL.of ga), _, _, rfl, rfl, _, rfl, ite2 (fun e => ?_) (fun _ => q5 D G x l xs v4 v5 v7 tt ga al gl (by omega) oth fin)⟩
      have e : decide (((ps.map V.int).length : Int) < 5) = true := e
      have e : (ps.length : Int) < 5 := by rw [List.length_map] at e; exact of_decide_eq_true e
      refine ⟨_, rfl, .inl ⟨rfl, _, SqL.of gl⟩, _, rfl, a, _, rfl, .inl (SqL.of ga), fun q nq => ⟨(by show 1 ≤ sizeLine; decide), fun q2 nq2 => ?_⟩⟩
      have sq := (same_new (o := .lst (ps.map V.int)) nq).trans (same_new (o := .lst [.int 0]) nq2)
      refine ⟨q, q2, _, _, rfl, rfl, same_new nq2 _ _ upd_same, upd_same, ?_, fun q3 nq3 => ?_⟩
      · rw [List.length_map]
        exact Nat.le_trans (show ps.length + 1 ≤ 6 by omega) (by decide)
      have eq3 : ps.map V.int ++ [V.int 0] = (ps ++ [0]).map V.int := by rw [List.map_append]; rfl
      rw [eq3]
      have lp : (ps ++ [0]).length = ps.length + 1 := by rw [List.length_append]; rfl
      refine ⟨_, rfl, mk_of (.inl upd_same) (by omega) (by omega) fun u H2 nu e2 tu => ?_⟩
      have s2 := (sq.trans (same_new (o := .lst ((ps ++ [0]).map V.int)) nq3)).trans e2
      refine ⟨l, _, _, rfl, rfl, s2 _ _ gl, Nat.lt_of_le_of_lt xl (by decide), ?_⟩
      have gl2 := s2 _ _ gl
      have bt : But l H2 (upd H2 l (.lst (xs ++ [.ref u]))) := But.upd_at
      refine q5 D _ x l _ v4 v5 v7 ((tt.keep s2).but gl2 bt) (bt _ _ al (s2 _ _ ga)) al upd_same (by rw [List.length_append]; exact Nat.succ_le_succ xl) (fun y my => ?_) (fun G' k => fin G' (fun c o n ec => k _ _ n (bt _ _ n (s2 _ _ ec))))
      rcases List.mem_append.mp my with m | m
      · exact ((oth y m).keep s2).but gl2 bt
      · obtain rfl := List.mem_singleton.mp m
        exact .inl ⟨u, _, far, rfl, tu.but gl2 bt, eqT_parts fun ez => by have := congrArg List.length ez; omega⟩
    refine ⟨_, pss_cons (ps_asg (pe_tup (pa_cons (pe_make MM GM hr (by rfl) gC bM .nil pass0 (pa_cons (pv 1) (pa_cons (pv 2) pa_nil))) (pa_cons (pe_call G1 hr1 (by rfl) g1 k1 b1 .nil pass0 (pa_cons (pv 0) (pa_cons (pe_callB call_len_seq (by rfl) T.len PySem.boot_len (pa_cons (pv 1) pa_nil)) pa_nil))) pa_nil))) (pg_tup (by rfl) (pgs_cons (pg_name (i := 3) scLike.nd rfl (.inr rfl)) (pgs_cons (pg_name (i := 4) scLike.nd rfl (.inl rfl)) pgs_nil))))
      (pss_cons (ps_set (i := 5) scLike.nd rfl (.inl rfl) (pe_callTy call_list_of (by rfl) T.list (by decide +kernel) (pa_cons (pv 1) pa_nil)))
      (pss_cons (ps_asg (pe_op op_add (pe_ix ix_list (pv 5) (pv 4) (fun _ _ => rfl)) (pe_call G2 hr2 (by rfl) g2 k2 b2 .nil pass0 (pa_cons (pv 0) (pa_cons (pe_lst (pa_cons pe_int (pa_cons (pe_un un_neg pe_int) (pa_cons (pe_op op_pow pe_int pe_int) pa_nil)))) pa_nil)))) (pg_sub (pv 5) (pv 4) set_list))
      (pss_cons (ps_set (i := 6) scLike.nd rfl (.inl rfl) (pe_lst (pa_cons (pe_make MM GM hr (by rfl) gC bM .nil pass0 (pa_cons (pv 5) (pa_cons (pv 2) pa_nil))) (pa_cons (pe_make MM GM hr (by rfl) gC bM .nil pass0 (pa_cons (pv 1) (pa_cons (pe_op op_add (pv 2) pe_int) pa_nil)))
        (pa_cons (pe_make MM GM hr (by rfl) gC bM .nil pass0 (pa_cons (pv 1) (pa_cons (pe_op op_sub (pe_un un_neg (pv 2)) pe_int) pa_nil))) (pa_cons (pe_callTy call_tuple_of (by rfl) T.tuple (by decide +kernel) (pa_cons (pv 1) pa_nil)) (pa_cons (pe_callTy call_list_of (by rfl) T.list (by decide +kernel) (pa_cons (pv 1) pa_nil)) (pa_cons pe_non (pa_cons (pv 2) pa_nil))))))))) h4))), ?_⟩
    refine ⟨_, rfl, _, rfl, mk_of (.inl ha) n1 n5 fun x H1 nx e1 tt => ?_⟩
    have pn1 := pn.keep e1
    have lm : (ps.map V.int).length = ps.length := List.length_map _
    refine ⟨_, rfl, _, rfl, a, _, rfl, .inl (SqL.of (e1 _ _ ha)), p, L, _, _, rfl, by rw [lm]; omega, by rw [lm]; omega, by omega, pn1, fun d H2 t2 p2 d0 d1 => ?_⟩
    rw [lm] at d1
    obtain ⟨j, rfl⟩ := Int.eq_ofNat_of_zero_le d0
    have hj : j < ps.length := by omega
    obtain ⟨px, hpx⟩ := pn1.some
    have tt2 := tt.but hpx t2
    have ha2 := t2 _ _ ap (e1 _ _ ha)
    refine ⟨(by show 2 ≤ sizeLine; decide), fun tp ntp => ⟨tp, _, rfl, SqT.of upd_same, rfl, _, _, rfl, _, _, rfl, rfl, ?_⟩⟩
    have s3 := same_new (o := .tup [.ref x, .int (Int.ofNat j)]) ntp
    have tt3 := tt2.keep s3
    have ha3 := s3 _ _ ha2
    have p3 := p2.new (o := .tup [.ref x, .int (Int.ofNat j)]) ntp
    have b3 : But p H (upd H2 tp (.tup [.ref x, .int (Int.ofNat j)])) := ((Same.but e1).trans t2).trans (Same.but s3)
    clear tt2 ha2 p2 s3 t2 pn1 hpx
    generalize upd H2 tp (.tup [.ref x, .int (Int.ofNat j)]) = H3 at tt3 ha3 p3 b3 ⊢
    refine ⟨_, rfl, a, _, rfl, .inl (SqL.of ha3), fun l nl => ?_⟩
    have s4 := same_new (o := .lst (ps.map V.int)) nl
    have hl4 : upd H3 l (.lst (ps.map V.int)) l = some (.lst (ps.map V.int)) := upd_same
    have lp := p3.ne nl
    have la : a ≠ l := ne_of_none ha3 nl
    have p4 := p3.new (o := .lst (ps.map V.int)) nl
    have tt4 := tt3.keep s4
    have ha4 := s4 _ _ ha3
    have b4 := b3.trans (Same.but s4)
    have nlH : H l = none := But.free b3 p3 nl
    have n3 := nl
    have p3' := p3
    clear tt3 b3 ha3 p3
    generalize upd H3 l (.lst (ps.map V.int)) = H4 at s4 hl4 p4 tt4 ha4 b4 ⊢
    have hpj : ps[j]? = some ps[j] := List.getElem?_eq_getElem hj
    have hj' : (ps.map V.int)[j]? = some (V.int ps[j]) := by rw [List.getElem?_map, hpj]; rfl
    refine ⟨_, rfl, _, rfl, l, _, _, _, rfl, rfl, SqL.of hl4, atI_nat hj', _, rfl, _, rfl, _, _, rfl, rfl, ⟨by decide, by decide, by decide⟩, (by show 3 ≤ sizeLine; decide), fun l3 nl3 => ?_⟩
    refine ⟨p, l3, L, _, _, rfl, upd_same, p4.ne nl3, (by show 1 ≤ 3; decide), (by show 3 ≤ 1000; decide), by omega, p4.new nl3, fun dv H5 mem t5 p5 => ?_⟩
    obtain ⟨dd, rfl, dne⟩ : ∃ dd : Int, dv = .int dd ∧ dd ≠ 0 := by
      simp only [List.mem_cons, List.not_mem_nil, or_false] at mem
      rcases mem with rfl | rfl | rfl <;> exact ⟨_, rfl, by decide⟩
    have s5 := same_new (o := .lst [.int 1, .int (-1), .int (10 ^ Int.toNat 20)]) nl3
    have b5 := b4.trans ((Same.but s5).trans t5)
    have hl5 := t5 _ _ lp (s5 _ _ hl4)
    have ha5 := t5 _ _ ap (s5 _ _ ha4)
    obtain ⟨py, hpy⟩ := (p4.new (o := .lst [.int 1, .int (-1), .int (10 ^ Int.toNat 20)]) nl3).some
    have tt5 := (tt4.keep s5).but hpy t5
    have pl5 : Pen L (upd H5 l (.lst ((ps.set j (ps[j] + dd)).map V.int))) p (B + 1 + 1) := by
      obtain ⟨ns, tn, ca, e1', e2', r⟩ := p5
      obtain ⟨_, _, _, g1', g2', _⟩ := p3'
      exact ⟨ns, tn, ca, by rw [upd_ne (ne_of_none g1' n3)]; exact e1', by rw [upd_ne (ne_of_none g2' n3)]; exact e2', r⟩
    refine ⟨_, _, rfl, rfl, _, rfl, _, rfl, l, _, _, j, rfl, rfl, hl5, ixN_nat (by rw [lm]; exact hj), ?_⟩
    rw [← List.map_set]
    have bl : But l H5 (upd H5 l (.lst ((ps.set j (ps[j] + dd)).map V.int))) := But.upd_at
    have hl6 : upd H5 l (.lst ((ps.set j (ps[j] + dd)).map V.int)) l = some (.lst ((ps.set j (ps[j] + dd)).map V.int)) := upd_same
    have tt6 := tt5.but hl5 bl
    have ha6 := bl _ _ la ha5
    have b6 : But p H (upd H5 l (.lst ((ps.set j (ps[j] + dd)).map V.int))) := fun c o nc ec => bl _ _ (ne_of_none ec nlH) (b5 c o nc ec)
    clear hl5 ha5 tt5 b5 bl p5 tt4 ha4 b4 hl4 s4 p4 s5 t5 hpy p3'
    generalize upd H5 l (.lst ((ps.set j (ps[j] + dd)).map V.int)) = H6 at hl6 ha6 tt6 b6 pl5 ⊢
    have ls : (ps.set j (ps[j] + dd)).length = ps.length := List.length_set
    have ne1 : ps ≠ ps.set j (ps[j] + dd) := fun z => by
      have q := congrArg (fun r : List Int => r[j]?) z
      simp only [List.getElem?_set_self hj, hpj] at q
      have := Option.some.inj q
      omega
    refine ⟨_, rfl, _, rfl, mk_of (.inl hl6) (by omega) (by omega) fun z1 H7 nz1 e7 u1 => ?_⟩
    refine ⟨_, rfl, _, rfl, _, _, rfl, rfl, mk_of (.inl (e7 _ _ ha6)) n1 n5 fun z2 H8 nz2 e8 u2 => ?_⟩
    have e8' := e7.trans e8
    refine ⟨_, rfl, _, rfl, _, rfl, _, _, rfl, rfl, mk_of (.inl (e8' _ _ ha6)) n1 n5 fun z3 H9 nz3 e9 u3 => ?_⟩
    have e9' := e8'.trans e9
    refine ⟨_, rfl, a, _, rfl, .inl ⟨SqL.of (e9' _ _ ha6), fun t4 nt4 => ?_⟩⟩
    have ea := same_new (o := .tup (ps.map V.int)) nt4
    refine ⟨_, rfl, a, _, rfl, .inl (SqL.of (ea _ _ (e9' _ _ ha6))), fun l5 nl5 => ?_⟩
    have eb := ea.trans (same_new (o := .lst (ps.map V.int)) nl5)
    have ht4 := same_new (o := .lst (ps.map V.int)) nl5 _ _ (show upd H9 t4 (.tup (ps.map V.int)) t4 = some (.tup (ps.map V.int)) from upd_same)
    have hl5' : upd (upd H9 t4 (.tup (ps.map V.int))) l5 (.lst (ps.map V.int)) l5 = some (.lst (ps.map V.int)) := upd_same
    generalize upd (upd H9 t4 (.tup (ps.map V.int))) l5 (.lst (ps.map V.int)) = Ha at eb ht4 hl5' ⊢
    refine ⟨_, rfl, (by show 7 ≤ sizeLine; decide), fun lo nlo => ?_⟩
    have ec := same_new (o := .lst [.ref z1, .ref z2, .ref z3, .ref t4, .ref l5, .non, .int far]) nlo
    have ed := (e9'.trans eb).trans ec
    have pa := (pl5.keep (e9'.trans eb))
    refine q4 _ _ x lo _ _ _ _ (tt6.keep ed) (ed _ _ ha6) (ne_of_none ((e9'.trans eb) _ _ ha6) nlo) upd_same (by show 7 ≤ 99; decide) (fun y my => ?_) (fun G' k => ?_)
    · simp only [List.mem_cons, List.not_mem_nil, or_false] at my
      rcases my with rfl | rfl | rfl | rfl | rfl | rfl | rfl
      · exact .inl ⟨z1, _, far, rfl, u1.keep (e8.trans (e9.trans (eb.trans ec))), eqT_parts ne1⟩
      · exact .inl ⟨z2, _, _, rfl, u2.keep (e9.trans (eb.trans ec)), eqT_bound (by omega)⟩
      · exact .inl ⟨z3, _, _, rfl, u3.keep (eb.trans ec), eqT_bound (by omega)⟩
      · exact .inr (noTB_tup (ec _ _ ht4) (ne_of_none ht4 nlo))
      · exact .inr (noTB_lst (ec _ _ hl5') (ne_of_none hl5' nlo))
      · exact .inr (noTB_non _ _)
      · exact .inr (noTB_int _ _ _)
    · refine kk G' (fun c o nc e => ?_) ((pa.butN nlo k).mono (by omega))
      have q := (e9'.trans eb) _ _ (b6 c o nc e)
      exact k _ _ (ne_of_none q nlo) (ec _ _ q)
end
end Ev
namespace Ev
open PySem L2 PySem.Spec PyProof.Rows
def spRight : Sp := fun vs H Q _ => ∃ (p L : Addr) (n : Nat) (B : Int), vs = [.ref p, .int n] ∧ 1 ≤ n ∧ n ≤ 5 ∧ B ≤ 800000 ∧ Pen L H p B ∧ ∀ H', But p H H' → Pen L H' p (B + 100) → Q (.bl true) H'
abbrev nRight : List Str := ["_law_pen_here", "_law_many", "_law_some", "_law_far", "_law_given", "_law_made", "_law_again", "_law_row", "_law_due", "_law_end", "_law_k"]
theorem scRight : FnScope nRight ["_law_pen_here", "_law_many"] (defScope sRight) := ⟨rfl, rfl, rfl, by decide +kernel, rfl, by decide +kernel, by decide +kernel⟩
abbrev restRight (n : Nat) : List Stmt := (defBody sRight).drop n
theorem Pen.upd {L p D : Addr} {H H3 : Hp} {B B3 : Int} {o : HO} (h : Pen L H p B) (h0 : Pen L H3 p B3) (nD : H3 D = none) : Pen L (upd H D o) p B := by
  obtain ⟨ns, t, c, h1, h2, r⟩ := h
  obtain ⟨_, _, _, g1, g2, _⟩ := h0
  exact ⟨ns, t, c, by rw [upd_ne (ne_of_none g1 nD)]; exact h1, by rw [upd_ne (ne_of_none g2 nD)]; exact h2, r⟩
def rowD (ps : List Int) (far : Int) (n : Nat) : PyData := .list [.tuple (ps.map .int), .int far, .int n]
theorem ints_show : ∀ ps : List Int, AllN ps → PyData.showableAll (ps.map .int) = true ∧ PyData.leavesShortAll 2000 (ps.map .int) = true ∧ PyData.weightAll (ps.map .int) ≤ ps.length * 1003
  | [], _ => ⟨rfl, rfl, by simp [PyData.weightAll]⟩
  | x :: r, h => by
    obtain ⟨a, b, c⟩ := ints_show r fun n m => h n (List.mem_cons_of_mem _ m)
    have hx := (h x List.mem_cons_self).big
    refine ⟨?_, ?_, ?_⟩
    · rw [List.map_cons, PyData.showableAll, big_show hx, a]; rfl
    · rw [List.map_cons, PyData.leavesShortAll, big_leaf hx, b]; rfl
    · have := big_weight hx
      rw [List.map_cons, PyData.weightAll, List.length_cons]
      omega
theorem ints_depth (ps : List Int) : PyData.depthAll (ps.map .int) ≤ 1 := by
  induction ps with
  | nil => simp [PyData.depthAll]
  | cons n r ih => simp [PyData.depthAll, PyData.depth]; omega
theorem ints_dict (ps : List Int) : PyData.hasDictAll (ps.map .int) = false := by
  induction ps with
  | nil => rfl
  | cons n r ih => simp [PyData.hasDictAll, PyData.hasDict, ih]
theorem row_show {ps : List Int} {far : Int} {n : Nat} (h1 : AllN ps) (h2 : Nn far) (l : ps.length ≤ 5) (hn : n ≤ 5) : (rowD ps far n).showable = true ∧ (rowD ps far n).hasDict = false ∧ (rowD ps far n).depth ≤ 32 ∧ (rowD ps far n).shown.length ≤ sizeLine := by
  obtain ⟨a, b, c⟩ := ints_show ps h1
  have nb : Big (n : Int) := Nat.lt_of_le_of_lt (show (n : Int).natAbs ≤ 5 by omega) (by decide +kernel)
  have e1 := big_show h2.big
  have e2 := big_show nb
  have e3 := big_leaf h2.big
  have e4 := big_leaf nb
  have e5 := big_weight h2.big
  have e6 := big_weight nb
  refine ⟨?_, ?_, ?_, show_len ?_ ?_⟩
  · simp only [rowD, PyData.showable, PyData.showableAll] at a e1 e2 ⊢
    rw [a, e1, e2]; rfl
  · simp only [rowD, PyData.hasDict, PyData.hasDictAll, ints_dict]; rfl
  · have := ints_depth ps
    simp only [rowD, PyData.depth, PyData.depthAll]
    omega
  · simp only [rowD, PyData.leavesShort, PyData.leavesShortAll] at b e3 e4 ⊢
    rw [b, e3, e4]; rfl
  · simp only [rowD, PyData.weight, PyData.weightAll] at c e5 e6 ⊢
    omega
section
variable {P : Program} {w : World} {K : PySem.W.Frag} {mg : Str → Option Value} {base : Heap}
theorem ok_right {f C f8 : Addr} {fd fd8 : FuncData} (F : Fun K "_law_right" "_law_right" sRight f fd) (T : Blt mg) (mr : mg "repr" = none) (TM : TMeth P w K mg base C) (D1 : Df P w K mg base 1 "_law_draw" ["_law_pen_here", "_law_top_so"] spDraw) (D2 : Df P w K mg base 3 "_law_number" ["_law_pen_here"] spNum)
    (D3 : Df P w K mg base 1 "_law_sum" ["_law_some", "_law_row"] spSum) (D4 : Df P w K mg base 6 "_law_like_right" ["_law_pen_here", "_law_some", "_law_far"] spLike) (G8 : FnG P w K mg base 6 f8 fd8 ["_law_some", "_law_far", "_law_row"] spHolds) (g8 : mg "_law_holds_right" = some (.ref f8)) (k8 : PySem.W.keepIn K (.ref f8) = true) (b8 : Binds K fd8 ["_law_some", "_law_far", "_law_row"] []) :
    FnG P w K mg base 7 f fd ["_law_pen_here", "_law_many"] spRight := by
  obtain ⟨f1, fd1, G1, g1, k1, b1⟩ := D1.ex
  obtain ⟨f2, fd2, G2, g2, k2, b2⟩ := D2.ex
  obtain ⟨f3, fd3, G3, g3, k3, b3⟩ := D3.ex
  obtain ⟨f4, fd4, G4, g4, k4, b4⟩ := D4.ex
  obtain ⟨TC, IT, gC, ⟨fm, fdm, MM, GM, bM, bMk⟩, _, _, _, _, ⟨fl, fdl, GL, bL, hle, hlf⟩⟩ := id TM
  have RL := fnr_of GL bL
  refine fng_of F scRight (fun vs H Q E h => ?_) (fun cdv A outer s H vs Q E hr gd h => ?_)
  · obtain ⟨p, L, n, B, rfl, _⟩ := h
    rfl
  · obtain ⟨p, L, n, B, rfl, n1, n5, hB, pn, kk⟩ := h
    have hr1 : Room 1 _ := hr.mono (by decide)
    have hr2 : Room 2 _ := hr.mono (by decide)
    have hr3 : Room 3 _ := hr.mono (by decide)
    have hr5 : Room 5 _ := hr.mono (by decide)
    have hu : (cxOf CX0 P w K mg base nRight "_law_right" (defScope sRight) f cdv A outer s H E).nox.A.units + 64 < cLine := Room.units hr
    -- a drawn row
    have turn : ∀ (D : Addr) (G0 : Hp) (B0 : Int) (σ : L2.St) (i : Nat) (G1' G2' : Hp) (v : V), B0 ≤ 850000 → σ[0]? = some (some (.ref p)) → (wipe σ [10])[0]? = some (some (.ref p)) → Pen L G0 p B0 → G0 D = none → i < n →
        (∃ cs : List Int, cs.length = i ∧ AllN cs ∧ G1' D = some (.lst (cs.map V.int)) ∧ But p G0 G1' ∧ Pen L G1' p (B0 + 3 * i)) →
        tCall spNum [] E0 (tCons (tVar 0) tNil) ((wipe σ [10]).set 10 (some v)) G1' fun y H4 => ∃ acc, H4 D = some (.lst acc) ∧ acc.length < sizeLine ∧ (∃ cs : List Int, cs.length = i + 1 ∧ AllN cs ∧ upd H4 D (.lst (acc ++ [y])) D = some (.lst (cs.map V.int)) ∧ But p G0 (upd H4 D (.lst (acc ++ [y]))) ∧ Pen L (upd H4 D (.lst (acc ++ [y]))) p (B0 + 3 * (i + 1 : Nat))) := by
      intro D G0 B0 σ i Ga Gb v hB0 hσ hw pn0 nD hi h
      obtain ⟨cs, e1, e2, e3, e4, e5⟩ := h
      refine ⟨.ref p, ?_, p, L, _, rfl, by omega, e5, fun d H4 nd t4 p4 => ?_⟩
      · rw [List.getElem?_set_ne (by decide)]; exact hw
      refine ⟨_, t4 _ _ (pn0.ne nD) e3, ?_, cs ++ [d], by rw [List.length_append, e1]; rfl, fun z hz => ?_, ?_, ?_, ?_⟩
      · rw [List.length_map, e1]
        exact Nat.lt_of_lt_of_le (show i < 1000 by omega) (by decide)
      · rcases List.mem_append.mp hz with m | m
        · exact e2 z m
        · obtain rfl := List.mem_singleton.mp m
          exact nd
      · rw [List.map_append]
        exact upd_same
      · exact fun b o nb e => by rw [upd_ne (ne_of_none e nD)]; exact t4 b o nb (e4 b o nb e)
      · obtain ⟨ns, tn, ca, h1, h2, r⟩ := p4.mono (B' := B0 + 3 * (i + 1 : Nat)) (by omega)
        obtain ⟨_, _, _, q1, q2, _⟩ := pn0
        exact ⟨ns, tn, ca, by rw [upd_ne (ne_of_none q1 nD)]; exact h1, by rw [upd_ne (ne_of_none q2 nD)]; exact h2, r⟩
    obtain ⟨tR, hR, qR⟩ : ∃ t : TS, PSs (cxOf CX0 P w K mg base nRight "_law_right" (defScope sRight) f cdv A outer s H E).nox (restRight 4) t ∧ ∀ (D : Ends) (G : Hp) (x a : Addr) (ps : List Int) (far B0 : Int) (v4 v6 v7 v8 v9 v10 : Option V), TestAt C G x ps far → G a = some (.lst (ps.map V.int)) → a ≠ p → ps.length = n → AllN ps → Nn far → B0 ≤ 810000 → Pen L G p B0 →
        (∀ G', But p G G' → Pen L G' p (B0 + 80) → D.rt (.bl true) G') → t D [some (.ref p), some (.int n), some (.ref a), some (.int far), v4, some (.ref x), v6, v7, v8, v9, v10] G := by
      refine ⟨_, pss_cons (ps_if (pt_cmpR op_ne (pe_callB (call_repr gd hu) (by rfl) mr (by decide +kernel) (pa_cons (pe_lst (pa_cons (pe_fld (pv 5) rfl) (pa_cons (pe_fld (pv 5) rfl) (pa_cons (pe_callB (call_lenO (E := E0) hle hlf RL hr2 pass0) (by rfl) T.len PySem.boot_len (pa_cons (pv 5) pa_nil)) pa_nil)))) pa_nil))
          (pe_callB (call_repr gd hu) (by rfl) mr (by decide +kernel) (pa_cons (pe_lst (pa_cons (pe_callTy call_tuple_of (by rfl) T.tuple (by decide +kernel) (pa_cons (pv 2) pa_nil)) (pa_cons (pv 3) (pa_cons (pv 1) pa_nil)))) pa_nil)) (nomark _)) (pss_one (ps_ret pe_bl)) pss_nil)
        (pss_cons (ps_for PassesOwn.never rfl (pi_range1 rfl T.range (pa_cons pe_int pa_nil)) (pg_name (i := 6) scRight.nd rfl (.inl rfl))
          (pss_cons (ps_setLc (i := 7) (own := [("_law_k", 10)]) (g := gName 10) (tt := tYes) (te := tCall spNum [] E0 (tCons (tVar 0) tNil)) (by rfl) scRight.nd rfl rfl (sw_true rfl rfl rfl (by decide +kernel)) (pi_range1 rfl T.range (pa_cons (pv 1) pa_nil)) (blkOk_by (own := [("_law_k", 10)]) (N := nRight) (sc := defScope sRight) (by decide +kernel))
              (fun _ _ _ _ _ => pg_name (i := 10) scRight.nd rfl (.inl rfl)) (fun _ _ _ _ _ => pts_nil) (fun _ _ _ _ _ => pe_call G2 hr3 (by rfl) g2 k2 b2 .nil pass0 (pa_cons (pv 0) pa_nil)))
          (pss_cons (ps_set (i := 8) scRight.nd rfl (.inl rfl) (pe_call G3 hr1 (by rfl) g3 k3 b3 .nil pass0 (pa_cons (pv 2) (pa_cons (pv 7) pa_nil))))
          (pss_one (ps_for PassesOwn.never rfl (pi_list (pe_lst (pa_cons (pv 3) (pa_cons (pv 8) (pa_cons (pe_op op_add (pv 8) pe_int) (pa_cons (pe_op op_sub (pv 8) pe_int) pa_nil)))))) (pg_name (i := 9) scRight.nd rfl (.inl rfl))
            (pss_one (ps_if (pt_not (pt_val (pe_callG (E := E0) G8 hr gd (by rfl) g8 k8 b8 (pa_cons (pv 2) (pa_cons (pv 9) (pa_cons (pv 7) pa_nil)))))) (pss_one (ps_ret pe_bl)) pss_nil)))))))
        (pss_one (ps_ret (pe_and (pe_call G4 hr (by rfl) g4 k4 b4 .nil pass0 (pa_cons (pv 0) (pa_cons (pv 2) (pa_cons (pv 3) pa_nil)))) (pe_one (pe_cmpR (op_eqD hu) (pe_fld (pv 5) rfl) (pe_callTy call_tuple_of (by rfl) T.tuple (by decide +kernel) (pa_cons (pv 2) pa_nil)) (nomark _))))))), ?_⟩
      intro D G x a ps far B0 v4 v6 v7 v8 v9 v10 tt ga ap ln an nf hB0 pn0 fin
      obtain ⟨dx, t, hx, ht⟩ := id tt
      obtain ⟨w1, w2, w3, w4⟩ := row_show (n := n) an nf (by omega) n5
      have lb : (0 : Int) ≤ (ps.length : Int) ∧ (ps.length : Int) < 2 ^ 63 := ⟨by omega, Int.lt_of_le_of_lt (show (ps.length : Int) ≤ 5 by omega) (by decide)⟩
      refine ⟨_, rfl, x, C, dx, _, _, rfl, hx, TC.cl, TC.n1, test_parts t far, _, rfl, x, C, dx, _, _, rfl, hx, TC.cl, TC.n2, test_bound t far, _, rfl, x, dx, _, rfl, hx, x, ps, far, rfl, tt, by omega, _, rfl, lb, (by show 3 ≤ sizeLine; decide), fun l nl => ?_⟩
      rw [ln]
      have s1 := same_new (o := .lst [.ref t, .int far, .int n]) nl
      have hl : upd G l (.lst [.ref t, .int far, .int n]) l = some (.lst [.ref t, .int far, .int n]) := upd_same
      generalize upd G l (.lst [.ref t, .int far, .int n]) = A1 at s1 hl ⊢
      refine ⟨l, rowD ps far n, rfl, .lst (SqL.of hl) (.cons (.tup (SqT.of (s1 _ _ ht)) (dpInts ps)) (.cons (.int _) (.cons (.int _) .nil))), w1, w2, w3, w4, ?_⟩
      refine ⟨_, rfl, a, _, rfl, .inl ⟨SqL.of (s1 _ _ ga), fun t2 nt2 => ⟨_, rfl, _, rfl, (by show 3 ≤ sizeLine; decide), fun l2 nl2 => ?_⟩⟩⟩
      have ht2 := same_new (o := .lst [.ref t2, .int far, .int n]) nl2 _ _ (show upd A1 t2 (.tup (ps.map V.int)) t2 = some (.tup (ps.map V.int)) from upd_same)
      have s2 := s1.trans ((same_new (o := .tup (ps.map V.int)) nt2).trans (same_new (o := .lst [.ref t2, .int far, .int n]) nl2))
      have hl2 : upd (upd A1 t2 (.tup (ps.map V.int))) l2 (.lst [.ref t2, .int far, .int n]) l2 = some (.lst [.ref t2, .int far, .int n]) := upd_same
      generalize upd (upd A1 t2 (.tup (ps.map V.int))) l2 (.lst [.ref t2, .int far, .int n]) = A2 at ht2 s2 hl2 ⊢
      refine ⟨l2, rowD ps far n, rfl, .lst (SqL.of hl2) (.cons (.tup (SqT.of ht2) (dpInts ps)) (.cons (.int _) (.cons (.int _) .nil))), w1, w2, w3, w4, rfl, _, rfl, ite2 (fun e => absurd e (by simp)) (fun _ => ?_)⟩
      have tt2 := tt.keep s2
      have ga2 := s2 _ _ ga
      have pn2 := pn0.keep s2
      have bG : But p G A2 := Same.but s2
      clear hl2 ht2 s2 hl s1 nl nl2 nt2 tt ga pn0 hx ht
      obtain ⟨px, hpx⟩ := pn2.some
      refine ⟨3, rfl, by decide, by decide, for_range (n := 3) (fun i σ H2 => (∃ v6 v7 v8 v9 v10 : Option V, σ = [some (.ref p), some (.int n), some (.ref a), some (.int far), v4, some (.ref x), v6, v7, v8, v9, v10]) ∧ But p A2 H2 ∧ Pen L H2 p (B0 + 20 * (i : Int)))
        ⟨⟨_, _, _, _, _, rfl⟩, But.refl _ _, pn2.mono (by omega)⟩ ?_ ?_⟩
      · rintro i σ H2 hi ⟨⟨v6, v7, v8, v9, v10, rfl⟩, b2', pn3⟩
        have ga3 := b2' _ _ ap ga2
        refine ⟨_, rfl, n, rfl, by omega, by omega, fun D nD => ?_⟩
        rw [Int.toNat_natCast]
        refine lc_it (n := n) walk_range (fun i' H' => ∃ cs : List Int, cs.length = i' ∧ AllN cs ∧ H' D = some (.lst (cs.map V.int)) ∧ But p H2 H' ∧ Pen L H' p (B0 + 20 * (i : Int) + 3 * i')) ⟨[], rfl, fun z m => (nomatch m), upd_same, Same.but (same_new nD), (pn3.new nD).mono (by omega)⟩ (fun _ _ _ _ => trivial) (fun i' v H3 H' hi' h y => ?_) (fun H' h => ?_)
        · obtain ⟨rfl, rfl⟩ := y
          exact ⟨rfl, turn D H2 _ _ i' H' H' _ (by omega) rfl rfl pn3 nD hi' h⟩
        · obtain ⟨cs, e1, e2, e3, e4, e5⟩ := h
          have ga4 := e4 _ _ ap ga3
          refine ⟨_, rfl, _, rfl, a, D, ps, cs, rfl, ga4, e3, by omega, by omega, an.sm, e2.sm, ?_⟩
          refine ⟨_, rfl, _, rfl, _, rfl, _, _, rfl, rfl, _, rfl, _, _, rfl, rfl, (by show 4 ≤ sizeLine; decide), fun l3 nl3 => ⟨l3, rfl, ⟨_, SqL.of upd_same⟩, ?_⟩⟩
          have s5 := same_new (o := .lst [.int far, .int (sumI ps cs), .int (sumI ps cs + 1), .int (sumI ps cs - 1)]) nl3
          have hl3 : upd H' l3 (.lst [.int far, .int (sumI ps cs), .int (sumI ps cs + 1), .int (sumI ps cs - 1)]) l3 = some (.lst [.int far, .int (sumI ps cs), .int (sumI ps cs + 1), .int (sumI ps cs - 1)]) := upd_same
          refine for_it (n := 4) (walk_list (K := K) (a := l3) (xs := [.int far, .int (sumI ps cs), .int (sumI ps cs + 1), .int (sumI ps cs - 1)]))
            (fun _ σ G' => (∃ v9 : Option V, σ = [some (.ref p), some (.int n), some (.ref a), some (.int far), v4, some (.ref x), some (.int (0 + (i : Nat))), some (.ref D), some (.int (sumI ps cs)), v9, v10]) ∧ Same (upd H' l3 (.lst [.int far, .int (sumI ps cs), .int (sumI ps cs + 1), .int (sumI ps cs - 1)])) G')
            ⟨⟨_, rfl⟩, Same.refl _⟩ (fun _ σ G' _ h => SqL.of (h.2 _ _ hl3)) ?_ ?_
          · rintro i2 y σ Ga Gb hi2 ⟨⟨v9', rfl⟩, sg⟩ ⟨rfl, hy⟩
            obtain ⟨e, rfl⟩ : ∃ e : Int, y = .int e := by
              have m := List.mem_of_getElem? hy
              simp only [List.mem_cons, List.not_mem_nil, or_false] at m
              rcases m with rfl | rfl | rfl | rfl <;> exact ⟨_, rfl⟩
            have sg' := s5.trans sg
            exact ⟨_, rfl, _, rfl, _, rfl, a, D, ps, cs, e, rfl, sg' _ _ ga4, sg' _ _ e3, by omega, by omega, by omega, an, e2, fun H'' s'' => ⟨true, rfl, iteF ⟨⟨_, rfl⟩, sg.trans s''⟩⟩⟩
          · rintro σ Ga ⟨⟨v9', rfl⟩, sg⟩
            have sg' := s5.trans sg
            exact ⟨⟨_, _, _, _, _, rfl⟩, b2'.trans (e4.trans (Same.but sg')), (e5.keep sg').mono (by omega)⟩
      · rintro σ H2 ⟨⟨v6, v7, v8, v9, v10, rfl⟩, b2', pn3⟩
        have ga3 := b2' _ _ ap ga2
        have tt3 := tt2.but hpx b2'
        refine ⟨_, rfl, _, rfl, _, rfl, p, L, a, ps, far, _, rfl, by omega, pn3, ga3, ap, by omega, by omega, an, nf, fun H3 t3 p3 => ⟨true, rfl, iteT ?_⟩⟩
        obtain ⟨py, hpy⟩ := pn3.some
        obtain ⟨dx', t', hx', ht'⟩ := tt3.but hpy t3
        refine ⟨_, rfl, x, C, dx', _, _, rfl, hx', TC.cl, TC.n1, test_parts t' far, _, rfl, a, _, rfl, .inl ⟨SqL.of (t3 _ _ ap ga3), fun t4 nt4 => ?_⟩⟩
        refine ⟨_, _, .tup (SqT.of (same_new nt4 _ _ ht')) (dpInts ps), .tup (SqT.of upd_same) (dpInts ps), sh_intsT ps, sh_intsT ps, ?_⟩
        rw [eqv_tupI, decide_eq_true rfl]
        exact fin _ (bG.trans (b2'.trans (t3.trans (Same.but (same_new nt4))))) ((p3.new nt4).mono (by omega))
    refine ⟨_, pss_cons (ps_par (i := 2) (j := 3) rfl scRight.nd rfl rfl (by decide) rfl rfl (pa_cons (pe_lc (own := [("_law_k", 10)]) (g := gName 10) (tt := tYes) (te := tCall spNum [] E0 (tCons (tVar 0) tNil)) (by rfl) scRight.nd (pi_range1 rfl T.range (pa_cons (pv 1) pa_nil)) (blkOk_by (own := [("_law_k", 10)]) (N := nRight) (sc := defScope sRight) (by decide +kernel))
              (fun _ _ _ _ _ => pg_name (i := 10) scRight.nd rfl (.inl rfl)) (fun _ _ _ _ _ => pts_nil) (fun _ _ _ _ _ => pe_call G2 hr3 (by rfl) g2 k2 b2 .nil pass0 (pa_cons (pv 0) pa_nil))) (pa_cons (pe_call G2 hr3 (by rfl) g2 k2 b2 .nil pass0 (pa_cons (pv 0) pa_nil)) pa_nil)) (by rfl))
      (pss_cons (ps_set (i := 4) scRight.nd rfl (.inl rfl) (pe_ifExp (pt_cmpR op_eq (pe_call G1 hr1 (by rfl) g1 k1 b1 .nil pass0 (pa_cons (pv 0) (pa_cons pe_int pa_nil))) pe_int (nomark _)) (pe_callTy call_list_of (by rfl) T.list (by decide +kernel) (pa_cons (pv 2) pa_nil)) (pe_callTy call_tuple_of (by rfl) T.tuple (by decide +kernel) (pa_cons (pv 2) pa_nil))))
      (pss_cons (ps_set (i := 5) scRight.nd rfl (.inl rfl) (pe_make MM GM hr5 (by rfl) gC bM .nil pass0 (pa_cons (pv 4) (pa_cons (pv 3) pa_nil))))
      (pss_cons (ps_if (pt_val (pe_callB call_isi (by rfl) T.isi (by decide +kernel) (pa_cons (pv 4) (pa_cons (pe_bltn (v := .ty "list") (by rfl) T.list (by decide +kernel) rfl) pa_nil)))) (pss_cons (ps_expr (pe_bm PySem.F.plainAttrs_list PySem.F.slot_list_append PySem.F.type_list_append mt_append (pv 4) (pa_cons pe_int pa_nil))) (pss_one (ps_asg pe_int (pg_sub (pv 4) pe_int set_list)))) pss_nil) hR))), ?_⟩
    refine ⟨_, rfl, n, rfl, by omega, by omega, fun D nD => ?_⟩
    rw [Int.toNat_natCast]
    refine lc_it (n := n) walk_range (fun i' H' => ∃ cs : List Int, cs.length = i' ∧ AllN cs ∧ H' D = some (.lst (cs.map V.int)) ∧ But p H H' ∧ Pen L H' p (B + 3 * i')) ⟨[], rfl, fun z m => (nomatch m), upd_same, Same.but (same_new nD), (pn.new nD).mono (by omega)⟩ (fun _ _ _ _ => trivial) (fun i' v H3 H' hi' h y => ?_) (fun H1 h => ?_)
    · obtain ⟨rfl, rfl⟩ := y
      exact ⟨rfl, turn D H B _ i' H' H' _ (by omega) rfl rfl pn nD hi' h⟩
    obtain ⟨ps, ln, an, hD, t1, p1⟩ := h
    have Dp' := pn.ne nD
    clear turn
    refine ⟨_, rfl, p, L, _, rfl, by omega, p1, fun far H2 nf t2 p2 => ⟨_, _, rfl, ?_⟩⟩
    have hD2 := t2 _ _ Dp' hD
    refine ⟨_, rfl, p, L, _, _, rfl, by decide, by decide, by omega, p2, fun d H3 t3 p3 lo hi => ⟨rfl, _, rfl, ite2 (fun _ => ?_) (fun _ => ?_)⟩⟩
    · have hD3 := t3 _ _ Dp' hD2
      refine ⟨_, rfl, D, _, rfl, .inl (SqL.of hD3), fun g ng => ?_⟩
      have Dg : D ≠ g := ne_of_none hD3 ng
      have s4 := same_new (o := .lst (ps.map V.int)) ng
      refine ⟨_, rfl, _, rfl, mk_of (.inl upd_same) (by omega) (by omega) fun x H5 nx e5 tt => ?_⟩
      have hg5 := e5 _ _ (show upd H3 g (.lst (ps.map V.int)) g = some (.lst (ps.map V.int)) from upd_same)
      have hD5 := e5 _ _ (s4 _ _ hD3)
      have p5 := (p3.keep s4).keep e5
      refine ⟨_, rfl, _, _, _, _, true, rfl, .ty _, .base (.lst hg5), kit_ty (by decide +kernel), _, rfl, iteT ?_⟩
      refine ⟨_, rfl, .inl ⟨rfl, _, SqL.of hg5⟩, g, _, _, rfl, rfl, hg5, ?_, ?_⟩
      · rw [List.length_map]
        exact Nat.lt_of_le_of_lt (show ps.length ≤ 5 by omega) (by decide)
      refine ⟨_, rfl, g, _, _, 0, rfl, rfl, upd_same, ?_, ?_⟩
      · unfold ixN
        rw [if_pos (by decide), if_pos (by rw [List.length_append, List.length_map]; show (0 : Int) < ((ps.length + 1 : Nat) : Int); omega)]
        rfl
      have bt : But g H5 (upd (upd H5 g (.lst (ps.map V.int ++ [V.int 7]))) g (.lst ((ps.map V.int ++ [V.int 7]).set 0 (V.int 5)))) := But.upd_at.trans But.upd_at
      exact qR _ _ x D ps far (B + 20) _ _ _ _ _ _ (tt.but hg5 bt) (bt _ _ Dg hD5) Dp' ln an nf (by omega) (((p5.upd p3 ng).upd p3 ng).mono (by omega)) (fun G' bg pg => kk G' (fun c o nc e => bg c o nc (bt _ _ (ne_of_none (t3 _ _ nc (t2 _ _ nc (t1 c o nc e))) ng) (e5 _ _ (s4 _ _ (t3 _ _ nc (t2 _ _ nc (t1 c o nc e))))))) (pg.mono (by omega)))
    · have hD3 := t3 _ _ Dp' hD2
      refine ⟨_, rfl, D, _, rfl, .inl ⟨SqL.of hD3, fun g ng => ?_⟩⟩
      have s4 := same_new (o := .tup (ps.map V.int)) ng
      refine ⟨_, rfl, _, rfl, mk_of (.inr upd_same) (by omega) (by omega) fun x H5 nx e5 tt => ?_⟩
      have hg5 := e5 _ _ (show upd H3 g (.tup (ps.map V.int)) g = some (.tup (ps.map V.int)) from upd_same)
      have hD5 := e5 _ _ (s4 _ _ hD3)
      have p5 := (p3.keep s4).keep e5
      refine ⟨_, rfl, _, _, _, _, false, rfl, .ty _, .base (.tup hg5), kit_ty (by decide +kernel), _, rfl, iteF ?_⟩
      exact qR _ _ x D ps far (B + 20) _ _ _ _ _ _ tt hD5 Dp' ln an nf (by omega) (p5.mono (by omega)) (fun G' bg pg => kk G' (fun c o nc e => bg c o nc (e5 _ _ (s4 _ _ (t3 _ _ nc (t2 _ _ nc (t1 c o nc e)))))) (pg.mono (by omega)))
end
end Ev
namespace Ev
open PySem L2 PySem.Spec PyProof.Rows
def spPen (K : PySem.W.Frag) : Sp := fun vs H Q _ => ∃ (a : Addr) (ns : List Int), vs = [.ref a] ∧ SqL K H a (ns.map V.int) ∧ ns.length ≤ 63 ∧
  ∀ (p L : Addr) (H' : Hp), H p = none → Same H H' → Pen L H' p 0 → Q (.ref p) H'
theorem cut_ints (ns : List Int) (h : Int) : ∃ ms : List Int, cutV (ns.map V.int) none (some h) = ms.map V.int ∧ ms.length ≤ ns.length := by
  unfold cutV
  generalize HT.sIx (ns.map V.int).length 0 none = x
  generalize HT.sIx (ns.map V.int).length (ns.map V.int).length (some h) - x = y
  refine ⟨(ns.drop x).take y, ?_, ?_⟩
  · rw [List.map_take, List.map_drop]
  · rw [List.length_take, List.length_drop]; omega
def spLaw (K : PySem.W.Frag) : Sp := fun vs H Q _ => ∃ (a : Addr) (ns : List Int), vs = [.ref a] ∧ SqL K H a (ns.map V.int) ∧ ns.length ≤ 63 ∧ ∀ H', Q (.bl true) H'
abbrev nLaw : List Str := ["_law_script", "_law_pen_here", "_law_many", "_law_none", "_law_lone", "_law_less_so"]
theorem scLaw : FnScope nLaw ["_law_script"] (defScope sLaw) := ⟨rfl, rfl, rfl, by decide +kernel, rfl, by decide +kernel, by decide +kernel⟩
section
variable {P : Program} {w : World} {K : PySem.W.Frag} {mg : Str → Option Value} {base : Heap}
theorem scPen : FnScope ["_law_script"] ["_law_script"] (defScope sPen) := ⟨rfl, rfl, rfl, by decide +kernel, rfl, by decide +kernel, by decide +kernel⟩
theorem ok_pen {f : Addr} {fd : FuncData} (F : Fun K "_law_pen" "_law_pen" sPen f fd) (T : Blt mg) : FnOk P w K mg base CX0 1 f fd ["_law_script"] (spPen K) := by
  refine F.ok scPen (fun vs H Q E h => ?_) (fun cdv A outer s H vs Q E hr h => ?_)
  · obtain ⟨a, ns, rfl, _⟩ := h
    rfl
  · obtain ⟨a, ns, rfl, hS, hlen, kk⟩ := h
    refine ⟨_, pss_one (ps_ret (pe_lst (pa_cons (pe_callTy call_list_of (by rfl) T.list (by decide +kernel) (pa_cons (pe_slice sl_list (pv 0) po_none (po_some pe_int)) pa_nil)) (pa_cons pe_int (pa_cons pe_int pa_nil))))), ?_⟩
    refine ⟨_, rfl, _, rfl, a, _, rfl, hS, fun l1 nl1 => ⟨l1, _, rfl, .inl (SqL.of upd_same), fun l2 nl2 => ⟨(by show 3 ≤ sizeLine; decide), fun p np => ?_⟩⟩⟩
    obtain ⟨ms, e1, e2⟩ := cut_ints ns 63
    rw [e1] at nl2 np ⊢
    have s1 : Same H (upd (upd H l1 (.lst (ms.map V.int))) l2 (.lst (ms.map V.int))) := (same_new nl1).trans (same_new nl2)
    have s2 := s1.trans (same_new (o := .lst [.ref l2, .int 0, .int 0]) np)
    refine kk p l2 _ ?_ s2 ⟨ms, 0, 0, upd_same, by rw [upd_ne (ne_of_none upd_same np)]; exact upd_same, ne_of_none upd_same np, by omega, by decide, by decide, by decide⟩
    cases z : H p with
    | none => rfl
    | some o => rw [s1 _ _ z] at np; cases np
theorem ok_law {f C f8 : Addr} {fd fd8 : FuncData} (F : Fun K "law" "law" sLaw f fd) (T : Blt mg) (TM : TMeth P w K mg base C) (D1 : Df P w K mg base 1 "_law_pen" ["_law_script"] (spPen K)) (D2 : Df P w K mg base 1 "_law_draw" ["_law_pen_here", "_law_top_so"] spDraw)
    (G8 : FnG P w K mg base 7 f8 fd8 ["_law_pen_here", "_law_many"] spRight) (g8 : mg "_law_right" = some (.ref f8)) (k8 : PySem.W.keepIn K (.ref f8) = true) (b8 : Binds K fd8 ["_law_pen_here", "_law_many"] []) : FnG P w K mg base 8 f fd ["_law_script"] (spLaw K) := by
  obtain ⟨f1, fd1, G1, g1, k1, b1⟩ := D1.ex
  obtain ⟨f2, fd2, G2, g2, k2, b2⟩ := D2.ex
  obtain ⟨TC, IT, gC, ⟨fm, fdm, MM, GM, bM, bMk⟩, _, ⟨fc, fdc, GC, bC, cC, bCk⟩, ⟨fe, fde, GE, bE, heq, hef⟩, hne, _⟩ := id TM
  have RE := fnr_of GE bE
  have RC := fnr_of GC bC
  refine fng_of F scLaw (fun vs H Q E h => ?_) (fun cdv A outer s H vs Q E hr gd h => ?_)
  · obtain ⟨a, ns, rfl, _⟩ := h
    rfl
  · obtain ⟨a, ns, rfl, hS, hlen, kk⟩ := h
    have hr1 : Room 1 _ := hr.mono (by decide)
    have hr4 : Room 4 _ := hr.mono (by decide)
    have hr5 : Room 5 _ := hr.mono (by decide)
    refine ⟨_, pss_cons (ps_set (i := 1) scLaw.nd rfl (.inl rfl) (pe_call G1 hr1 (by rfl) g1 k1 b1 .nil pass0 (pa_cons (pv 0) pa_nil)))
      (pss_cons (ps_for PassesOwn.never rfl (pi_list (pe_lst (pa_cons pe_int (pa_cons pe_int (pa_cons pe_int (pa_cons pe_int (pa_cons pe_int (pa_cons (pe_op op_add pe_int (pe_call G2 hr1 (by rfl) g2 k2 b2 .nil pass0 (pa_cons (pv 1) (pa_cons pe_int pa_nil)))) pa_nil)))))))) (pg_name (i := 2) scLaw.nd rfl (.inl rfl))
        (pss_one (ps_if (pt_not (pt_val (pe_callG (E := E0) G8 hr gd (by rfl) g8 k8 b8 (pa_cons (pv 1) (pa_cons (pv 2) pa_nil))))) (pss_one (ps_ret pe_bl)) pss_nil)))
      (pss_cons (ps_par3 (i := 3) (j := 4) (l := 5) rfl scLaw.nd rfl rfl rfl (by decide) (by decide) (by decide) rfl rfl rfl (pa_cons (pe_make MM GM hr5 (by rfl) gC bM .nil pass0 (pa_cons (pe_tup (pa_cons pe_int (pa_cons pe_int pa_nil))) (pa_cons pe_int pa_nil))) (pa_cons (pe_make MM GM hr5 (by rfl) gC bM .nil pass0 (pa_cons (pe_lst (pa_cons pe_int pa_nil)) (pa_cons pe_int pa_nil)))
        (pa_cons (pe_make MM GM hr5 (by rfl) gC bM .nil pass0 (pa_cons (pe_tup (pa_cons pe_int pa_nil)) (pa_cons (pe_un un_neg pe_int) pa_nil))) pa_nil))) (by rfl))
      (pss_one (ps_ret (pe_and (pe_cmpR (op_eqD (Room.units hr)) (pe_lst (pa_cons (pe_callI (pv 3) cC RC hr4 (E := E0) pass0 (pa_cons (pe_tup (pa_cons pe_int (pa_cons (pe_un un_neg pe_int) pa_nil))) pa_nil)) (pa_cons (pe_callI (pv 4) cC RC hr4 (E := E0) pass0 (pa_cons (pe_lst (pa_cons pe_int pa_nil)) pa_nil)) (pa_cons (pe_callI (pv 5) cC RC hr4 (E := E0) pass0 (pa_cons (pe_tup (pa_cons pe_int pa_nil)) pa_nil)) pa_nil)))) (pe_lst (pa_cons pe_bl (pa_cons pe_bl (pa_cons pe_bl pa_nil)))) (nomark _))
        (pe_one (pe_cmpR (op_eqO (E := E0) heq hef RE hr1 pass0) (pv 3) (pe_make MM GM hr5 (by rfl) gC bM .nil pass0 (pa_cons (pe_lst (pa_cons pe_int (pa_cons pe_int pa_nil))) (pa_cons pe_int pa_nil))) (nomark _)))))))), ?_⟩
    refine ⟨_, rfl, a, ns, rfl, hS, hlen, fun p L H1 np s1 pn0 => ?_⟩
    refine ⟨_, rfl, p, L, _, _, rfl, by decide, by decide, by decide, pn0, fun d H2 t2 p2 d0 d1 => ⟨_, _, rfl, rfl, (by show 6 ≤ sizeLine; decide), fun l nl => ⟨l, rfl, ⟨_, SqL.of upd_same⟩, ?_⟩⟩⟩
    have lp := p2.ne nl
    refine for_it (n := 6) (walk_list (K := K) (a := l) (xs := [.int 1, .int 2, .int 3, .int 4, .int 5, .int (1 + d)]))
      (fun i σ H' => (∃ v2 : Option V, σ = [some (.ref a), some (.ref p), v2, none, none, none]) ∧ Pen L H' p (1 + 100 * (i : Int)) ∧ H' l = some (.lst [.int 1, .int 2, .int 3, .int 4, .int 5, .int (1 + d)]))
      ⟨⟨none, rfl⟩, (p2.new nl).mono (by decide), upd_same⟩ (fun _ σ H' _ h => SqL.of h.2.2) ?_ ?_
    · rintro i y σ Ga Gb hi ⟨⟨v2, rfl⟩, pn, hl⟩ ⟨rfl, hy⟩
      obtain ⟨m, rfl, m1, m5⟩ : ∃ m : Nat, y = .int (m : Int) ∧ 1 ≤ m ∧ m ≤ 5 := by
        have q := List.mem_of_getElem? hy
        obtain ⟨k, rfl⟩ := Int.eq_ofNat_of_zero_le d0
        simp only [List.mem_cons, List.not_mem_nil, or_false] at q
        rcases q with rfl | rfl | rfl | rfl | rfl | rfl
        · exact ⟨1, rfl, by decide, by decide⟩
        · exact ⟨2, rfl, by decide, by decide⟩
        · exact ⟨3, rfl, by decide, by decide⟩
        · exact ⟨4, rfl, by decide, by decide⟩
        · exact ⟨5, rfl, by decide, by decide⟩
        · exact ⟨1 + k, by rw [show ((1 + k : Nat) : Int) = 1 + (k : Int) by omega], by omega, by omega⟩
      exact ⟨_, rfl, _, rfl, p, L, m, _, rfl, m1, m5, by omega, pn, fun H'' bt pn' => ⟨true, rfl, iteF ⟨⟨_, rfl⟩, pn'.mono (by omega), bt _ _ lp hl⟩⟩⟩
    · rintro σ Ga ⟨⟨v2, rfl⟩, pn, hl⟩
      refine ⟨(by show 2 ≤ sizeLine; decide), fun t1 nt1 => mk_of (ns := [0, 0]) (.inr upd_same) (by decide) (by decide) fun x1 H3 _ e3 u1 => ?_⟩
      refine ⟨(by show 1 ≤ sizeLine; decide), fun t2' nt2 => mk_of (ns := [0]) (.inl upd_same) (by decide) (by decide) fun x2 H4 _ e4 u2 => ?_⟩
      refine ⟨(by show 1 ≤ sizeLine; decide), fun t3 nt3 => ⟨_, rfl, mk_of (ns := [0]) (.inr upd_same) (by decide) (by decide) fun x3 H5 _ e5 u3 => ⟨_, _, _, rfl, ?_⟩⟩⟩
      have q4 := (same_new (o := .lst [.int 0]) nt2).trans e4
      have q5 := (same_new (o := .tup [.int 0]) nt3).trans e5
      have v1 := u1.keep (q4.trans q5)
      have v2' := u2.keep q5
      clear q4 q5 u1 u2 e3 e4 e5
      have sm : ∀ {r : List Int}, (∀ z ∈ r, z.natAbs ≤ 9) → AllSm r := fun h z m => Nat.lt_of_le_of_lt (h z m) (by decide)
      obtain ⟨d1', b1', hx1, _⟩ := id v1
      refine ⟨_, rfl, x1, rfl, _, rfl, (by show 2 ≤ sizeLine; decide), fun t4 nt4 => ?_⟩
      have s4 := same_new (o := .tup [.int 5, .int (-7)]) nt4
      refine ⟨.inr ⟨d1', _, s4 _ _ hx1⟩, x1, t4, [0, 0], [5, -7], 0, rfl, v1.keep s4, .inr upd_same, rfl, by decide, sm (by decide), sm (by decide), fun H6 s6 => ?_⟩
      have s6' := s4.trans s6
      obtain ⟨d2', b2', hx2, _⟩ := v2'.keep s6'
      refine ⟨_, rfl, x2, rfl, (by show 1 ≤ sizeLine; decide), fun t5 nt5 => ?_⟩
      have s7 := same_new (o := .lst [.int 9]) nt5
      refine ⟨.inr ⟨d2', _, s7 _ _ hx2⟩, x2, t5, [0], [9], 1, rfl, (v2'.keep s6').keep s7, .inl upd_same, rfl, by decide, sm (by decide), sm (by decide), fun H7 s8 => ?_⟩
      have s8' := s6'.trans (s7.trans s8)
      obtain ⟨d3', b3', hx3, _⟩ := u3.keep s8'
      refine ⟨_, rfl, x3, rfl, (by show 1 ≤ sizeLine; decide), fun t6 nt6 => ?_⟩
      have s9 := same_new (o := .tup [.int 3]) nt6
      refine ⟨.inr ⟨d3', _, s9 _ _ hx3⟩, x3, t6, [0], [3], -1, rfl, (u3.keep s8').keep s9, .inr upd_same, rfl, by decide, sm (by decide), sm (by decide), fun H8 s10 => ⟨(by show 3 ≤ sizeLine; decide), fun l2 nl2 => ?_⟩⟩
      have c1 : decide ((0 : Int) ≤ sumI [0, 0] [5, -7]) = true := by decide
      have c2 : decide ((1 : Int) ≤ sumI [0] [9]) = false := by decide
      have c3 : decide ((-1 : Int) ≤ sumI [0] [3]) = true := by decide
      rw [c1, c2, c3]
      have s11 := (s8'.trans (s9.trans s10)).trans (same_new (o := .lst [.bl true, .bl false, .bl true]) nl2)
      have hl2 : upd H8 l2 (.lst [.bl true, .bl false, .bl true]) l2 = some (.lst [.bl true, .bl false, .bl true]) := upd_same
      generalize upd H8 l2 (.lst [.bl true, .bl false, .bl true]) = H9 at s11 hl2 ⊢
      have dd : ∀ {G : Hp} {b : Addr}, G b = some (.lst [.bl true, .bl false, .bl true]) → Dp K G (.ref b) (.list [.bool true, .bool false, .bool true]) := fun e => .lst (SqL.of e) (.cons (.bl _) (.cons (.bl _) (.cons (.bl _) .nil)))
      refine ⟨(by show 3 ≤ sizeLine; decide), fun l3 nl3 => ⟨_, _, dd (same_new nl3 _ _ hl2), dd upd_same, by decide +kernel, by decide +kernel, _, rfl, ?_⟩⟩
      rw [show PyData.eqv (.list [.bool true, .bool false, .bool true]) (.list [.bool true, .bool false, .bool true]) = true by decide +kernel]
      have s12 := s11.trans (same_new (o := .lst [.bl true, .bl false, .bl true]) nl3)
      refine iteT ⟨_, rfl, (by show 2 ≤ sizeLine; decide), fun t7 nt7 => mk_of (ns := [0, 0]) (.inl upd_same) (by decide) (by decide) fun x4 Ha _ ea u4 => ?_⟩
      refine own_test TC IT (v1.keep (s12.trans ((same_new nt7).trans ea))) u4 ?_
      rw [eqT_self]
      exact kk _
end
end Ev
namespace Ev
open PySem L2 PySem.Spec PyProof.Rows
theorem kb_gP {K : PySem.W.Frag} {x qual y : Str} {st : Stmt} {f : Addr} {fd : FuncData} (F : Fun K x qual st f fd)
    (h : ∀ (kV doc pm : Value) (an : Option Addr) (cdv ct a b : Value), bindArgs (PySem.W.fnOf x qual (defArgs st) (defBody st) (defScope st) .none kV doc pm an cdv ct) ⟨[a], [(y, b)]⟩ = pure [(("self" : Str), a), (y, b)]) : KBinds K fd ["self", y] [y] gP gP := by
  obtain ⟨oc, od, kV, doc, pm, an, cdv, ct, osl, rfl, lk, hcd⟩ := F.ex
  refine ⟨fun s us ws _ hl => ?_, gP_rel⟩
  obtain ⟨a, b, rfl, rfl⟩ := gP_len hl
  exact .of_eq (h _ _ _ _ _ _ _ _)
theorem kb_init {K : PySem.W.Frag} {f : Addr} {fd : FuncData} (F : Fun K "__init__" "Test.__init__" sTInit f fd) : KBn K fd ["self", "parts", "bound"] 1 ["bound", "parts"] gBP gBP := by
  obtain ⟨oc, od, kV, doc, pm, an, cdv, ct, osl, rfl, lk, hcd⟩ := F.ex
  refine ⟨fun s us ws _ h1 h2 => ?_, gBP_rel⟩
  match us, ws, h1, h2 with
  | [a], [b, c], _, _ => exact .of_eq rfl
set_option maxHeartbeats 4000000 in
theorem all_mk {l : PySem.W.OpenLaw} {w : World} {K : PySem.W.Frag} {h : Heap} {mg : Str → Option Value} {f0 f1 f2 f3 f4 f5 f6 f7 f8 f9 f10 f11 f12 C f30 f31 f32 f33 f34 fa : Addr} {od0 an0 od1 an1 od2 an2 od3 an3 od4 an4 od5 an5 od6 an6 od7 an7 od8 an8 od9 an9 od10 an10 od11 an11 od12 an12 od30 an30 od31 an31 od32 an32 od33 an33 od34 an34 : Option Addr} {sl0 sl1 sl2 sl3 sl4 sl5 sl6 sl7 sl8 sl9 sl10 sl11 sl12 sl30 sl31 sl32 sl33 sl34 : Array (Option Value)} {oc0 kV0 dc0 pm0 cd0 ct0 oc1 kV1 dc1 pm1 cd1 ct1 oc2 kV2 dc2 pm2 cd2 ct2 oc3 kV3 dc3 pm3 cd3 ct3 oc4 kV4 dc4 pm4 cd4 ct4 oc5 kV5 dc5 pm5 cd5 ct5 oc6 kV6 dc6 pm6 cd6 ct6 oc7 kV7 dc7 pm7 cd7 ct7 oc8 kV8 dc8 pm8 cd8 ct8 oc9 kV9 dc9 pm9 cd9 ct9 oc10 kV10 dc10 pm10 cd10 ct10 oc11 kV11 dc11 pm11 cd11 ct11 oc12 kV12 dc12 pm12 cd12 ct12 oc30 kV30 dc30 pm30 cd30 ct30 oc31 kV31 dc31 pm31 cd31 ct31 oc32 kV32 dc32 pm32 cd32 ct32 oc33 kV33 dc33 pm33 cd33 ct33 oc34 kV34 dc34 pm34 cd34 ct34 : Value} {tM : Tok} (X : K.In h) (G : h.Ns mainGlobals mg) (hfa : mg "law" = some (.ref fa))
    (a0 : PySem.W.nsIn K mainGlobals "is_integer" = some (some (.ref f0)))
    (l0 : K.lookup f0 = some ⟨oc0, od0, .func (PySem.W.fnOf "is_integer" "is_integer" (defArgs sIsInt) (defBody sIsInt) (defScope sIsInt) .none kV0 dc0 pm0 an0 cd0 ct0), sl0⟩)
    (c0 : PySem.W.codeIn K cd0 "is_integer" = true)
    (k0 : PySem.W.keepIn K (.ref f0) = true)
    (a1 : PySem.W.nsIn K mainGlobals "is_list_of_integers" = some (some (.ref f1)))
    (l1 : K.lookup f1 = some ⟨oc1, od1, .func (PySem.W.fnOf "is_list_of_integers" "is_list_of_integers" (defArgs sIsL) (defBody sIsL) (defScope sIsL) .none kV1 dc1 pm1 an1 cd1 ct1), sl1⟩)
    (c1 : PySem.W.codeIn K cd1 "is_list_of_integers" = true)
    (k1 : PySem.W.keepIn K (.ref f1) = true)
    (a2 : PySem.W.nsIn K mainGlobals "are_parts" = some (some (.ref f2)))
    (l2 : K.lookup f2 = some ⟨oc2, od2, .func (PySem.W.fnOf "are_parts" "are_parts" (defArgs sAreP) (defBody sAreP) (defScope sAreP) .none kV2 dc2 pm2 an2 cd2 ct2), sl2⟩)
    (c2 : PySem.W.codeIn K cd2 "are_parts" = true)
    (k2 : PySem.W.keepIn K (.ref f2) = true)
    (a3 : PySem.W.nsIn K mainGlobals "_law_pen" = some (some (.ref f3)))
    (l3 : K.lookup f3 = some ⟨oc3, od3, .func (PySem.W.fnOf "_law_pen" "_law_pen" (defArgs sPen) (defBody sPen) (defScope sPen) .none kV3 dc3 pm3 an3 cd3 ct3), sl3⟩)
    (c3 : PySem.W.codeIn K cd3 "_law_pen" = true)
    (k3 : PySem.W.keepIn K (.ref f3) = true)
    (a4 : PySem.W.nsIn K mainGlobals "_law_draw" = some (some (.ref f4)))
    (l4 : K.lookup f4 = some ⟨oc4, od4, .func (PySem.W.fnOf "_law_draw" "_law_draw" (defArgs sDraw) (defBody sDraw) (defScope sDraw) .none kV4 dc4 pm4 an4 cd4 ct4), sl4⟩)
    (c4 : PySem.W.codeIn K cd4 "_law_draw" = true)
    (k4 : PySem.W.keepIn K (.ref f4) = true)
    (a5 : PySem.W.nsIn K mainGlobals "_law_pick" = some (some (.ref f5)))
    (l5 : K.lookup f5 = some ⟨oc5, od5, .func (PySem.W.fnOf "_law_pick" "_law_pick" (defArgs sPick) (defBody sPick) (defScope sPick) .none kV5 dc5 pm5 an5 cd5 ct5), sl5⟩)
    (c5 : PySem.W.codeIn K cd5 "_law_pick" = true)
    (k5 : PySem.W.keepIn K (.ref f5) = true)
    (a6 : PySem.W.nsIn K mainGlobals "_law_small" = some (some (.ref f6)))
    (l6 : K.lookup f6 = some ⟨oc6, od6, .func (PySem.W.fnOf "_law_small" "_law_small" (defArgs sSmall) (defBody sSmall) (defScope sSmall) .none kV6 dc6 pm6 an6 cd6 ct6), sl6⟩)
    (c6 : PySem.W.codeIn K cd6 "_law_small" = true)
    (k6 : PySem.W.keepIn K (.ref f6) = true)
    (a7 : PySem.W.nsIn K mainGlobals "_law_number" = some (some (.ref f7)))
    (l7 : K.lookup f7 = some ⟨oc7, od7, .func (PySem.W.fnOf "_law_number" "_law_number" (defArgs sNum) (defBody sNum) (defScope sNum) .none kV7 dc7 pm7 an7 cd7 ct7), sl7⟩)
    (c7 : PySem.W.codeIn K cd7 "_law_number" = true)
    (k7 : PySem.W.keepIn K (.ref f7) = true)
    (a8 : PySem.W.nsIn K mainGlobals "_law_sum" = some (some (.ref f8)))
    (l8 : K.lookup f8 = some ⟨oc8, od8, .func (PySem.W.fnOf "_law_sum" "_law_sum" (defArgs sSum) (defBody sSum) (defScope sSum) .none kV8 dc8 pm8 an8 cd8 ct8), sl8⟩)
    (c8 : PySem.W.codeIn K cd8 "_law_sum" = true)
    (k8 : PySem.W.keepIn K (.ref f8) = true)
    (a9 : PySem.W.nsIn K mainGlobals "_law_holds_right" = some (some (.ref f9)))
    (l9 : K.lookup f9 = some ⟨oc9, od9, .func (PySem.W.fnOf "_law_holds_right" "_law_holds_right" (defArgs sHolds) (defBody sHolds) (defScope sHolds) .none kV9 dc9 pm9 an9 cd9 ct9), sl9⟩)
    (c9 : PySem.W.codeIn K cd9 "_law_holds_right" = true)
    (k9 : PySem.W.keepIn K (.ref f9) = true)
    (a10 : PySem.W.nsIn K mainGlobals "_law_like_right" = some (some (.ref f10)))
    (l10 : K.lookup f10 = some ⟨oc10, od10, .func (PySem.W.fnOf "_law_like_right" "_law_like_right" (defArgs sLike) (defBody sLike) (defScope sLike) .none kV10 dc10 pm10 an10 cd10 ct10), sl10⟩)
    (c10 : PySem.W.codeIn K cd10 "_law_like_right" = true)
    (k10 : PySem.W.keepIn K (.ref f10) = true)
    (a11 : PySem.W.nsIn K mainGlobals "_law_right" = some (some (.ref f11)))
    (l11 : K.lookup f11 = some ⟨oc11, od11, .func (PySem.W.fnOf "_law_right" "_law_right" (defArgs sRight) (defBody sRight) (defScope sRight) .none kV11 dc11 pm11 an11 cd11 ct11), sl11⟩)
    (c11 : PySem.W.codeIn K cd11 "_law_right" = true)
    (k11 : PySem.W.keepIn K (.ref f11) = true)
    (a12 : PySem.W.nsIn K mainGlobals "law" = some (some (.ref f12)))
    (l12 : K.lookup f12 = some ⟨oc12, od12, .func (PySem.W.fnOf "law" "law" (defArgs sLaw) (defBody sLaw) (defScope sLaw) .none kV12 dc12 pm12 an12 cd12 ct12), sl12⟩)
    (c12 : PySem.W.codeIn K cd12 "law" = true)
    (k12 : PySem.W.keepIn K (.ref f12) = true)
    (aC : PySem.W.nsIn K mainGlobals "Test" = some (some (.ref C)))
    (pgC : PySem.W.plainGet K C Str.empty = true)
    (hdC : PySem.W.hasDictIn K C = true)
    (poC : PySem.W.plainOver K C = true)
    (saC : PySem.W.findIn K (.ref C) "__setattr__" = some (some (.builtin "object.__setattr__")))
    (mkC : PySem.W.makesIn K C = true)
    (kcC : PySem.W.keepIn K (.ref C) = true)
    (n0C : PySem.W.findIn K (.ref C) "parts" = some none)
    (n1C : PySem.W.findIn K (.ref C) "bound" = some none)
    (hcC : PySem.W.findIn K (.ref C) "__class__" = some (some (.builtin "object.__class__")))
    (moC : PySem.W.mroIn K C (.type "object") = some true)
    (icC : PySem.W.isClsIn K C = true)
    (ttC : PySem.W.typeIn K (.ref C) = some (.type "type"))
    (neC : PySem.W.findIn K (.ref C) "__ne__" = some (some (.builtin "object.__ne__")))
    (ikn : PySem.W.specialIn K (.builtin "object.__class__") "__get__" = some (some (.builtin "getset_descriptor.__get__")))
    (ikt : PySem.W.takesIn K (.builtin "object.__class__") = some true)
    (m30 : PySem.W.findIn K (.ref C) "__init__" = some (some (.ref f30)))
    (i30 : PySem.W.isFn K (.ref f30) = true)
    (l30 : K.lookup f30 = some ⟨oc30, od30, .func (PySem.W.fnOf "__init__" "Test.__init__" (defArgs sTInit) (defBody sTInit) (defScope sTInit) .none kV30 dc30 pm30 an30 cd30 ct30), sl30⟩)
    (c30 : PySem.W.codeIn K cd30 "Test.__init__" = true)
    (k30 : PySem.W.keepIn K (.ref f30) = true)
    (m31 : PySem.W.findIn K (.ref C) "amount" = some (some (.ref f31)))
    (i31 : PySem.W.isFn K (.ref f31) = true)
    (l31 : K.lookup f31 = some ⟨oc31, od31, .func (PySem.W.fnOf "amount" "Test.amount" (defArgs sAmount) (defBody sAmount) (defScope sAmount) .none kV31 dc31 pm31 an31 cd31 ct31), sl31⟩)
    (c31 : PySem.W.codeIn K cd31 "Test.amount" = true)
    (k31 : PySem.W.keepIn K (.ref f31) = true)
    (m32 : PySem.W.findIn K (.ref C) "__call__" = some (some (.ref f32)))
    (i32 : PySem.W.isFn K (.ref f32) = true)
    (l32 : K.lookup f32 = some ⟨oc32, od32, .func (PySem.W.fnOf "__call__" "Test.__call__" (defArgs sTCall) (defBody sTCall) (defScope sTCall) .none kV32 dc32 pm32 an32 cd32 ct32), sl32⟩)
    (c32 : PySem.W.codeIn K cd32 "Test.__call__" = true)
    (k32 : PySem.W.keepIn K (.ref f32) = true)
    (m33 : PySem.W.findIn K (.ref C) "__eq__" = some (some (.ref f33)))
    (i33 : PySem.W.isFn K (.ref f33) = true)
    (l33 : K.lookup f33 = some ⟨oc33, od33, .func (PySem.W.fnOf "__eq__" "Test.__eq__" (defArgs sTEq) (defBody sTEq) (defScope sTEq) .none kV33 dc33 pm33 an33 cd33 ct33), sl33⟩)
    (c33 : PySem.W.codeIn K cd33 "Test.__eq__" = true)
    (k33 : PySem.W.keepIn K (.ref f33) = true)
    (m34 : PySem.W.findIn K (.ref C) "__len__" = some (some (.ref f34)))
    (i34 : PySem.W.isFn K (.ref f34) = true)
    (l34 : K.lookup f34 = some ⟨oc34, od34, .func (PySem.W.fnOf "__len__" "Test.__len__" (defArgs sTLen) (defBody sTLen) (defScope sTLen) .none kV34 dc34 pm34 an34 cd34 ct34), sl34⟩)
    (c34 : PySem.W.codeIn K cd34 "Test.__len__" = true)
    (k34 : PySem.W.keepIn K (.ref f34) = true)
    (fi32 : PySem.W.fnIn K f32 = true)
    (hgM : PySem.W.nsIn K mainGlobals "MOST_PARTS" = some (some (.int 5 tM)))
    (zint : PySem.W.nsIn K mainGlobals "int" = some none)
    (zlen : PySem.W.nsIn K mainGlobals "len" = some none)
    (zabs : PySem.W.nsIn K mainGlobals "abs" = some none)
    (zlist : PySem.W.nsIn K mainGlobals "list" = some none)
    (zmin : PySem.W.nsIn K mainGlobals "min" = some none)
    (zmax : PySem.W.nsIn K mainGlobals "max" = some none)
    (zisinstance : PySem.W.nsIn K mainGlobals "isinstance" = some none)
    (zbool : PySem.W.nsIn K mainGlobals "bool" = some none)
    (ztuple : PySem.W.nsIn K mainGlobals "tuple" = some none)
    (zall : PySem.W.nsIn K mainGlobals "all" = some none)
    (zrange : PySem.W.nsIn K mainGlobals "range" = some none)
    (zrepr : PySem.W.nsIn K mainGlobals "repr" = some none)
    (zsum : PySem.W.nsIn K mainGlobals "sum" = some none)
    (zzip : PySem.W.nsIn K mainGlobals "zip" = some none) :
    ∃ fd : FuncData, (∀ (s : Shared) (v : Value), BindsTo s fd ⟨[v], []⟩ [("_law_script", v)]) ∧ ∀ base : Heap, K.In base → base.Ns mainGlobals mg → FnG l.prog w K mg base 8 fa fd ["_law_script"] (spLaw K) := by
  have e := hfa.symm.trans (PySem.W.mg_of X G a12)
  cases e
  have F0 := fun_mk (st := sIsInt) l0 c0 k0
  have b0 := F0.binds (ps := ["value"]) fun _ _ _ _ _ _ us hl => match us, hl with | [_], _ => rfl
  have F1 := fun_mk (st := sIsL) l1 c1 k1
  have b1 := F1.binds (ps := ["value"]) fun _ _ _ _ _ _ us hl => match us, hl with | [_], _ => rfl
  have F2 := fun_mk (st := sAreP) l2 c2 k2
  have b2 := F2.binds (ps := ["value"]) fun _ _ _ _ _ _ us hl => match us, hl with | [_], _ => rfl
  have F3 := fun_mk (st := sPen) l3 c3 k3
  have b3 := F3.binds (ps := ["_law_script"]) fun _ _ _ _ _ _ us hl => match us, hl with | [_], _ => rfl
  have F4 := fun_mk (st := sDraw) l4 c4 k4
  have b4 := F4.binds (ps := ["_law_pen_here", "_law_top_so"]) fun _ _ _ _ _ _ us hl => match us, hl with | [_, _], _ => rfl
  have F5 := fun_mk (st := sPick) l5 c5 k5
  have b5 := F5.binds (ps := ["_law_pen_here", "_law_some"]) fun _ _ _ _ _ _ us hl => match us, hl with | [_, _], _ => rfl
  have F6 := fun_mk (st := sSmall) l6 c6 k6
  have b6 := F6.binds (ps := ["_law_pen_here", "_law_most_so"]) fun _ _ _ _ _ _ us hl => match us, hl with | [_, _], _ => rfl
  have F7 := fun_mk (st := sNum) l7 c7 k7
  have b7 := F7.binds (ps := ["_law_pen_here"]) fun _ _ _ _ _ _ us hl => match us, hl with | [_], _ => rfl
  have F8 := fun_mk (st := sSum) l8 c8 k8
  have b8 := F8.binds (ps := ["_law_some", "_law_row"]) fun _ _ _ _ _ _ us hl => match us, hl with | [_, _], _ => rfl
  have F9 := fun_mk (st := sHolds) l9 c9 k9
  have b9 := F9.binds (ps := ["_law_some", "_law_far", "_law_row"]) fun _ _ _ _ _ _ us hl => match us, hl with | [_, _, _], _ => rfl
  have F10 := fun_mk (st := sLike) l10 c10 k10
  have b10 := F10.binds (ps := ["_law_pen_here", "_law_some", "_law_far"]) fun _ _ _ _ _ _ us hl => match us, hl with | [_, _, _], _ => rfl
  have F11 := fun_mk (st := sRight) l11 c11 k11
  have b11 := F11.binds (ps := ["_law_pen_here", "_law_many"]) fun _ _ _ _ _ _ us hl => match us, hl with | [_, _], _ => rfl
  have F12 := fun_mk (st := sLaw) l12 c12 k12
  have b12 := F12.binds (ps := ["_law_script"]) fun _ _ _ _ _ _ us hl => match us, hl with | [_], _ => rfl
  have F30 := fun_mk (st := sTInit) l30 c30 k30
  have b30 := F30.binds (ps := ["self", "parts", "bound"]) fun _ _ _ _ _ _ us hl => match us, hl with | [_, _, _], _ => rfl
  have F31 := fun_mk (st := sAmount) l31 c31 k31
  have b31 := F31.binds (ps := ["self", "numbers"]) fun _ _ _ _ _ _ us hl => match us, hl with | [_, _], _ => rfl
  have F32 := fun_mk (st := sTCall) l32 c32 k32
  have b32 := F32.binds (ps := ["self", "numbers"]) fun _ _ _ _ _ _ us hl => match us, hl with | [_, _], _ => rfl
  have F33 := fun_mk (st := sTEq) l33 c33 k33
  have b33 := F33.binds (ps := ["self", "other"]) fun _ _ _ _ _ _ us hl => match us, hl with | [_, _], _ => rfl
  have F34 := fun_mk (st := sTLen) l34 c34 k34
  have b34 := F34.binds (ps := ["self"]) fun _ _ _ _ _ _ us hl => match us, hl with | [_], _ => rfl
  have T : Blt mg := ⟨PySem.W.mg_none_of X G zint, PySem.W.mg_none_of X G zlen, PySem.W.mg_none_of X G zabs, PySem.W.mg_none_of X G zlist, PySem.W.mg_none_of X G zmin, PySem.W.mg_none_of X G zmax, PySem.W.mg_none_of X G zisinstance, PySem.W.mg_none_of X G zbool, PySem.W.mg_none_of X G ztuple, PySem.W.mg_none_of X G zall, PySem.W.mg_none_of X G zrange, PySem.W.mg_none_of X G zrepr⟩
  have TC : TCls K C := ⟨⟨pgC, hdC, poC, saC⟩, n0C, n1C⟩
  have IT : InsT K C := ⟨hcC, ikn, ikt, moC, icC, ttC⟩
  refine ⟨PySem.W.fnOf "law" "law" (defArgs sLaw) (defBody sLaw) (defScope sLaw) .none kV12 dc12 pm12 an12 cd12 ct12, fun s v => .of_eq rfl, fun base _ _ => ?_⟩
  have d0 : Df l.prog w K mg base 1 "is_integer" ["value"] _ := ⟨f0, _, ok_isInt F0 T, PySem.W.mg_of X G a0, F0.kp, b0⟩
  have d1 : Df l.prog w K mg base 2 "is_list_of_integers" ["value"] _ := ⟨f1, _, ok_isL F1 T d0, PySem.W.mg_of X G a1, F1.kp, b1⟩
  have d2 : Df l.prog w K mg base 3 "are_parts" ["value"] _ := ⟨f2, _, ok_areP F2 T d1 (PySem.W.mg_of X G hgM), PySem.W.mg_of X G a2, F2.kp, b2⟩
  have GI := ok_tInit (P := l.prog) (w := w) (mg := mg) (base := base) F30 T TC d2 d0
  have GA := ok_amount (P := l.prog) (w := w) (mg := mg) (base := base) F31 T (PySem.W.mg_none_of X G zsum) (PySem.W.mg_none_of X G zzip) TC d1
  have mA : Meth K C "amount" f31 := ⟨m31, i31, k31⟩
  have GC := ok_tCall (P := l.prog) (w := w) (mg := mg) (base := base) F32 TC GA b31 mA
  have GE := ok_tEq (P := l.prog) (w := w) (mg := mg) (base := base) F33 T TC IT (PySem.W.mg_of X G aC)
  have GL := ok_tLen (P := l.prog) (w := w) (mg := mg) (base := base) F34 T TC
  have kb30 := kb_init F30
  have kb31 := kb_gP (y := "numbers") F31 (fun _ _ _ _ _ _ _ _ => rfl)
  have kb32 := kb_gP (y := "numbers") F32 (fun _ _ _ _ _ _ _ _ => rfl)
  have TM : TMeth l.prog w K mg base C := ⟨TC, IT, PySem.W.mg_of X G aC, ⟨_, _, ⟨mkC, m30, i30, kcC⟩, GI, b30, kb30⟩, ⟨_, _, GA, b31, mA, kb31⟩, ⟨_, _, GC, b32, ⟨m32, i32, fi32⟩, kb32⟩, ⟨_, _, GE, b33, m33, i33⟩, neC, ⟨_, _, GL, b34, m34, i34⟩⟩
  have d3 : Df l.prog w K mg base 1 "_law_pen" ["_law_script"] _ := ⟨f3, _, ok_pen F3 T, PySem.W.mg_of X G a3, F3.kp, b3⟩
  have d4 : Df l.prog w K mg base 1 "_law_draw" ["_law_pen_here", "_law_top_so"] _ := ⟨f4, _, ok_draw F4 T, PySem.W.mg_of X G a4, F4.kp, b4⟩
  have d5 : Df l.prog w K mg base 2 "_law_pick" ["_law_pen_here", "_law_some"] _ := ⟨f5, _, ok_pick F5 T d4, PySem.W.mg_of X G a5, F5.kp, b5⟩
  have d6 : Df l.prog w K mg base 2 "_law_small" ["_law_pen_here", "_law_most_so"] _ := ⟨f6, _, ok_small F6 d4, PySem.W.mg_of X G a6, F6.kp, b6⟩
  have d7 : Df l.prog w K mg base 3 "_law_number" ["_law_pen_here"] _ := ⟨f7, _, ok_num F7 d6 d5, PySem.W.mg_of X G a7, F7.kp, b7⟩
  have d8 : Df l.prog w K mg base 1 "_law_sum" ["_law_some", "_law_row"] _ := ⟨f8, _, ok_sum F8 T, PySem.W.mg_of X G a8, F8.kp, b8⟩
  have d10 : Df l.prog w K mg base 6 "_law_like_right" ["_law_pen_here", "_law_some", "_law_far"] _ := ⟨f10, _, ok_like F10 T TM d4 d5, PySem.W.mg_of X G a10, F10.kp, b10⟩
  have GH := ok_holds (P := l.prog) (w := w) (mg := mg) (base := base) F9 T (PySem.W.mg_none_of X G zrepr) TM d8
  have GR := ok_right (P := l.prog) (w := w) (mg := mg) (base := base) F11 T (PySem.W.mg_none_of X G zrepr) TM d4 d7 d8 d10 GH (PySem.W.mg_of X G a9) F9.kp b9
  exact ok_law F12 T TM d3 d4 GR (PySem.W.mg_of X G a11) F11.kp b11
end Ev
open PySem PySem.W PyProof.Rows
set_option maxRecDepth 100000 in
set_option maxHeartbeats 0 in
theorem PySem.Challenge.cw_evenrules_k03_tests_made_holds : PySem.Challenge.rw_evenrules_k03_tests_made.Holds := by
  exact hd (by
    k_fill
    refine Ev.walk_ofG (l := PySem.Challenge.rw_evenrules_k03_tests_made) (n := 63) (k := 8) (x := "_law_script") (sp := fun w => Ev.spLaw _) rfl (by decide) rfl ⟨rfl, by decide, by decide⟩ (fun w h Y => PySem.W.kIn_of Y) ?F (fun _ _ a ns hl hS => ⟨a, ns, rfl, hS, hl, fun _ => rfl⟩)
    case F =>
      intro w mg fa h KX G hmg
      refine' Ev.all_mk KX G hmg ?a0 ?l0 ?c0 ?k0 ?a1 ?l1 ?c1 ?k1 ?a2 ?l2 ?c2 ?k2 ?a3 ?l3 ?c3 ?k3 ?a4 ?l4 ?c4 ?k4 ?a5 ?l5 ?c5 ?k5 ?a6 ?l6 ?c6 ?k6 ?a7 ?l7 ?c7 ?k7 ?a8 ?l8 ?c8 ?k8 ?a9 ?l9 ?c9 ?k9 ?a10 ?l10 ?c10 ?k10 ?a11 ?l11 ?c11 ?k11 ?a12 ?l12 ?c12 ?k12 ?aC ?pgC ?hdC ?poC ?saC ?mkC ?kcC ?n0C ?n1C ?hcC ?moC ?icC ?ttC ?neC ?ikn ?ikt ?m30 ?i30 ?l30 ?c30 ?k30 ?m31 ?i31 ?l31 ?c31 ?k31 ?m32 ?i32 ?l32 ?c32 ?k32 ?m33 ?i33 ?l33 ?c33 ?k33 ?m34 ?i34 ?l34 ?c34 ?k34 ?fi32 ?hgM ?zint ?zlen ?zabs ?zlist ?zmin ?zmax ?zisinstance ?zbool ?ztuple ?zall ?zrange ?zrepr ?zsum ?zzip
      (case a0 => k_is)
      (case l0 => k_is)
      (case c0 => k_is)
      (case k0 => k_is)
      (case a1 => k_is)
      (case l1 => k_is)
      (case c1 => k_is)
      (case k1 => k_is)
      (case a2 => k_is)
      (case l2 => k_is)
      (case c2 => k_is)
      (case k2 => k_is)
      (case a3 => k_is)
      (case l3 => k_is)
      (case c3 => k_is)
      (case k3 => k_is)
      (case a4 => k_is)
      (case l4 => k_is)
      (case c4 => k_is)
      (case k4 => k_is)
      (case a5 => k_is)
      (case l5 => k_is)
      (case c5 => k_is)
      (case k5 => k_is)
      (case a6 => k_is)
      (case l6 => k_is)
      (case c6 => k_is)
      (case k6 => k_is)
      (case a7 => k_is)
      (case l7 => k_is)
      (case c7 => k_is)
      (case k7 => k_is)
      (case a8 => k_is)
      (case l8 => k_is)
      (case c8 => k_is)
      (case k8 => k_is)
      (case a9 => k_is)
      (case l9 => k_is)
      (case c9 => k_is)
      (case k9 => k_is)
      (case a10 => k_is)
      (case l10 => k_is)
      (case c10 => k_is)
      (case k10 => k_is)
      (case a11 => k_is)
      (case l11 => k_is)
      (case c11 => k_is)
      (case k11 => k_is)
      (case a12 => k_is)
      (case l12 => k_is)
      (case c12 => k_is)
      (case k12 => k_is)
      (case aC => k_is)
      (case pgC => k_is)
      (case hdC => k_is)
      (case poC => k_is)
      (case saC => k_is)
      (case mkC => k_is)
      (case kcC => k_is)
      (case n0C => k_is)
      (case n1C => k_is)
      (case hcC => k_is)
      (case moC => k_is)
      (case icC => k_is)
      (case ttC => k_is)
      (case neC => k_is)
      (case ikn => k_is)
      (case ikt => k_is)
      (case m30 => k_is)
      (case i30 => k_is)
      (case l30 => k_is)
      (case c30 => k_is)
      (case k30 => k_is)
      (case m31 => k_is)
      (case i31 => k_is)
      (case l31 => k_is)
      (case c31 => k_is)
      (case k31 => k_is)
      (case m32 => k_is)
      (case i32 => k_is)
      (case l32 => k_is)
      (case c32 => k_is)
      (case k32 => k_is)
      (case m33 => k_is)
      (case i33 => k_is)
      (case l33 => k_is)
      (case c33 => k_is)
      (case k33 => k_is)
      (case m34 => k_is)
      (case i34 => k_is)
      (case l34 => k_is)
      (case c34 => k_is)
      (case k34 => k_is)
      (case fi32 => k_is)
      (case hgM => k_is)
      (case zint => k_is)
      (case zlen => k_is)
      (case zabs => k_is)
      (case zlist => k_is)
      (case zmin => k_is)
      (case zmax => k_is)
      (case zisinstance => k_is)
      (case zbool => k_is)
      (case ztuple => k_is)
      (case zall => k_is)
      (case zrange => k_is)
      (case zrepr => k_is)
      (case zsum => k_is)
      (case zzip => k_is))
