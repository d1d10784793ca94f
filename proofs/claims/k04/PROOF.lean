import PyProof.Rows.All
import Wide.All
import OpenK.AllK
import Wide.FinOn
import HandS.ForMost
import HandS.IsInst
import HandS.Wide
import HandS.Flow
import HandS.More
import HandS.Rev
import HandS.Conv
import PyProof.ReprRoads
import HandS.Style
import HandS.TupAny
import HandS.Codes
import HandS.Steps
import HandS.Text
import KE.GoesEnum
import KE.GoesMore
import HandS.FStr
import HandS.RaiseMore
import PySem.Challenge.RW_fairsearch_k04_terms_and_fillings_writte
set_option Elab.async false
set_option linter.all false
set_option maxRecDepth 100000
namespace Ksec
open PySem PySem.Spec PyProof.Rows L2
/-! the text -/
def topS (i : Nat) : Stmt := PySem.Challenge.pw_fairsearch_k04_terms_and_fillings_writte.main.body.getD i (.Pass ⟨0, 0, 0, 0⟩)
/-! the terms -/
inductive Tm where
  | int (i : Int)
  | wrd (z : Str)
  | nil
  | unk (n : Int)
  | pair (a b : Tm)
/-- a word: one to eight small letters -/
def Wd (z : Str) : Prop := 1 ≤ z.length ∧ z.length ≤ 8 ∧ ∀ c ∈ z.cps.toList, 97 ≤ c ∧ c ≤ 122
namespace Tm
def ok : Tm → Prop
  | .int i => i.natAbs < 10 ^ 41
  | .wrd z => Wd z
  | .nil => True
  | .unk n => 0 ≤ n ∧ n < 10 ^ 41
  | .pair a b => a.ok ∧ b.ok
def depth : Tm → Nat
  | .pair a b => max a.depth b.depth + 1
  | _ => 1
def size : Tm → Nat
  | .pair a b => a.size + b.size + 1
  | _ => 1
def isUnk : Tm → Bool
  | .unk _ => true
  | _ => false
def isPair : Tm → Bool
  | .pair _ _ => true
  | _ => false
def data : Tm → PyData
  | .int i => .int i
  | .wrd z => .str z
  | .nil => .tuple []
  | .unk n => .tuple [.str "?", .int n]
  | .pair a b => .tuple [a.data, b.data]
theorem data_depth : ∀ t : Tm, t.data.depth ≤ t.depth
  | .int _ => Nat.zero_le _
  | .wrd _ => Nat.zero_le _
  | .nil => Nat.le_refl _
  | .unk _ => Nat.le_refl _
  | .pair a b => by
    have h1 := data_depth a
    have h2 := data_depth b
    show max a.data.depth (max b.data.depth 0) + 1 ≤ max a.depth b.depth + 1
    omega
end Tm
theorem wd_ok {z : Str} (h : Wd z) : PyData.strOk z = true := by
  obtain ⟨h1, h2, h3⟩ := h
  unfold PyData.strOk
  rw [← Array.all_toList, List.all_eq_true]
  intro c hc
  have := h3 c hc
  exact decide_eq_true (by omega)
theorem wd_ne {z : Str} (h : Wd z) : z ≠ ("?" : Str) := by
  intro e
  subst e
  have := h.2.2 63 (by decide)
  omega
theorem Tm.lay : ∀ {t : Tm}, t.ok → t.data.canLay0 = true
  | .int _, _ => rfl
  | .wrd z, h => wd_ok h
  | .nil, _ => rfl
  | .unk _, _ => by
    show (PyData.strOk "?" && (true && true)) = true
    decide +kernel
  | .pair a b, h => by
    show (a.data.canLay0 && (b.data.canLay0 && true)) = true
    rw [Tm.lay h.1, Tm.lay h.2]
    rfl
theorem Tm.shp {t : Tm} (h : t.ok) (d : t.depth ≤ 64) : SeqAt.shaped t.data = true := by
  unfold SeqAt.shaped
  rw [Tm.lay h, decide_eq_true (Nat.le_trans t.data_depth d)]
  rfl
/-- x is the term t in H -/
inductive IsTm (H : Hp) : V → Tm → Prop where
  | int (i : Int) : IsTm H (.int i) (.int i)
  | wrd (z : Str) : IsTm H (.str z) (.wrd z)
  | nil {a : Addr} (h : H a = some (.tup [])) : IsTm H (.ref a) .nil
  | unk {a : Addr} {n : Int} (h : H a = some (.tup [.str "?", .int n])) : IsTm H (.ref a) (.unk n)
  | pair {a : Addr} {x y : V} {t u : Tm} (h : H a = some (.tup [x, y])) (h1 : IsTm H x t) (h2 : IsTm H y u) : IsTm H (.ref a) (.pair t u)
/-- tuples stay -/
def Tup (H H' : Hp) : Prop := ∀ b xs, H b = some (.tup xs) → H' b = some (.tup xs)
theorem Tup.refl (H : Hp) : Tup H H := fun _ _ h => h
theorem Tup.trans {H H1 H2 : Hp} (a : Tup H H1) (b : Tup H1 H2) : Tup H H2 := fun c xs h => b c xs (a c xs h)
theorem IsTm.keep {H H' : Hp} (k : Tup H H') {x : V} {t : Tm} (h : IsTm H x t) : IsTm H' x t := by
  induction h with
  | int i => exact .int i
  | wrd z => exact .wrd z
  | nil h => exact .nil (k _ _ h)
  | unk h => exact .unk (k _ _ h)
  | pair h _ _ i1 i2 => exact .pair (k _ _ h) i1 i2
theorem IsTm.dp {K : PySem.W.Frag} {H : Hp} {x : V} {t : Tm} (h : IsTm H x t) : Dp K H x t.data := by
  induction h with
  | int i => exact .int i
  | wrd z => exact .str z
  | nil h => exact .tup (.inl (.inl h)) .nil
  | unk h => exact .tup (.inl (.inl h)) (.cons (.str _) (.cons (.int _) .nil))
  | pair h _ _ i1 i2 => exact .tup (.inl (.inl h)) (.cons i1 (.cons i2 .nil))
/-- the type's name -/
def Tm.ty : Tm → String
  | .int _ => "int"
  | .wrd _ => "str"
  | _ => "tuple"
theorem IsTm.tyx {K : PySem.W.Frag} {H : Hp} {x : V} {t : Tm} (h : IsTm H x t) : TyX K H x (.type t.ty) := by
  cases h with
  | int i => exact .base (.int i)
  | wrd z => exact .base (.str z)
  | nil h => exact .base (.tup h)
  | unk h => exact .base (.tup h)
  | pair h _ _ => exact .base (.tup h)
theorem Tm.isTup (t : Tm) : kitB t.ty "tuple" = some (t.ty == "tuple") := by
  cases t with
  | int i => show kitB "int" "tuple" = some ("int" == "tuple"); decide +kernel
  | wrd i => show kitB "str" "tuple" = some ("str" == "tuple"); decide +kernel
  | nil => decide +kernel
  | unk i => show kitB "tuple" "tuple" = some ("tuple" == "tuple"); decide +kernel
  | pair i j => show kitB "tuple" "tuple" = some ("tuple" == "tuple"); decide +kernel
theorem eqv_qq : PyData.eqv (.str "?") (.str "?") = true := by decide +kernel
theorem Tm.noq : ∀ {t : Tm}, t.ok → PyData.eqv t.data (.str "?") = false
  | .int _, _ => by simp [Tm.data, PyData.eqv]
  | .wrd z, h => by
    show PyData.eqv (.str z) (.str "?") = false
    unfold PyData.eqv
    exact beq_eq_false_iff_ne.mpr (wd_ne h)
  | .nil, _ => by simp [Tm.data, PyData.eqv]
  | .unk _, _ => by simp [Tm.data, PyData.eqv]
  | .pair _ _, _ => by simp [Tm.data, PyData.eqv]
theorem shp_q : SeqAt.shaped (.str "?") = true := by decide +kernel
theorem same_upd {H : Hp} {p : Addr} {o : HO} (h : H p = none) : Same H (upd H p o) := fun b x e => by
  rw [upd_ne (ne_of_none e h)]
  exact e
theorem sameTup {H H' : Hp} (s : Same H H') : Tup H H' := fun b xs h => s b _ h
theorem tup_upd {H : Hp} {p : Addr} {o u : HO} (h : H p = some u) (hu : ∀ xs, u ≠ .tup xs) : Tup H (upd H p o) := fun b xs e => by
  rw [upd_ne (ne_of e h (fun z => hu xs z.symm))]
  exact e
/-! lists of ints as data -/
theorem dpInts {K : PySem.W.Frag} {H : Hp} : ∀ ns : List Int, DpAll K H (ns.map V.int) (ns.map .int)
  | [] => .nil
  | n :: r => .cons (.int n) (dpInts r)
theorem layInts : ∀ ns : List Int, PyData.canLayAll0 (ns.map .int) = true
  | [] => rfl
  | n :: r => by
    show (true && PyData.canLayAll0 (r.map .int)) = true
    rw [layInts r]
    rfl
theorem depInts : ∀ ns : List Int, PyData.depthAll (ns.map .int) = 0
  | [] => rfl
  | n :: r => by
    show max 0 (PyData.depthAll (r.map .int)) = 0
    rw [depInts r]
    rfl
theorem shpL (ns : List Int) : SeqAt.shaped (.list (ns.map .int)) = true := by
  have h1 : (PyData.list (ns.map .int)).canLay0 = true := layInts ns
  have h2 : (PyData.list (ns.map .int)).depth ≤ 64 := by
    show PyData.depthAll (ns.map .int) + 1 ≤ 64
    rw [depInts]
    decide
  unfold SeqAt.shaped
  rw [h1, decide_eq_true h2]
  rfl
theorem shpT (ns : List Int) : SeqAt.shaped (.tuple (ns.map .int)) = true := shpL ns
theorem eqvInts : ∀ ns ms : List Int, PyData.eqvAll (ns.map .int) (ms.map .int) = decide (ns = ms)
  | [], [] => rfl
  | [], _ :: _ => rfl
  | _ :: _, [] => rfl
  | n :: r, m :: q => by
    show ((PyData.int n).eqv (.int m) && PyData.eqvAll (r.map .int) (q.map .int)) = _
    rw [eqvInts r q]
    unfold PyData.eqv
    by_cases e : n = m
    · subst e
      by_cases e2 : r = q
      · subst e2
        simp
      · simp [e2]
    · simp [e]
theorem eqvL (ns ms : List Int) : PyData.eqv (.list (ns.map .int)) (.list (ms.map .int)) = decide (ns = ms) := by
  unfold PyData.eqv
  exact eqvInts ns ms
theorem eqvT (ns ms : List Int) : PyData.eqv (.tuple (ns.map .int)) (.tuple (ms.map .int)) = decide (ns = ms) := by
  unfold PyData.eqv
  exact eqvInts ns ms
end Ksec

set_option Elab.async false
set_option linter.all false
set_option maxRecDepth 100000
namespace Ksec
open PySem PySem.Spec PyProof.Rows L2
abbrev sDeck : Stmt := topS 21
abbrev sDraw : Stmt := topS 22
theorem scDeck : FnScope ["_law_script", "_law_cells"] ["_law_script"] (defScope sDeck) := ⟨rfl, rfl, rfl, by decide +kernel, rfl, by decide +kernel, by decide +kernel⟩
theorem scDraw : FnScope ["_law_deck_here", "_law_many", "_law_cells", "_law_cell", "_law_number_here"] ["_law_deck_here", "_law_many"] (defScope sDraw) := ⟨rfl, rfl, rfl, by decide +kernel, rfl, by decide +kernel, by decide +kernel⟩
/-- a deck at d, its cells at c -/
def Dk (H : Hp) (d c : Addr) : Prop := ∃ (ns : List Int) (s n : Int), H d = some (.lst [.ref c, .int s, .int n]) ∧ H c = some (.lst (ns.map V.int)) ∧ ns.length ≤ 63
theorem cutTo (xs : List V) (k : Nat) : cutV xs none (some (k : Int)) = xs.take k := by
  unfold cutV
  rw [HT.sIx_none, HT.sIx_nat]
  show (xs.drop 0).take (min k xs.length - 0) = xs.take k
  rw [List.drop_zero, Nat.sub_zero]
  by_cases h : k ≤ xs.length
  · rw [Nat.min_eq_left h]
  · rw [Nat.min_eq_right (by omega), List.take_length, List.take_of_length_le (by omega)]
/-- all but the deck stays -/
def Kp (d c : Addr) (H H' : Hp) : Prop := ∀ b o, b ≠ d → b ≠ c → H b = some o → H' b = some o
section
variable {P : Program} {w : World} {K : PySem.W.Frag} {mg : Str → Option Value} {base : Heap}
def spDeck (K : PySem.W.Frag) : Sp := fun vs H Q _ => ∃ (a : Addr) (ns : List Int), vs = [.ref a] ∧ SqL K H a (ns.map V.int) ∧ ∀ H' d c, Same H H' → H d = none → H c = none → Dk H' d c → Q (.ref d) H'
theorem ok_deck {f : Addr} {fd : FuncData} {k : Nat} (F : Fun K "_law_deck" "_law_deck" sDeck f fd) (m1 : mg "list" = none) (m2 : mg "sum" = none) : FnOk P w K mg base CX0 (k + 1) f fd ["_law_script"] (spDeck K) := by
  refine F.ok scDeck (fun vs H Q E h => ?_) (fun cdv A outer s H vs Q E hr h => ?_)
  · obtain ⟨x, _, rfl, _⟩ := h
    rfl
  · obtain ⟨a, ns, rfl, hS, q⟩ := h
    refine ⟨_, pss_cons (ps_set (i := 1) scDeck.nd rfl (.inl rfl) (pe_callTy call_list_of (by rfl) m1 (by decide +kernel) (pa_cons (pe_slice sl_list (pv 0) po_none (po_some pe_int)) pa_nil)))
      (pss_one (ps_ret (pe_lst (pa_cons (pv 1) (pa_cons (pe_op op_add pe_int (pe_op op_mod (pe_callB (cr_sum rfl) (by rfl) m2 (by decide +kernel) (pa_cons (pv 1) pa_nil)) pe_int)) (pa_cons pe_int pa_nil)))))), ?_⟩
    refine ⟨.ref a, rfl, 63, rfl, a, _, rfl, hS, fun b nb => ?_⟩
    have e63 : cutV (ns.map V.int) none (some 63) = (ns.take 63).map V.int := by
      rw [show (63 : Int) = ((63 : Nat) : Int) from rfl, cutTo, List.map_take]
    rw [e63]
    have s1 := same_upd (o := .lst ((ns.take 63).map V.int)) nb
    refine ⟨b, _, rfl, .inl (.inl (.inl upd_same)), fun c nc => ?_⟩
    have s2 := same_upd (o := .lst ((ns.take 63).map V.int)) nc
    refine ⟨.ref c, rfl, .ref c, rfl, c, ns.take 63, rfl, .inl (.inl upd_same), _, _, rfl, rfl, (by show (0 : Int) < 2147483579; decide), _, _, rfl, rfl, (by show 3 ≤ sizeLine; decide), fun d ndd => ?_⟩
    have s3 := same_upd (o := .lst [.ref c, .int (130043 + (ns.take 63).sum % 2147483579), .int 0]) ndd
    exact q _ d c (s1.trans (s2.trans s3)) (s1.free (s2.free ndd)) (s1.free nc) ⟨ns.take 63, _, _, upd_same, s3 _ _ upd_same, by simp; omega⟩
def spDraw : Sp := fun vs H Q _ => ∃ (d c : Addr) (m : Int), vs = [.ref d, .int m] ∧ Dk H d c ∧ 0 < m ∧ m.natAbs < 2 ^ 64 ∧ ∀ H' r, Dk H' d c → Kp d c H H' → 0 ≤ r → r < m → Q (.int r) H'
theorem ok_draw {f : Addr} {fd : FuncData} {k : Nat} (F : Fun K "_law_draw" "_law_draw" sDraw f fd) : FnOk P w K mg base CX0 (k + 1) f fd ["_law_deck_here", "_law_many"] spDraw := by
  refine F.ok scDraw (fun vs H Q E h => ?_) (fun cdv A outer s H vs Q E hr h => ?_)
  · obtain ⟨d, c, m, rfl, _⟩ := h
    rfl
  · obtain ⟨d, c, m, rfl, hD, hm, hm2, q⟩ := h
    refine ⟨_, pss_cons (ps_asg (pe_op op_add (pe_ix ix_list (pv 0) pe_int (fun _ _ => rfl)) pe_int) (pg_sub (pv 0) pe_int set_list))
      (pss_cons (ps_set (i := 2) scDraw.nd rfl (.inl rfl) (pe_ix ix_list (pv 0) pe_int (fun _ _ => rfl)))
      (pss_cons (ps_set (i := 3) scDraw.nd rfl (.inl rfl) (pe_ix ix_list (pv 0) pe_int (fun _ _ => rfl)))
      (pss_cons (ps_if (pt_cmpR (op_neD hr.units) (pv 2) (pe_lst pa_nil) (nomark _))
        (pss_cons (ps_set (i := 3) scDraw.nd rfl (.inl rfl) (pe_bm PySem.F.plainAttrs_list PySem.F.slot_list_pop PySem.F.type_list_pop mt_popAt (pv 2) (pa_cons pe_int pa_nil)))
        (pss_cons (ps_if (pt_cmpR op_ge (pv 3) (pe_op op_pow pe_int pe_int) (nomark _))
          (pss_cons (ps_expr (pe_bm PySem.F.plainAttrs_list PySem.F.slot_list_insert PySem.F.type_list_insert mt_insert (pv 2) (pa_cons pe_int (pa_cons (pe_op op_fdivW (pv 3) (pv 1)) pa_nil))))
            (pss_one (ps_ret (pe_op op_mod (pv 3) (pv 1))))) pss_nil)
          (pss_one (ps_set (i := 3) scDraw.nd rfl (.inl rfl) (pe_op op_add (pv 3) (pe_ix ix_list (pv 0) pe_int (fun _ _ => rfl))))))) pss_nil)
      (pss_cons (ps_set (i := 4) scDraw.nd rfl (.inl rfl) (pe_op op_mod (pe_op op_add (pe_op op_add (pe_op op_mul (pe_op op_mod (pv 3) pe_int) pe_int) (pe_op op_mul pe_int (pe_ix ix_list (pv 0) pe_int (fun _ _ => rfl)))) pe_int) pe_int))
      (pss_cons (ps_set (i := 4) scDraw.nd rfl (.inl rfl) (pe_op op_mod (pe_op op_add (pe_op op_add (pe_op op_mul (pv 4) (pv 4)) (pe_op op_mul pe_int (pv 4))) (pe_ix ix_list (pv 0) pe_int (fun _ _ => rfl))) pe_int))
      (pss_cons (ps_asg (pv 4) (pg_sub (pv 0) pe_int set_list))
      (pss_one (ps_ret (pe_op op_mod (pe_op op_fdiv (pe_op op_mod (pe_op op_mul (pv 4) (pe_op op_add (pv 4) pe_int)) pe_int) pe_int) (pv 1)))))))))), ?_⟩
    obtain ⟨ns, s0, n0, hd, hc, hl⟩ := hD
    have hcd : c ≠ d := by
      intro e
      subst e
      rw [hd] at hc
      cases ns with
      | nil => cases hc
      | cons n r =>
        have := (List.cons.inj (HO.lst.inj (Option.some.inj hc))).1
        cases this
    refine ⟨.ref d, rfl, d, _, 2, .int n0, rfl, rfl, .inl (.inl hd), atI_nat (j := 2) rfl, n0, 1, rfl, rfl, .ref d, rfl, d, _, 2, 2, rfl, rfl, hd, rfl, ?_⟩
    have hd1 : upd H d (.lst ([.ref c, .int s0, .int n0].set 2 (.int (n0 + 1)))) d = some (.lst [.ref c, .int s0, .int (n0 + 1)]) := upd_same
    have hc1 : upd H d (.lst ([.ref c, .int s0, .int n0].set 2 (.int (n0 + 1)))) c = some (.lst (ns.map V.int)) := by
      rw [upd_ne hcd]
      exact hc
    have kp1 : Kp d c H (upd H d (.lst ([.ref c, .int s0, .int n0].set 2 (.int (n0 + 1))))) := fun b o h1 _ e => by
      rw [upd_ne h1]
      exact e
    generalize upd H d (.lst ([.ref c, .int s0, .int n0].set 2 (.int (n0 + 1)))) = H1 at *
    refine ⟨.ref d, rfl, d, _, 0, .ref c, rfl, rfl, .inl (.inl hd1), atI_nat (j := 0) rfl, ?_⟩
    refine ⟨.ref d, rfl, d, _, 1, .int s0, rfl, rfl, .inl (.inl hd1), atI_nat (j := 1) rfl, ?_⟩
    refine ⟨.ref c, rfl, Nat.zero_le _, fun p np => ?_⟩
    have s2 : Same H1 (upd H1 p (.lst [])) := same_upd np
    have hd2 := s2 _ _ hd1
    have hc2 := s2 _ _ hc1
    have kp2 : Kp d c H (upd H1 p (.lst [])) := fun b o h1 h2 e => s2 _ _ (kp1 b o h1 h2 e)
    refine ⟨.list (ns.map .int), .list (([] : List Int).map .int), .lst (.inl (.inl hc2)) (dpInts _), .lst (.inl (.inl upd_same)) .nil, shpL _, shpL _, _, rfl, ?_⟩
    rw [eqvL]
    generalize upd H1 p (.lst []) = H2 at *
    cases ns with
    | nil =>
      refine iteF ?_
      refine ⟨_, rfl, _, _, rfl, rfl, (by show (0 : Int) < 2147483629; decide), _, _, rfl, rfl, .inr ⟨by decide, by decide⟩, .ref d, rfl, d, _, 2, .int (n0 + 1), rfl, rfl, .inl (.inl hd2), atI_nat (j := 2) rfl, 6997, (n0 + 1), rfl, rfl, .inl ⟨by decide, by decide⟩, _, _, rfl, rfl, _, _, rfl, rfl, _, _, rfl, rfl, (by show (0 : Int) < 2147483647; decide), ?_⟩
      have b0 := Int.emod_nonneg (s0 % 2147483629 * 48271 + 6997 * (n0 + 1) + 17) (show (2147483647 : Int) ≠ 0 by decide)
      have b1 := Int.emod_lt_of_pos (s0 % 2147483629 * 48271 + 6997 * (n0 + 1) + 17) (show (0 : Int) < 2147483647 by decide)
      refine ⟨_, rfl, _, rfl, _, _, rfl, rfl, .inl ⟨by omega, by omega⟩, _, rfl, 69621, _, rfl, rfl, .inl ⟨by decide, by decide⟩, _, _, rfl, rfl, .ref d, rfl, d, _, 2, .int (n0 + 1), rfl, rfl, .inl (.inl hd2), atI_nat (j := 2) rfl, _, _, rfl, rfl, _, _, rfl, rfl, (by show (0 : Int) < 2147483587; decide), ?_⟩
      have c0 := Int.emod_nonneg (((s0 % 2147483629 * 48271 + 6997 * (n0 + 1) + 17) % 2147483647) * ((s0 % 2147483629 * 48271 + 6997 * (n0 + 1) + 17) % 2147483647) + 69621 * ((s0 % 2147483629 * 48271 + 6997 * (n0 + 1) + 17) % 2147483647) + (n0 + 1)) (show (2147483587 : Int) ≠ 0 by decide)
      have c1 := Int.emod_lt_of_pos (((s0 % 2147483629 * 48271 + 6997 * (n0 + 1) + 17) % 2147483647) * ((s0 % 2147483629 * 48271 + 6997 * (n0 + 1) + 17) % 2147483647) + 69621 * ((s0 % 2147483629 * 48271 + 6997 * (n0 + 1) + 17) % 2147483647) + (n0 + 1)) (show (0 : Int) < 2147483587 by decide)
      refine ⟨_, rfl, .ref d, rfl, d, _, 1, 1, rfl, rfl, hd2, rfl, ?_⟩
      refine ⟨_, rfl, _, rfl, _, 40692, rfl, rfl, _, _, rfl, rfl, .inl ⟨by omega, by omega⟩, _, _, rfl, rfl, (by show (0 : Int) < 2147483563; decide), _, 64, rfl, rfl, ⟨by decide, by decide⟩, .int m, rfl, _, m, rfl, rfl, hm, ?_⟩
      refine q _ _ ⟨[], _, (n0 + 1), upd_same, ?_, by decide⟩ (fun b o h1 h2 e => ?_) (Int.emod_nonneg _ (by omega)) (Int.emod_lt_of_pos _ hm)
      · rw [upd_ne hcd]
        exact hc2
      · rw [upd_ne h1]
        exact kp2 b o h1 h2 e
    | cons n r =>
      refine iteT ?_
      have ep : (V.int n :: r.map V.int).eraseIdx 0 = r.map V.int := rfl
      refine ⟨.ref c, rfl, .inl ⟨rfl, _, .inl (.inl hc2)⟩, c, _, 0, 0, .int n, rfl, rfl, hc2, by decide, by decide, seqIndex_of (k := 0) (by decide) (by rw [List.length_map, List.length_cons]; omega), rfl, ?_⟩
      have hc3 : upd H2 c (.lst (((n :: r).map V.int).eraseIdx 0)) c = some (.lst (r.map V.int)) := upd_same
      have hd3 : upd H2 c (.lst (((n :: r).map V.int).eraseIdx 0)) d = some (.lst [.ref c, .int s0, .int (n0 + 1)]) := by
        rw [upd_ne hcd.symm]
        exact hd2
      have kp3 : Kp d c H (upd H2 c (.lst (((n :: r).map V.int).eraseIdx 0))) := fun b o h1 h2 e => by
        rw [upd_ne h2]
        exact kp2 b o h1 h2 e
      have hl3 : r.length ≤ 62 := by
        have : (n :: r).length = r.length + 1 := rfl
        omega
      generalize upd H2 c (.lst (((n :: r).map V.int).eraseIdx 0)) = H3 at *
      refine ⟨.int n, rfl, 10, 18, rfl, rfl, ⟨by decide, by decide, by decide⟩, n, _, rfl, rfl, _, rfl, ite2 (fun _ => ?_) (fun _ => ?_)⟩
      · refine ⟨.ref c, rfl, .inl ⟨rfl, _, .inl (.inl hc3)⟩, .int n, rfl, .int m, rfl, n, m, rfl, rfl, wide_div hm hm2 (by decide) (by decide), c, _, 0, _, rfl, rfl, hc3, ?_, by decide, by decide, ?_⟩
        · rw [List.length_map]
          exact Nat.lt_of_le_of_lt hl3 (by decide)
        refine ⟨.int n, rfl, .int m, rfl, n, m, rfl, rfl, hm, ?_⟩
        refine q _ _ ⟨n / m :: r, s0, n0 + 1, ?_, upd_same, by simpa using hl3⟩ (fun b o h1 h2 e => ?_) (Int.emod_nonneg _ (by omega)) (Int.emod_lt_of_pos _ hm)
        · rw [upd_ne hcd.symm]
          exact hd3
        · rw [upd_ne h2]
          exact kp3 b o h1 h2 e
      · refine ⟨.int n, rfl, .ref d, rfl, d, _, 1, .int s0, rfl, rfl, .inl (.inl hd3), atI_nat (j := 1) rfl, n, s0, rfl, rfl, ?_⟩
        refine ⟨_, rfl, _, _, rfl, rfl, (by show (0 : Int) < 2147483629; decide), _, _, rfl, rfl, .inr ⟨by decide, by decide⟩, .ref d, rfl, d, _, 2, .int (n0 + 1), rfl, rfl, .inl (.inl hd3), atI_nat (j := 2) rfl, 6997, (n0 + 1), rfl, rfl, .inl ⟨by decide, by decide⟩, _, _, rfl, rfl, _, _, rfl, rfl, _, _, rfl, rfl, (by show (0 : Int) < 2147483647; decide), ?_⟩
        have b0 := Int.emod_nonneg ((n + s0) % 2147483629 * 48271 + 6997 * (n0 + 1) + 17) (show (2147483647 : Int) ≠ 0 by decide)
        have b1 := Int.emod_lt_of_pos ((n + s0) % 2147483629 * 48271 + 6997 * (n0 + 1) + 17) (show (0 : Int) < 2147483647 by decide)
        refine ⟨_, rfl, _, rfl, _, _, rfl, rfl, .inl ⟨by omega, by omega⟩, _, rfl, 69621, _, rfl, rfl, .inl ⟨by decide, by decide⟩, _, _, rfl, rfl, .ref d, rfl, d, _, 2, .int (n0 + 1), rfl, rfl, .inl (.inl hd3), atI_nat (j := 2) rfl, _, _, rfl, rfl, _, _, rfl, rfl, (by show (0 : Int) < 2147483587; decide), ?_⟩
        have c0 := Int.emod_nonneg ((((n + s0) % 2147483629 * 48271 + 6997 * (n0 + 1) + 17) % 2147483647) * (((n + s0) % 2147483629 * 48271 + 6997 * (n0 + 1) + 17) % 2147483647) + 69621 * (((n + s0) % 2147483629 * 48271 + 6997 * (n0 + 1) + 17) % 2147483647) + (n0 + 1)) (show (2147483587 : Int) ≠ 0 by decide)
        have c1 := Int.emod_lt_of_pos ((((n + s0) % 2147483629 * 48271 + 6997 * (n0 + 1) + 17) % 2147483647) * (((n + s0) % 2147483629 * 48271 + 6997 * (n0 + 1) + 17) % 2147483647) + 69621 * (((n + s0) % 2147483629 * 48271 + 6997 * (n0 + 1) + 17) % 2147483647) + (n0 + 1)) (show (0 : Int) < 2147483587 by decide)
        refine ⟨_, rfl, .ref d, rfl, d, _, 1, 1, rfl, rfl, hd3, rfl, ?_⟩
        refine ⟨_, rfl, _, rfl, _, 40692, rfl, rfl, _, _, rfl, rfl, .inl ⟨by omega, by omega⟩, _, _, rfl, rfl, (by show (0 : Int) < 2147483563; decide), _, 64, rfl, rfl, ⟨by decide, by decide⟩, .int m, rfl, _, m, rfl, rfl, hm, ?_⟩
        refine q _ _ ⟨r, _, (n0 + 1), upd_same, ?_, by omega⟩ (fun b o h1 h2 e => ?_) (Int.emod_nonneg _ (by omega)) (Int.emod_lt_of_pos _ hm)
        · rw [upd_ne hcd]
          exact hc3
        · rw [upd_ne h1]
          exact kp3 b o h1 h2 e
end
end Ksec

set_option Elab.async false
set_option linter.all false
set_option maxRecDepth 100000
set_option maxHeartbeats 4000000
namespace Ksec
open PySem PySem.Spec PyProof.Rows L2
abbrev sNames : Stmt := topS 23
abbrev nNames : List Str := ["_law_deck_here", "_law_many", "_law_letters", "_law_kinds", "_law_mode", "_law_turn", "_law_base", "_law_size", "_law_at", "_law_k"]
theorem scNames : FnScope nNames ["_law_deck_here", "_law_many"] (defScope sNames) := ⟨rfl, rfl, rfl, by decide +kernel, rfl, by decide +kernel, by decide +kernel⟩
/-! letters -/
def Lt (z : Str) : Prop := ∀ c ∈ z.cps.toList, 97 ≤ c ∧ c ≤ 122
theorem lt_app {a b : Str} (h1 : Lt a) (h2 : Lt b) : Lt (a ++ b) := fun c hc => by
  have e : (a ++ b).cps.toList = a.cps.toList ++ b.cps.toList := by
    show (a.cps ++ b.cps).toList = _
    rw [Array.toList_append]
  rw [e] at hc
  exact (List.mem_append.mp hc).elim (h1 c) (h2 c)
theorem lt_cut {z : Str} (h : Lt z) (lo hi : Option Int) : Lt (cutS z lo hi) := fun c hc => by
  unfold cutS at hc
  exact h c (List.mem_of_mem_drop (List.mem_of_mem_take (by simpa using hc)))
theorem lt_one {c : Nat} (h : 97 ≤ c ∧ c ≤ 122) : Lt ⟨#[c]⟩ := fun x hx => by
  have e : x = c := by simpa using hx
  subst e
  exact h
theorem len_strL (z : Str) : z.length = z.cps.toList.length := by simp [Str.length]
theorem len_cut (z : Str) (lo hi : Option Int) : (cutS z lo hi).length = min (HT.sIx z.length z.length hi - HT.sIx z.length 0 lo) (z.length - HT.sIx z.length 0 lo) := by
  rw [len_strL]
  unfold cutS
  rw [List.length_take, List.length_drop, len_strL z]
theorem join_lt : ∀ ys : List Str, (∀ y ∈ ys, Lt y) → Lt (Str.join ("" : Str) ys)
  | [], _ => fun c hc => by simp [Str.join, Str.empty] at hc
  | [y], h => h y (List.mem_cons_self ..)
  | x :: y :: r, h => lt_app (lt_app (h x (List.mem_cons_self ..)) fun c hc => absurd hc (by decide +revert)) (join_lt (y :: r) fun z hz => h z (List.mem_cons_of_mem _ hz))
theorem join_len : ∀ ys : List Str, (∀ y ∈ ys, y.length = 1) → (Str.join ("" : Str) ys).length = ys.length
  | [], _ => rfl
  | [y], h => h y (List.mem_cons_self ..)
  | x :: y :: r, h => by
    have ih := join_len (y :: r) fun z hz => h z (List.mem_cons_of_mem _ hz)
    show (x ++ "" ++ Str.join "" (y :: r)).length = _
    rw [strLen_append, strLen_append, ih, h x (List.mem_cons_self ..)]
    show 1 + 0 + (r.length + 1) = r.length + 1 + 1
    omega
def letters : Str := "abcdefghijklmnopqrstuvwxyz"
theorem letter_at {i : Int} (h0 : 0 ≤ i) (h1 : i < 26) : ∃ c, atI letters.cps.toList i = some c ∧ 97 ≤ c ∧ c ≤ 122 := by
  have key : ∀ j : Fin 26, ∃ c, letters.cps.toList[j.val]? = some c ∧ 97 ≤ c ∧ c ≤ 122 := fun j => by
    have h : ∀ j : Fin 26, ((letters.cps.toList[j.val]?).any fun c => decide (97 ≤ c ∧ c ≤ 122)) = true := by decide +kernel
    have h2 := h j
    cases e : letters.cps.toList[j.val]? with
    | none =>
      rw [e] at h2
      cases h2
    | some c =>
      rw [e] at h2
      exact ⟨c, rfl, of_decide_eq_true h2⟩
  obtain ⟨c, e, hc⟩ := key ⟨i.toNat, by omega⟩
  refine ⟨c, ?_, hc⟩
  have := atI_nat e
  rw [show ((i.toNat : Nat) : Int) = i by omega] at this
  exact this
def kinds : List Str := ["same", "both", "call", "either", "fresh", "unlike", "number", "word", "absent", "x", "put", "go"]
theorem kinds_wd : ∀ z ∈ kinds, Wd z := by
  have h : kinds.all (fun z => decide (1 ≤ z.length) && decide (z.length ≤ 8) && z.cps.toList.all fun c => decide (97 ≤ c ∧ c ≤ 122)) = true := by decide +kernel
  intro z hz
  have h2 := List.all_eq_true.mp h z hz
  simp only [Bool.and_eq_true, decide_eq_true_eq, List.all_eq_true] at h2
  exact ⟨h2.1.1, h2.1.2, h2.2⟩
theorem kind_at {i : Int} (h0 : 0 ≤ i) (h1 : i < 12) : ∃ z, atI (kinds.map V.str) i = some (.str z) ∧ Wd z := by
  have hl : i.toNat < kinds.length := by
    show i.toNat < 12
    omega
  refine ⟨kinds[i.toNat], ?_, kinds_wd _ (List.getElem_mem hl)⟩
  have e : (kinds.map V.str)[i.toNat]? = some (.str kinds[i.toNat]) := by
    rw [List.getElem?_map, List.getElem?_eq_getElem hl]
    rfl
  have := atI_nat e
  rw [show ((i.toNat : Nat) : Int) = i by omega] at this
  exact this
theorem Kp.refl (d c : Addr) (H : Hp) : Kp d c H H := fun _ _ _ _ e => e
theorem Kp.trans {d c : Addr} {H H1 H2 : Hp} (a : Kp d c H H1) (b : Kp d c H1 H2) : Kp d c H H2 := fun x o h1 h2 e => b x o h1 h2 (a x o h1 h2 e)
theorem kpSame {d c : Addr} {H H1 : Hp} (a : Same H H1) : Kp d c H H1 := fun x o _ _ e => a x o e
theorem Dk.same {d c : Addr} {H H1 : Hp} (h : Dk H d c) (a : Same H H1) : Dk H1 d c := let ⟨ns, s, n, h1, h2, h3⟩ := h; ⟨ns, s, n, a _ _ h1, a _ _ h2, h3⟩
theorem Dk.ne1 {d c p : Addr} {H : Hp} (h : Dk H d c) (e : H p = none) : p ≠ d := let ⟨_, _, _, h1, _⟩ := h; (ne_of_none h1 e).symm
theorem Dk.ne2 {d c p : Addr} {H : Hp} (h : Dk H d c) (e : H p = none) : p ≠ c := let ⟨_, _, _, _, h2, _⟩ := h; (ne_of_none h2 e).symm
theorem yes {σ : L2.St} {H : Hp} {P R : Hp → Prop} (h : P H) : tYes σ H fun b H3 => if b = true then P H3 else R H3 := by
  show if (true = true) then P H else R H
  rw [if_pos rfl]
  exact h
section
variable {P : Program} {w : World} {K : PySem.W.Frag} {mg : Str → Option Value} {base : Heap}
def spNames : Sp := fun vs H Q _ => ∃ (d c : Addr) (m : Nat), vs = [.ref d, .int m] ∧ Dk H d c ∧ m ≤ 8 ∧
  ∀ (H' : Hp) (p : Addr) (zs : List Str), Dk H' d c → Kp d c H H' → H p = none → p ≠ d → p ≠ c → H' p = some (.lst (zs.map V.str)) → zs.length = m → (∀ z ∈ zs, Wd z) → Q (.ref p) H'
theorem ok_names {f fD : Addr} {fd fdD : FuncData} {k : Nat} (F : Fun K "_law_names" "_law_names" sNames f fd) (GD : FnOk P w K mg base CX0 (k + 1) fD fdD ["_law_deck_here", "_law_many"] spDraw) (bD : Binds K fdD ["_law_deck_here", "_law_many"] [])
    (gD : mg "_law_draw" = some (.ref fD)) (kD : PySem.W.keepIn K (.ref fD) = true) (m1 : mg "range" = none) : FnOk P w K mg base CX0 (k + 2) f fd ["_law_deck_here", "_law_many"] spNames := by
  refine F.ok scNames (fun vs H Q E h => ?_) (fun cdv A outer s H vs Q E hr h => ?_)
  · obtain ⟨d, c, m, rfl, _⟩ := h
    rfl
  · obtain ⟨d, c, m, rfl, hD, hm, q⟩ := h
    refine ⟨_, pss_cons (ps_set (i := 2) scNames.nd rfl (.inr rfl) pe_str)
      (pss_cons (ps_set (i := 3) scNames.nd rfl (.inr rfl) (pe_lst (pa_cons pe_str (pa_cons pe_str (pa_cons pe_str (pa_cons pe_str (pa_cons pe_str (pa_cons pe_str (pa_cons pe_str (pa_cons pe_str (pa_cons pe_str (pa_cons pe_str (pa_cons pe_str (pa_cons pe_str pa_nil))))))))))))))
      (pss_cons (ps_set (i := 4) scNames.nd rfl (.inl rfl) (pe_call GD hr (by rfl) gD kD bD .nil pass0 (pa_cons (pv 0) (pa_cons pe_int pa_nil))))
      (pss_cons (ps_set (i := 5) scNames.nd rfl (.inr rfl) (pe_call GD hr (by rfl) gD kD bD .nil pass0 (pa_cons (pv 0) (pa_cons pe_int pa_nil))))
      (pss_cons (ps_set (i := 6) scNames.nd rfl (.inr rfl) (pe_join pe_str
        (pe_lc (own := [("_law_k", 9)]) (g := gName 9) (tt := tYes) rfl scNames.nd (pi_range1 (by rfl) m1 (pa_cons pe_int pa_nil)) (blkOk_by (own := [("_law_k", 9)]) (N := nNames) (sc := defScope sNames) (by decide +kernel))
          (fun _ _ _ _ _ => pg_name (i := 9) scNames.nd rfl (Or.inl rfl)) (fun _ _ _ _ _ => pts_nil) (fun _ _ _ _ _ => pe_ix ix_str (pv 2) (pe_call GD hr (by rfl) gD kD bD .nil pass0 (pa_cons (pv 0) (pa_cons pe_int pa_nil))) (fun _ _ => rfl)))))
      (pss_cons (ps_set (i := 7) scNames.nd rfl (.inr rfl) (pe_op op_add pe_int (pe_call GD hr (by rfl) gD kD bD .nil pass0 (pa_cons (pv 0) (pa_cons pe_int pa_nil)))))
      (pss_cons (ps_set (i := 8) scNames.nd rfl (.inr rfl) (pe_call GD hr (by rfl) gD kD bD .nil pass0 (pa_cons (pv 0) (pa_cons (pv 7) pa_nil))))
      (pss_cons (ps_if (pt_cmpR op_eq (pv 4) pe_int (nomark _)) (pss_one (ps_ret
        (pe_lc (own := [("_law_k", 9)]) (g := gName 9) (tt := tYes) rfl scNames.nd (pi_range1 (by rfl) m1 (pa_cons (pv 1) pa_nil)) (blkOk_by (own := [("_law_k", 9)]) (N := nNames) (sc := defScope sNames) (by decide +kernel))
          (fun _ _ _ _ _ => pg_name (i := 9) scNames.nd rfl (Or.inl rfl)) (fun _ _ _ _ _ => pts_nil) (fun _ _ _ _ _ => pe_ix (r := rIxL K) ix_list (pv 3) (pe_op op_mod (pe_op op_add (pv 5) (pe_op op_mul pe_int (pv 9))) pe_int) (fun _ _ => rfl))))) pss_nil)
      (pss_cons (ps_if (PW.pt (pw_and (pt_cmpR op_eq (pv 4) pe_int (nomark _)) (pw_and1 (pt_cmpR op_lt (pv 1) pe_int (nomark _))))) (pss_one (ps_ret
        (pe_lc (own := [("_law_k", 9)]) (g := gName 9) (tt := tYes) rfl scNames.nd (pi_range1 (by rfl) m1 (pa_cons (pv 1) pa_nil)) (blkOk_by (own := [("_law_k", 9)]) (N := nNames) (sc := defScope sNames) (by decide +kernel))
          (fun _ _ _ _ _ => pg_name (i := 9) scNames.nd rfl (Or.inl rfl)) (fun _ _ _ _ _ => pts_nil) (fun _ _ _ _ _ => pe_slice sl_str (pv 6) po_none (po_some (pe_op op_add pe_int (pv 9))))))) pss_nil)
      (pss_one (ps_ret
        (pe_lc (own := [("_law_k", 9)]) (g := gName 9) (tt := tYes) rfl scNames.nd (pi_range1 (by rfl) m1 (pa_cons (pv 1) pa_nil)) (blkOk_by (own := [("_law_k", 9)]) (N := nNames) (sc := defScope sNames) (by decide +kernel))
          (fun _ _ _ _ _ => pg_name (i := 9) scNames.nd rfl (Or.inl rfl)) (fun _ _ _ _ _ => pts_nil) (fun _ _ _ _ _ => pe_op op_add_str (pe_op op_add_str (pe_slice sl_str (pv 6) po_none (po_some (pv 8)))
            (pe_ix ix_str (pv 2) (pe_op op_mod (pe_op op_add (pv 5) (pe_op op_mul pe_int (pv 9))) pe_int) (fun _ _ => rfl))) (pe_slice sl_str (pv 6) (po_some (pe_op op_add (pv 8) pe_int)) (po_some (pv 7))))))))))))))), ?_⟩
    refine ⟨(by show 12 ≤ sizeLine; decide), fun kl nk => ?_⟩
    have hk1 : upd H kl (.lst (kinds.map V.str)) kl = some (.lst (kinds.map V.str)) := upd_same
    have s1 : Same H (upd H kl (.lst (kinds.map V.str))) := same_upd nk
    have hD1 := hD.same s1
    have kp1 : Kp d c H (upd H kl (.lst (kinds.map V.str))) := kpSame s1
    have nk1 := hD.ne1 nk
    have nk2 := hD.ne2 nk
    show tSeq _ _ _ _ (upd H kl (.lst (kinds.map V.str)))
    generalize upd H kl (.lst (kinds.map V.str)) = H1 at *
    refine ⟨.ref d, rfl, d, c, 4, rfl, hD1, by decide, by decide, fun H2 mode hD2 kp2 b0 b1 => ?_⟩
    refine ⟨.ref d, rfl, d, c, 26, rfl, hD2, by decide, by decide, fun H3 turn hD3 kp3 b2 b3 => ?_⟩
    have hk3 := kp3 _ _ nk1 nk2 (kp2 _ _ nk1 nk2 hk1)
    have kq3 := kp1.trans (kp2.trans kp3)
    refine ⟨⟨_, rfl⟩, 8, rfl, by decide, by decide, fun D nD => ?_⟩
    have nD1 := hD3.ne1 nD
    have nD2 := hD3.ne2 nD
    refine lc_range (lo := 0) (n := 8) (fun i H' => ∃ ys : List Str, H' D = some (.lst (ys.map V.str)) ∧ ys.length = i ∧ (∀ y ∈ ys, y.length = 1 ∧ Lt y) ∧ Dk H' d c ∧ Kp d c H3 H') ?_ (fun i H4 hi h4 => ?_) (fun H4 h4 => ?_)
    · exact ⟨[], upd_same, rfl, fun y hy => absurd hy List.not_mem_nil, hD3.same (same_upd nD), kpSame (same_upd nD)⟩
    · obtain ⟨ys, e1, e2, e3, e4, e5⟩ := h4
      refine ⟨rfl, yes ?_⟩
      refine ⟨.str letters, rfl, .ref d, rfl, d, c, 26, rfl, e4, by decide, by decide, fun H5 r hD5 kp5 b4 b5 => ?_⟩
      obtain ⟨ch, hc1, hc2⟩ := letter_at b4 b5
      refine ⟨letters, r, ch, rfl, rfl, (by decide +kernel), hc1, _, kp5 _ _ nD1 nD2 e1, ?_, ys ++ [⟨#[ch]⟩], ?_, ?_, ?_, ?_, ?_⟩
      · rw [List.length_map, e2]
        exact Nat.lt_of_lt_of_le hi (by decide)
      · rw [upd_same, List.map_append]
        rfl
      · rw [List.length_append, e2]
        rfl
      · intro y hy
        rcases List.mem_append.mp hy with h | h
        · exact e3 y h
        · rw [List.mem_singleton.mp h]
          exact ⟨rfl, lt_one hc2⟩
      · obtain ⟨ns, s', n', g1, g2, g3⟩ := hD5
        exact ⟨ns, s', n', by rw [upd_ne nD1.symm]; exact g1, by rw [upd_ne nD2.symm]; exact g2, g3⟩
      · intro b o h1 h2 e
        by_cases hb : b = D
        · rw [hb, nD] at e
          cases e
        · rw [upd_ne hb]
          exact kp5 _ _ h1 h2 (e5 _ _ h1 h2 e)
    obtain ⟨ys, e1, e2, e3, hD4, kp4⟩ := h4
    have hsum : (ys.map (·.length)).sum ≤ 8 := by
      have h : ∀ l : List Str, (∀ y ∈ l, y.length = 1) → (l.map (·.length)).sum = l.length := by
        intro l
        induction l with
        | nil => intro _; rfl
        | cons y r ih =>
          intro hl
          rw [List.map_cons, List.sum_cons, ih fun z hz => hl z (List.mem_cons_of_mem _ hz), hl y (List.mem_cons_self ..), List.length_cons]
          omega
      rw [h ys fun y hy => (e3 y hy).1, e2]
      omega
    refine ⟨("" : Str), D, ys, rfl, rfl, .inl (.inl (.inl e1)), ?_, ?_⟩
    · show (ys.map (·.length)).sum + ys.length * 0 ≤ 16777216
      omega
    have hb1 : (Txt.join ("" : Str) ys).length = 8 := by
      rw [TL.join_eq, join_len ys fun y hy => (e3 y hy).1, e2]
    have hb2 : Lt (Txt.join ("" : Str) ys) := by
      rw [TL.join_eq]
      exact join_lt ys fun y hy => (e3 y hy).2
    have hk4 := kp4 _ _ nk1 nk2 hk3
    have kq4 := kq3.trans kp4
    generalize Txt.join ("" : Str) ys = bse at *
    refine ⟨.ref d, rfl, d, c, 8, rfl, hD4, by decide, by decide, fun H5 r hD5 kp5 b4 b5 => ⟨1, r, rfl, rfl, ?_⟩⟩
    refine ⟨.ref d, rfl, .int (1 + r), rfl, d, c, 1 + r, rfl, hD5, by omega, ?_, fun H6 at6 hD6 kp6 b6 b7 => ?_⟩
    · have : (1 + r).natAbs ≤ 8 := by omega
      exact Nat.lt_of_le_of_lt this (by decide)
    have hk6 := kp6 _ _ nk1 nk2 (kp5 _ _ nk1 nk2 hk4)
    have kq6 := kq4.trans (kp5.trans kp6)
    have free6 : ∀ p, p ≠ d → p ≠ c → H6 p = none → H p = none := fun p h1 h2 h => by
      cases e : H p with
      | none => rfl
      | some o =>
        rw [kq6 p o h1 h2 e] at h
        cases h
    refine ⟨.int mode, rfl, rfl, _, rfl, ite2 (fun _ => ?_) (fun _ => ?_)⟩
    · refine ⟨.int m, rfl, m, rfl, by omega, by omega, fun D2 nD' => ?_⟩
      have nD3 := hD6.ne1 nD'
      have nD4 := hD6.ne2 nD'
      refine lc_range (lo := 0) (n := m) (fun i H' => ∃ zs : List Str, H' D2 = some (.lst (zs.map V.str)) ∧ zs.length = i ∧ (∀ z ∈ zs, Wd z) ∧ Dk H' d c ∧ Kp d c H6 H') ?_ (fun i H7 hi h7 => ?_) (fun H7 h7 => ?_)
      · exact ⟨[], upd_same, rfl, fun y hy => absurd hy List.not_mem_nil, hD6.same (same_upd nD'), kpSame (same_upd nD')⟩
      · obtain ⟨zs, g1, g2, g3, g4, g5⟩ := h7
        have last : ∀ z : Str, Wd z → ∃ acc, H7 D2 = some (.lst acc) ∧ acc.length < sizeLine ∧ ∃ zs : List Str, upd H7 D2 (.lst (acc ++ [V.str z])) D2 = some (.lst (zs.map V.str)) ∧ zs.length = i + 1 ∧ (∀ z ∈ zs, Wd z) ∧ Dk (upd H7 D2 (.lst (acc ++ [V.str z]))) d c ∧ Kp d c H6 (upd H7 D2 (.lst (acc ++ [V.str z]))) := fun z hz => by
          refine ⟨_, g1, ?_, zs ++ [z], ?_, ?_, ?_, ?_, ?_⟩
          · rw [List.length_map, g2]
            exact Nat.lt_of_lt_of_le hi (Nat.le_trans hm (by decide))
          · rw [upd_same, List.map_append]
            rfl
          · rw [List.length_append, g2]
            rfl
          · intro y hy
            rcases List.mem_append.mp hy with h | h
            · exact g3 y h
            · rw [List.mem_singleton.mp h]
              exact hz
          · obtain ⟨ns, s', n', q1, q2, q3⟩ := g4
            exact ⟨ns, s', n', by rw [upd_ne nD3.symm]; exact q1, by rw [upd_ne nD4.symm]; exact q2, q3⟩
          · intro b o h1 h2 e
            by_cases hb : b = D2
            · rw [hb, nD'] at e
              cases e
            · rw [upd_ne hb]
              exact g5 _ _ h1 h2 e
        have m0 := Int.emod_nonneg (turn + 5 * (0 + (i : Int))) (show (12 : Int) ≠ 0 by decide)
        have m1' := Int.emod_lt_of_pos (turn + 5 * (0 + (i : Int))) (show (0 : Int) < 12 by decide)
        obtain ⟨z, hz1, hz2⟩ := kind_at m0 m1'
        refine ⟨rfl, yes ?_⟩
        exact ⟨.ref kl, rfl, .int turn, rfl, _, rfl, 5, _, rfl, rfl, .inl ⟨by decide, by decide⟩, turn, _, rfl, rfl, _, 12, rfl, rfl, (by show (0 : Int) < 12; decide), kl, _, _, _, rfl, rfl, .inl (.inl (g5 _ _ nk1 nk2 hk6)), hz1, last z hz2⟩
      · obtain ⟨zs, g1, g2, g3, g4, g5⟩ := h7
        exact q H7 D2 zs g4 (kq6.trans g5) (free6 D2 nD3 nD4 nD') nD3 nD4 g1 g2 g3
    refine ⟨.int mode, rfl, rfl, _, rfl, ite2 (fun _ => ?_) (fun _ => ?_)⟩
    · refine ⟨.int m, rfl, _, _, rfl, rfl, _, rfl, ?_⟩
      refine ite2 (fun _ => ?_) (fun e => absurd (decide_eq_true (show (m : Int) < 9 by omega)) e)
      · refine ⟨.int m, rfl, m, rfl, by omega, by omega, fun D2 nD' => ?_⟩
        have nD3 := hD6.ne1 nD'
        have nD4 := hD6.ne2 nD'
        refine lc_range (lo := 0) (n := m) (fun i H' => ∃ zs : List Str, H' D2 = some (.lst (zs.map V.str)) ∧ zs.length = i ∧ (∀ z ∈ zs, Wd z) ∧ Dk H' d c ∧ Kp d c H6 H') ?_ (fun i H7 hi h7 => ?_) (fun H7 h7 => ?_)
        · exact ⟨[], upd_same, rfl, fun y hy => absurd hy List.not_mem_nil, hD6.same (same_upd nD'), kpSame (same_upd nD')⟩
        · obtain ⟨zs, g1, g2, g3, g4, g5⟩ := h7
          have last : ∀ z : Str, Wd z → ∃ acc, H7 D2 = some (.lst acc) ∧ acc.length < sizeLine ∧ ∃ zs : List Str, upd H7 D2 (.lst (acc ++ [V.str z])) D2 = some (.lst (zs.map V.str)) ∧ zs.length = i + 1 ∧ (∀ z ∈ zs, Wd z) ∧ Dk (upd H7 D2 (.lst (acc ++ [V.str z]))) d c ∧ Kp d c H6 (upd H7 D2 (.lst (acc ++ [V.str z]))) := fun z hz => by
            refine ⟨_, g1, ?_, zs ++ [z], ?_, ?_, ?_, ?_, ?_⟩
            · rw [List.length_map, g2]
              exact Nat.lt_of_lt_of_le hi (Nat.le_trans hm (by decide))
            · rw [upd_same, List.map_append]
              rfl
            · rw [List.length_append, g2]
              rfl
            · intro y hy
              rcases List.mem_append.mp hy with h | h
              · exact g3 y h
              · rw [List.mem_singleton.mp h]
                exact hz
            · obtain ⟨ns, s', n', q1, q2, q3⟩ := g4
              exact ⟨ns, s', n', by rw [upd_ne nD3.symm]; exact q1, by rw [upd_ne nD4.symm]; exact q2, q3⟩
            · intro b o h1 h2 e
              by_cases hb : b = D2
              · rw [hb, nD'] at e
                cases e
              · rw [upd_ne hb]
                exact g5 _ _ h1 h2 e
          refine ⟨rfl, yes ?_⟩
          refine ⟨_, rfl, _, rfl, 1, _, rfl, rfl, _, rfl, bse, rfl, ?_, last _ ?_⟩
          · rw [hb1]
            decide
          · refine ⟨?_, ?_, lt_cut hb2 _ _⟩
            · rw [len_cut, HT.sIx_none, hb1, show (1 + (0 + (i : Int))) = ((1 + i : Nat) : Int) by omega, HT.sIx_nat]
              omega
            · rw [len_cut, HT.sIx_none, hb1, show (1 + (0 + (i : Int))) = ((1 + i : Nat) : Int) by omega, HT.sIx_nat]
              omega
        · obtain ⟨zs, g1, g2, g3, g4, g5⟩ := h7
          exact q H7 D2 zs g4 (kq6.trans g5) (free6 D2 nD3 nD4 nD') nD3 nD4 g1 g2 g3
    · refine iteF ?_
      refine ⟨.int m, rfl, m, rfl, by omega, by omega, fun D2 nD' => ?_⟩
      have nD3 := hD6.ne1 nD'
      have nD4 := hD6.ne2 nD'
      refine lc_range (lo := 0) (n := m) (fun i H' => ∃ zs : List Str, H' D2 = some (.lst (zs.map V.str)) ∧ zs.length = i ∧ (∀ z ∈ zs, Wd z) ∧ Dk H' d c ∧ Kp d c H6 H') ?_ (fun i H7 hi h7 => ?_) (fun H7 h7 => ?_)
      · exact ⟨[], upd_same, rfl, fun y hy => absurd hy List.not_mem_nil, hD6.same (same_upd nD'), kpSame (same_upd nD')⟩
      · obtain ⟨zs, g1, g2, g3, g4, g5⟩ := h7
        have last : ∀ z : Str, Wd z → ∃ acc, H7 D2 = some (.lst acc) ∧ acc.length < sizeLine ∧ ∃ zs : List Str, upd H7 D2 (.lst (acc ++ [V.str z])) D2 = some (.lst (zs.map V.str)) ∧ zs.length = i + 1 ∧ (∀ z ∈ zs, Wd z) ∧ Dk (upd H7 D2 (.lst (acc ++ [V.str z]))) d c ∧ Kp d c H6 (upd H7 D2 (.lst (acc ++ [V.str z]))) := fun z hz => by
          refine ⟨_, g1, ?_, zs ++ [z], ?_, ?_, ?_, ?_, ?_⟩
          · rw [List.length_map, g2]
            exact Nat.lt_of_lt_of_le hi (Nat.le_trans hm (by decide))
          · rw [upd_same, List.map_append]
            rfl
          · rw [List.length_append, g2]
            rfl
          · intro y hy
            rcases List.mem_append.mp hy with h | h
            · exact g3 y h
            · rw [List.mem_singleton.mp h]
              exact hz
          · obtain ⟨ns, s', n', q1, q2, q3⟩ := g4
            exact ⟨ns, s', n', by rw [upd_ne nD3.symm]; exact q1, by rw [upd_ne nD4.symm]; exact q2, q3⟩
          · intro b o h1 h2 e
            by_cases hb : b = D2
            · rw [hb, nD'] at e
              cases e
            · rw [upd_ne hb]
              exact g5 _ _ h1 h2 e
        have m0 := Int.emod_nonneg (turn + 7 * (0 + (i : Int))) (show (26 : Int) ≠ 0 by decide)
        have m1' := Int.emod_lt_of_pos (turn + 7 * (0 + (i : Int))) (show (0 : Int) < 26 by decide)
        obtain ⟨ch, hz1, hz2⟩ := letter_at m0 m1'
        have l1 : (cutS bse none (some at6)).length = at6.toNat := by
          rw [len_cut, HT.sIx_none, hb1, show at6 = ((at6.toNat : Nat) : Int) by omega, HT.sIx_nat]
          omega
        have l2 : (cutS bse (some (at6 + 1)) (some (1 + r))).length = (1 + r).toNat - (at6 + 1).toNat := by
          rw [len_cut, hb1, show at6 + 1 = (((at6 + 1).toNat : Nat) : Int) by omega, show 1 + r = (((1 + r).toNat : Nat) : Int) by omega, HT.sIx_nat, HT.sIx_nat]
          omega
        have l3 : (⟨#[ch]⟩ : Str).length = 1 := rfl
        refine ⟨rfl, yes ?_⟩
        refine ⟨_, rfl, _, rfl, at6, rfl, bse, rfl, ?_, .str letters, rfl, .int turn, rfl, _, rfl, 7, _, rfl, rfl, .inl ⟨by decide, by decide⟩, turn, _, rfl, rfl, _, 26, rfl, rfl, (by show (0 : Int) < 26; decide), letters, _, ch, rfl, rfl, (by decide +kernel), hz1, _, _, rfl, rfl, ?_, _, rfl, _, rfl, at6, 1, rfl, rfl, _, rfl, _, rfl, 1 + r, rfl, bse, rfl, ?_, _, _, rfl, rfl, ?_, last _ ⟨?_, ?_, ?_⟩⟩
        · rw [hb1]
          decide
        · rw [l1, l3]
          exact Nat.le_trans (show at6.toNat + 1 ≤ 100 by omega) (by decide)
        · rw [hb1]
          decide
        · rw [strLen_append, l1, l2, l3]
          exact Nat.le_trans (show at6.toNat + 1 + ((1 + r).toNat - (at6 + 1).toNat) ≤ 100 by omega) (by decide)
        · rw [strLen_append, strLen_append, l1, l2, l3]
          omega
        · rw [strLen_append, strLen_append, l1, l2, l3]
          omega
        · exact lt_app (lt_app (lt_cut hb2 _ _) (lt_one hz2)) (lt_cut hb2 _ _)
      · obtain ⟨zs, g1, g2, g3, g4, g5⟩ := h7
        exact q H7 D2 zs g4 (kq6.trans g5) (free6 D2 nD3 nD4 nD') nD3 nD4 g1 g2 g3
end
end Ksec

set_option Elab.async false
set_option linter.all false
set_option maxRecDepth 100000
set_option maxHeartbeats 4000000
namespace Ksec
open PySem PySem.Spec PyProof.Rows L2
abbrev sNumber : Stmt := topS 24
abbrev sTip : Stmt := topS 25
abbrev sTerm : Stmt := topS 26
abbrev sAny : Stmt := topS 27
theorem scNumber : FnScope ["_law_deck_here", "_law_far_here"] ["_law_deck_here"] (defScope sNumber) := ⟨rfl, rfl, rfl, by decide +kernel, rfl, by decide +kernel, by decide +kernel⟩
theorem scTip : FnScope ["_law_deck_here", "_law_words", "_law_unknowns", "_law_kind"] ["_law_deck_here", "_law_words", "_law_unknowns"] (defScope sTip) := ⟨rfl, rfl, rfl, by decide +kernel, rfl, by decide +kernel, by decide +kernel⟩
theorem scTerm : FnScope ["_law_deck_here", "_law_words", "_law_unknowns", "_law_deep", "_law_left", "_law_kind", "_law_head"] ["_law_deck_here", "_law_words", "_law_unknowns", "_law_deep", "_law_left"] (defScope sTerm) :=
  ⟨rfl, rfl, rfl, by decide +kernel, rfl, by decide +kernel, by decide +kernel⟩
theorem scAny : FnScope ["_law_deck_here", "_law_words", "_law_unknowns", "_law_kind", "_law_term_here", "_law_k", "_law_tip_here"] ["_law_deck_here", "_law_words", "_law_unknowns"] (defScope sAny) :=
  ⟨rfl, rfl, rfl, by decide +kernel, rfl, by decide +kernel, by decide +kernel⟩
theorem item_at {xs : List V} {i : Int} (h0 : 0 ≤ i) (h1 : i < xs.length) : ∃ v, v ∈ xs ∧ atI xs i = some v := by
  have hl : i.toNat < xs.length := by omega
  refine ⟨xs[i.toNat], List.getElem_mem hl, ?_⟩
  have := atI_nat (List.getElem?_eq_getElem hl)
  rw [show ((i.toNat : Nat) : Int) = i by omega] at this
  exact this
theorem Dk.lists {d c : Addr} {H : Hp} (h : Dk H d c) : (∃ xs, H d = some (.lst xs)) ∧ ∃ xs, H c = some (.lst xs) := let ⟨_, _, _, h1, h2, _⟩ := h; ⟨⟨_, h1⟩, ⟨_, h2⟩⟩
theorem kpTup {d c : Addr} {H H' : Hp} (h : Dk H d c) (k : Kp d c H H') : Tup H H' := fun b xs e => by
  obtain ⟨⟨x1, h1⟩, ⟨x2, h2⟩⟩ := h.lists
  exact k b _ (ne_of e h1 (by intro z; cases z)) (ne_of e h2 (by intro z; cases z)) e
section
variable {P : Program} {w : World} {K : PySem.W.Frag} {mg : Str → Option Value} {base : Heap}
def spNumber : Sp := fun vs H Q _ => ∃ (d c : Addr), vs = [.ref d] ∧ Dk H d c ∧ ∀ H' i, Dk H' d c → Kp d c H H' → i.natAbs ≤ 1000000000000 → Q (.int i) H'
theorem ok_number {f fD : Addr} {fd fdD : FuncData} {k : Nat} (F : Fun K "_law_number" "_law_number" sNumber f fd) (GD : FnOk P w K mg base CX0 (k + 1) fD fdD ["_law_deck_here", "_law_many"] spDraw) (bD : Binds K fdD ["_law_deck_here", "_law_many"] [])
    (gD : mg "_law_draw" = some (.ref fD)) (kD : PySem.W.keepIn K (.ref fD) = true) : FnOk P w K mg base CX0 (k + 2) f fd ["_law_deck_here"] spNumber := by
  refine F.ok scNumber (fun vs H Q E h => ?_) (fun cdv A outer s H vs Q E hr h => ?_)
  · obtain ⟨d, c, rfl, _⟩ := h
    rfl
  · obtain ⟨d, c, rfl, hD, q⟩ := h
    refine ⟨_, pss_cons (ps_set (i := 1) scNumber.nd rfl (.inl rfl) (pe_op op_add (pe_op op_mul (pe_call GD hr (by rfl) gD kD bD .nil pass0 (pa_cons (pv 0) (pa_cons (pe_op op_pow pe_int pe_int) pa_nil))) (pe_op op_pow pe_int pe_int))
        (pe_call GD hr (by rfl) gD kD bD .nil pass0 (pa_cons (pv 0) (pa_cons (pe_op op_pow pe_int pe_int) pa_nil)))))
      (pss_one (ps_ret (pe_ix ix_list (pe_lst (pa_cons pe_int (pa_cons pe_int (pa_cons pe_int (pa_cons pe_int (pa_cons pe_int (pa_cons pe_int (pa_cons pe_int (pa_cons (pe_un un_neg pe_int) (pa_cons (pe_un un_neg pe_int)
        (pa_cons (pe_op op_pow pe_int pe_int) (pa_cons (pv 1) (pa_cons (pe_op op_sub pe_int (pv 1)) pa_nil)))))))))))))
        (pe_call GD hr (by rfl) gD kD bD .nil pass0 (pa_cons (pv 0) (pa_cons pe_int pa_nil))) (fun _ _ => rfl)))), ?_⟩
    refine ⟨.ref d, rfl, 10, 6, rfl, rfl, ⟨by decide, by decide, by decide⟩, d, c, _, rfl, hD, by decide, by decide, fun H1 a hD1 kp1 a0 a1 => ?_⟩
    refine ⟨10, 6, rfl, rfl, ⟨by decide, by decide, by decide⟩, a, _, rfl, rfl, .inr ⟨by decide, by decide⟩, ?_⟩
    refine ⟨.ref d, rfl, 10, 6, rfl, rfl, ⟨by decide, by decide, by decide⟩, d, c, _, rfl, hD1, by decide, by decide, fun H2 b hD2 kp2 b0 b1 => ?_⟩
    have a2 : a < 1000000 := a1
    have b2 : b < 1000000 := b1
    refine ⟨_, b, rfl, rfl, ?_⟩
    refine ⟨1, rfl, 10, rfl, 10, 12, rfl, rfl, ⟨by decide, by decide, by decide⟩, _, rfl, _, rfl, 0, _, rfl, rfl, (by show 12 ≤ sizeLine; decide), fun p np => ?_⟩
    have n1 := hD2.ne1 np
    have n2 := hD2.ne2 np
    refine ⟨.ref d, rfl, d, c, 12, rfl, hD2.same (same_upd np), by decide, by decide, fun H3 r hD3 kp3 r0 r1 => ?_⟩
    have hp : H3 p = some (.lst (([0, 1, 2, 9, 10, 99, 100, -1, -10, 10 ^ (12 : Int).toNat, a * 10 ^ (6 : Int).toNat + b, 0 - (a * 10 ^ (6 : Int).toNat + b)] : List Int).map V.int)) := kp3 _ _ n1 n2 upd_same
    obtain ⟨v, hv, ev⟩ := item_at (xs := ([0, 1, 2, 9, 10, 99, 100, -1, -10, 10 ^ (12 : Int).toNat, a * 10 ^ (6 : Int).toNat + b, 0 - (a * 10 ^ (6 : Int).toNat + b)] : List Int).map V.int) r0 r1
    obtain ⟨i, hi, rfl⟩ := List.mem_map.mp hv
    refine ⟨p, _, r, _, rfl, rfl, .inl (.inl hp), ev, q H3 i hD3 (kp1.trans (kp2.trans ((kpSame (same_upd np)).trans kp3))) ?_⟩
    have e12 : (10 : Int) ^ (12 : Int).toNat = 1000000000000 := rfl
    have e6 : (10 : Int) ^ (6 : Int).toNat = 1000000 := rfl
    rw [e12, e6] at hi
    simp only [List.mem_cons, List.not_mem_nil, or_false] at hi
    omega
def Tip (t : Tm) : Prop := t.ok ∧ t.depth = 1 ∧ t.size = 1
/-- the words at wl, the unknowns' numbers at ul -/
structure Src (H : Hp) (d c wl ul : Addr) (zs : List Str) (us : List Int) : Prop where
  w : H wl = some (.lst (zs.map V.str))
  u : H ul = some (.lst (us.map V.int))
  w1 : wl ≠ d
  w2 : wl ≠ c
  u1 : ul ≠ d
  u2 : ul ≠ c
  wd : ∀ z ∈ zs, Wd z
  zn : 0 < zs.length
  zl : zs.length ≤ 100
  ul : us.length ≤ 100
  ub : ∀ n ∈ us, 0 ≤ n ∧ n ≤ 999
theorem Src.keep {H H' : Hp} {d c wl ul : Addr} {zs : List Str} {us : List Int} (S : Src H d c wl ul zs us) (k : Kp d c H H') : Src H' d c wl ul zs us :=
  ⟨k _ _ S.w1 S.w2 S.w, k _ _ S.u1 S.u2 S.u, S.w1, S.w2, S.u1, S.u2, S.wd, S.zn, S.zl, S.ul, S.ub⟩
def spTip : Sp := fun vs H Q _ => ∃ (d c wl ul : Addr) (zs : List Str) (us : List Int), vs = [.ref d, .ref wl, .ref ul] ∧ Dk H d c ∧ Src H d c wl ul zs us ∧ ∀ H' x t, Dk H' d c → Kp d c H H' → IsTm H' x t → Tip t → Q x H'
theorem ok_tip {f fD fN : Addr} {fd fdD fdN : FuncData} {k : Nat} (F : Fun K "_law_tip" "_law_tip" sTip f fd) (GD : FnOk P w K mg base CX0 (k + 1) fD fdD ["_law_deck_here", "_law_many"] spDraw) (bD : Binds K fdD ["_law_deck_here", "_law_many"] [])
    (gD : mg "_law_draw" = some (.ref fD)) (kD : PySem.W.keepIn K (.ref fD) = true) (GN : FnOk P w K mg base CX0 (k + 2) fN fdN ["_law_deck_here"] spNumber) (bN : Binds K fdN ["_law_deck_here"] [])
    (gN : mg "_law_number" = some (.ref fN)) (kN : PySem.W.keepIn K (.ref fN) = true) (ml : mg "len" = none) : FnOk P w K mg base CX0 (k + 3) f fd ["_law_deck_here", "_law_words", "_law_unknowns"] spTip := by
  refine F.ok scTip (fun vs H Q E h => ?_) (fun cdv A outer s H vs Q E hr h => ?_)
  · obtain ⟨d, c, wl, ul, zs, us, rfl, _⟩ := h
    rfl
  · obtain ⟨d, c, wl, ul, zs, us, rfl, hD, S, q⟩ := h
    have hr1 := hr.mono (show k + 1 ≤ k + 2 by omega)
    refine ⟨_, pss_cons (ps_set (i := 3) scTip.nd rfl (.inl rfl) (pe_call GD hr1 (by rfl) gD kD bD .nil pass0 (pa_cons (pv 0) (pa_cons pe_int pa_nil))))
      (pss_cons (ps_if (PW.pt (pw_and (pt_cmpR op_lt (pv 3) pe_int (nomark _)) (pw_and1 (pt_cmpR (op_neD hr.units) (pv 2) (pe_lst pa_nil) (nomark _)))))
        (pss_one (ps_ret (pe_tup (pa_cons pe_str (pa_cons (pe_ix ix_list (pv 2) (pe_call GD hr1 (by rfl) gD kD bD .nil pass0 (pa_cons (pv 0) (pa_cons (pe_callB call_len_seq (by rfl) ml PySem.boot_len (pa_cons (pv 2) pa_nil)) pa_nil))) (fun _ _ => rfl)) pa_nil))))) pss_nil)
      (pss_cons (ps_if (pt_cmpR op_eq (pv 3) pe_int (nomark _)) (pss_one (ps_ret (pe_tup pa_nil))) pss_nil)
      (pss_cons (ps_if (pt_cmpR op_lt (pv 3) pe_int (nomark _))
        (pss_one (ps_ret (pe_ix ix_list (pv 1) (pe_call GD hr1 (by rfl) gD kD bD .nil pass0 (pa_cons (pv 0) (pa_cons (pe_callB call_len_seq (by rfl) ml PySem.boot_len (pa_cons (pv 1) pa_nil)) pa_nil))) (fun _ _ => rfl)))) pss_nil)
      (pss_one (ps_ret (pe_call GN hr (by rfl) gN kN bN .nil pass0 (pa_cons (pv 0) pa_nil))))))), ?_⟩
    refine ⟨.ref d, rfl, d, c, 8, rfl, hD, by decide, by decide, fun H1 kd hD1 kp1 b0 b1 => ?_⟩
    have S1 := S.keep kp1
    refine ⟨.int kd, rfl, _, _, rfl, rfl, _, rfl, ite2 (fun _ => ?_) (fun _ => ?_)⟩
    · refine ⟨.ref ul, rfl, Nat.zero_le _, fun p np => ?_⟩
      have s2 : Same H1 (upd H1 p (.lst [])) := same_upd np
      have hD2 := hD1.same s2
      have kq2 : Kp d c H (upd H1 p (.lst [])) := kp1.trans (kpSame s2)
      have S2 : Src (upd H1 p (.lst [])) d c wl ul zs us := S1.keep (kpSame s2)
      refine ⟨.list (us.map .int), .list (([] : List Int).map .int), .lst (.inl (.inl S2.u)) (dpInts _), .lst (.inl (.inl upd_same)) .nil, shpL _, shpL _, _, rfl, ?_⟩
      rw [eqvL]
      generalize upd H1 p (.lst []) = H2 at *
      by_cases hus : us = []
      · rw [decide_eq_true hus]
        refine iteF ?_
        refine ⟨.int kd, rfl, rfl, _, rfl, ite2 (fun _ => ?_) (fun _ => ?_)⟩
        · exact ⟨Nat.zero_le _, fun p np => q _ _ _ (hD2.same (same_upd np)) (kq2.trans (kpSame (same_upd np))) (.nil upd_same) ⟨True.intro, rfl, rfl⟩⟩
        refine ⟨.int kd, rfl, _, _, rfl, rfl, _, rfl, ite2 (fun _ => ?_) (fun _ => ?_)⟩
        · have zn := S2.zn
          have zl := S2.zl
          refine ⟨.ref wl, rfl, .ref d, rfl, .ref wl, rfl, wl, _, rfl, .inl (.inl (.inl S2.w)), d, c, _, rfl, hD2, ?_, ?_, fun H3 r hD3 kp3 r0 r1 => ?_⟩
          · rw [List.length_map]
            omega
          · rw [List.length_map]
            exact Nat.lt_of_le_of_lt (show zs.length ≤ 100 by omega) (by decide)
          obtain ⟨v, hv, ev⟩ := item_at (xs := zs.map V.str) r0 r1
          obtain ⟨z, hz, rfl⟩ := List.mem_map.mp hv
          exact ⟨wl, _, r, _, rfl, rfl, .inl (.inl (S2.keep kp3).w), ev, q H3 _ _ hD3 (kq2.trans kp3) (.wrd z) ⟨S.wd z hz, rfl, rfl⟩⟩
        · exact ⟨.ref d, rfl, d, c, rfl, hD2, fun H3 i hD3 kp3 hi => q H3 _ _ hD3 (kq2.trans kp3) (.int i) ⟨Nat.lt_of_le_of_lt hi (by decide +kernel), rfl, rfl⟩⟩
      · rw [decide_eq_false hus]
        refine iteT ?_
        have un : 0 < us.length := List.length_pos_iff.mpr hus
        have ul' := S2.ul
        refine ⟨.ref ul, rfl, .ref d, rfl, .ref ul, rfl, ul, _, rfl, .inl (.inl (.inl S2.u)), d, c, _, rfl, hD2, ?_, ?_, fun H3 r hD3 kp3 r0 r1 => ?_⟩
        · rw [List.length_map]
          omega
        · rw [List.length_map]
          exact Nat.lt_of_le_of_lt (show us.length ≤ 100 by omega) (by decide)
        obtain ⟨v, hv, ev⟩ := item_at (xs := us.map V.int) r0 r1
        obtain ⟨n, hn, rfl⟩ := List.mem_map.mp hv
        refine ⟨ul, _, r, _, rfl, rfl, .inl (.inl (S2.keep kp3).u), ev, (by show 2 ≤ sizeLine; decide), fun p2 np2 => ?_⟩
        exact q _ _ _ (hD3.same (same_upd np2)) (kq2.trans (kp3.trans (kpSame (same_upd np2)))) (.unk upd_same) ⟨⟨(S.ub n hn).1, by have := (S.ub n hn).2; omega⟩, rfl, rfl⟩
    · refine iteF ?_
      have hD2 := hD1
      have kq2 := kp1
      have S2 := S1
      refine ⟨.int kd, rfl, rfl, _, rfl, ite2 (fun _ => ?_) (fun _ => ?_)⟩
      · exact ⟨Nat.zero_le _, fun p np => q _ _ _ (hD2.same (same_upd np)) (kq2.trans (kpSame (same_upd np))) (.nil upd_same) ⟨True.intro, rfl, rfl⟩⟩
      refine ⟨.int kd, rfl, _, _, rfl, rfl, _, rfl, ite2 (fun _ => ?_) (fun _ => ?_)⟩
      · have zn := S2.zn
        have zl := S2.zl
        refine ⟨.ref wl, rfl, .ref d, rfl, .ref wl, rfl, wl, _, rfl, .inl (.inl (.inl S2.w)), d, c, _, rfl, hD2, ?_, ?_, fun H3 r hD3 kp3 r0 r1 => ?_⟩
        · rw [List.length_map]
          omega
        · rw [List.length_map]
          exact Nat.lt_of_le_of_lt (show zs.length ≤ 100 by omega) (by decide)
        obtain ⟨v, hv, ev⟩ := item_at (xs := zs.map V.str) r0 r1
        obtain ⟨z, hz, rfl⟩ := List.mem_map.mp hv
        exact ⟨wl, _, r, _, rfl, rfl, .inl (.inl (S2.keep kp3).w), ev, q H3 _ _ hD3 (kq2.trans kp3) (.wrd z) ⟨S.wd z hz, rfl, rfl⟩⟩
      · exact ⟨.ref d, rfl, d, c, rfl, hD2, fun H3 i hD3 kp3 hi => q H3 _ _ hD3 (kq2.trans kp3) (.int i) ⟨Nat.lt_of_le_of_lt hi (by decide +kernel), rfl, rfl⟩⟩
end
end Ksec

set_option Elab.async false
set_option linter.all false
set_option maxRecDepth 100000
set_option maxHeartbeats 4000000
namespace Ksec
open PySem PySem.Spec PyProof.Rows L2
/-- all but the deck and the list at e stays -/
def Kq (d c e : Addr) (H H' : Hp) : Prop := ∀ b o, b ≠ d → b ≠ c → b ≠ e → H b = some o → H' b = some o
theorem Kq.trans {d c e : Addr} {H H1 H2 : Hp} (a : Kq d c e H H1) (b : Kq d c e H1 H2) : Kq d c e H H2 := fun x o h1 h2 h3 r => b x o h1 h2 h3 (a x o h1 h2 h3 r)
theorem kqOf {d c e : Addr} {H H1 : Hp} (a : Kp d c H H1) : Kq d c e H H1 := fun x o h1 h2 _ r => a x o h1 h2 r
theorem kqTup {d c e : Addr} {H H' : Hp} {L : Int} (h : Dk H d c) (hl : H e = some (.lst [.int L])) (k : Kq d c e H H') : Tup H H' := fun b xs r => by
  obtain ⟨⟨x1, h1⟩, ⟨x2, h2⟩⟩ := h.lists
  exact k b _ (ne_of r h1 (by intro z; cases z)) (ne_of r h2 (by intro z; cases z)) (ne_of r hl (by intro z; cases z)) r
theorem Src.keepq {H H' : Hp} {d c e wl ul : Addr} {zs : List Str} {us : List Int} (S : Src H d c wl ul zs us) (h1 : wl ≠ e) (h2 : ul ≠ e) (k : Kq d c e H H') : Src H' d c wl ul zs us :=
  ⟨k _ _ S.w1 S.w2 h1 S.w, k _ _ S.u1 S.u2 h2 S.u, S.w1, S.w2, S.u1, S.u2, S.wd, S.zn, S.zl, S.ul, S.ub⟩
/-- what a drawn term is, by its depth and how much of the budget it took -/
def Drawn (n : Nat) (L L' : Int) (t : Tm) : Prop := t.ok ∧ t.depth ≤ max 1 n ∧ (t.size : Int) + L' ≤ L + 1 ∧ 0 ≤ L'
section
variable {P : Program} {w : World} {K : PySem.W.Frag} {mg : Str → Option Value} {base : Heap}
def spTerm (n : Nat) : Sp := fun vs H Q _ => ∃ (d c wl ul e : Addr) (zs : List Str) (us : List Int) (dp L : Int), vs = [.ref d, .ref wl, .ref ul, .int dp, .ref e] ∧ Dk H d c ∧ Src H d c wl ul zs us ∧
  H e = some (.lst [.int L]) ∧ e ≠ d ∧ e ≠ c ∧ wl ≠ e ∧ ul ≠ e ∧ dp ≤ n ∧ 0 ≤ L ∧
  ∀ H' x t L', Dk H' d c → Kq d c e H H' → H' e = some (.lst [.int L']) → IsTm H' x t → Drawn n L L' t → Q x H'
def spTermP : Nat → Sp
  | 0 => fun _ _ _ _ => False
  | n + 1 => spTerm n
abbrev psTerm : List Str := ["_law_deck_here", "_law_words", "_law_unknowns", "_law_deep", "_law_left"]
theorem ok_term1 {f fD fT : Addr} {fd fdD fdT : FuncData} {k n : Nat} (F : Fun K "_law_term" "_law_term" sTerm f fd) (GD : FnOk P w K mg base CX0 (k + 1) fD fdD ["_law_deck_here", "_law_many"] spDraw) (bD : Binds K fdD ["_law_deck_here", "_law_many"] [])
    (gD : mg "_law_draw" = some (.ref fD)) (kD : PySem.W.keepIn K (.ref fD) = true) (GT : FnOk P w K mg base CX0 (k + 3) fT fdT ["_law_deck_here", "_law_words", "_law_unknowns"] spTip) (bT : Binds K fdT ["_law_deck_here", "_law_words", "_law_unknowns"] [])
    (gT : mg "_law_tip" = some (.ref fT)) (kT : PySem.W.keepIn K (.ref fT) = true) (mi : mg "int" = none) (G : FnOk P w K mg base CX0 (k + 3 + n) f fd psTerm (spTermP n)) (b : Binds K fd psTerm []) (g : mg "_law_term" = some (.ref f)) : FnOk P w K mg base CX0 (k + 4 + n) f fd psTerm (spTerm n) := by
  rw [show k + 4 + n = k + 3 + n + 1 by omega]
  refine F.ok scTerm (fun vs H Q E h => ?_) (fun cdv A outer s H vs Q E hr h => ?_)
  · obtain ⟨d, c, wl, ul, e, zs, us, dp, L, rfl, _⟩ := h
    rfl
  · obtain ⟨d, c, wl, ul, e, zs, us, dp, L, rfl, hD, S, hL, e1, e2, e3, e4, hdp, hL0, q⟩ := h
    have hr1 := hr.mono (show k + 1 ≤ k + 3 + n by omega)
    have hr2 := hr.mono (show k + 3 ≤ k + 3 + n by omega)
    refine ⟨_, pss_cons (ps_set (i := 5) scTerm.nd rfl (.inl rfl) (pe_call GD hr1 (by rfl) gD kD bD .nil pass0 (pa_cons (pv 0) (pa_cons pe_int pa_nil))))
      (pss_cons (ps_if (PW.pt (pw_or (pt_cmpR op_lt (pv 3) pe_int (nomark _)) (pw_or (pt_cmpR op_lt (pe_ix ix_list (pv 4) pe_int (fun _ _ => rfl)) pe_int (nomark _)) (pw_or1 (pt_cmpR op_eq (pv 5) pe_int (nomark _))))))
        (pss_one (ps_ret (pe_call GT hr2 (by rfl) gT kT bT .nil pass0 (pa_cons (pv 0) (pa_cons (pv 1) (pa_cons (pv 2) pa_nil)))))) pss_nil)
      (pss_cons (ps_asg (pe_op op_sub (pe_ix ix_list (pv 4) pe_int (fun _ _ => rfl)) pe_int) (pg_sub (pv 4) pe_int set_list))
      (pss_cons (ps_set (i := 6) scTerm.nd rfl (.inl rfl) (pe_call G hr (by rfl) g F.kp b .nil pass0 (pa_cons (pv 0) (pa_cons (pv 1) (pa_cons (pv 2)
          (pa_cons (pe_ix ix_list (pe_lst (pa_cons (pe_op op_sub (pv 3) pe_int) (pa_cons pe_int pa_nil))) (pe_callTy call_int1 (by rfl) mi (by decide +kernel) (pa_cons (pe_cmpR op_eq (pv 5) pe_int (nomark _)) pa_nil)) (fun _ _ => rfl)) (pa_cons (pv 4) pa_nil)))))))
      (pss_one (ps_ret (pe_tup (pa_cons (pv 6) (pa_cons (pe_call G hr (by rfl) g F.kp b .nil pass0 (pa_cons (pv 0) (pa_cons (pv 1) (pa_cons (pv 2) (pa_cons (pe_op op_sub (pv 3) pe_int) (pa_cons (pv 4) pa_nil)))))) pa_nil)))))))), ?_⟩
    refine ⟨.ref d, rfl, d, c, 5, rfl, hD, by decide, by decide, fun H1 kd hD1 kp1 b0 b1 => ?_⟩
    have S1 := S.keep kp1
    have hL1 := kp1 _ _ e1 e2 hL
    have tip : spTip [.ref d, .ref wl, .ref ul] H1 Q E0 := ⟨d, c, wl, ul, zs, us, rfl, hD1, S1, fun H2 x t hD2 kp2 hx ht => q H2 x t L hD2 (kqOf (kp1.trans kp2)) (kp2 _ _ e1 e2 hL1) hx ⟨ht.1, by rw [ht.2.1]; omega, by rw [ht.2.2]; omega, hL0⟩⟩
    refine ⟨.int dp, rfl, _, _, rfl, rfl, _, rfl, ite2 (fun _ => ?_) (fun h1 => ?_)⟩
    · exact iteT ⟨.ref d, rfl, .ref wl, rfl, .ref ul, rfl, tip⟩
    refine ⟨.ref e, rfl, e, _, 0, .int L, rfl, rfl, .inl (.inl hL1), atI_nat (j := 0) rfl, _, _, rfl, rfl, _, rfl, ite2 (fun _ => ?_) (fun h2 => ?_)⟩
    · exact iteT ⟨.ref d, rfl, .ref wl, rfl, .ref ul, rfl, tip⟩
    refine ⟨.int kd, rfl, rfl, _, rfl, ite2 (fun _ => ?_) (fun h3 => ?_)⟩
    · exact ⟨.ref d, rfl, .ref wl, rfl, .ref ul, rfl, tip⟩
    have g1 : 2 ≤ dp := by
      have : ¬ dp < 2 := fun z => h1 (decide_eq_true z)
      omega
    have g2 : 2 ≤ L := by
      have : ¬ L < 2 := fun z => h2 (decide_eq_true z)
      omega
    cases n with
    | zero => exact absurd hdp (by omega)
    | succ m =>
      refine ⟨.ref e, rfl, e, _, 0, .int L, rfl, rfl, .inl (.inl hL1), atI_nat (j := 0) rfl, L, 2, rfl, rfl, .ref e, rfl, e, _, 0, 0, rfl, rfl, hL1, rfl, ?_⟩
      have hL2 : upd H1 e (.lst ([.int L].set 0 (.int (L - 2)))) e = some (.lst [.int (L - 2)]) := upd_same
      have kq2 : Kq d c e H1 (upd H1 e (.lst ([.int L].set 0 (.int (L - 2))))) := fun x o _ _ h3 r => by
        rw [upd_ne h3]
        exact r
      have hD2 : Dk (upd H1 e (.lst ([.int L].set 0 (.int (L - 2))))) d c := by
        obtain ⟨ns, s', n', q1, q2, q3⟩ := hD1
        exact ⟨ns, s', n', by rw [upd_ne e1.symm]; exact q1, by rw [upd_ne e2.symm]; exact q2, q3⟩
      have S2 := S1.keepq e3 e4 kq2
      generalize upd H1 e (.lst ([.int L].set 0 (.int (L - 2)))) = H2 at *
      refine ⟨.ref d, rfl, .ref wl, rfl, .ref ul, rfl, .int dp, rfl, dp, 1, rfl, rfl, (by show 2 ≤ sizeLine; decide), fun p np => ?_⟩
      have s3 : Same H2 (upd H2 p (.lst [.int (dp - 1), .int 1])) := same_upd np
      obtain ⟨v, hv, ev⟩ : ∃ v : Int, v ≤ (m : Int) ∧ atI [V.int (dp - 1), V.int 1] (if decide (V.int kd = V.int 1) = true then 1 else 0) = some (.int v) := by
        cases decide (V.int kd = V.int 1) with
        | true => exact ⟨1, by omega, atI_nat (j := 1) rfl⟩
        | false => exact ⟨dp - 1, by omega, atI_nat (j := 0) rfl⟩
      have hL3 := s3 _ _ hL2
      have hD3 := hD2.same s3
      have S3 := S2.keep (kpSame s3)
      have kq3 : Kq d c e H (upd H2 p (.lst [.int (dp - 1), .int 1])) := (kqOf kp1).trans (kq2.trans (kqOf (kpSame s3)))
      have hp3 : upd H2 p (.lst [.int (dp - 1), .int 1]) p = some (.lst [.int (dp - 1), .int 1]) := upd_same
      generalize upd H2 p (.lst [.int (dp - 1), .int 1]) = H3 at *
      refine ⟨.int kd, rfl, rfl, .inr ⟨_, rfl, p, _, _, .int v, rfl, rfl, .inl (.inl hp3), ev, .ref e, rfl, ?_⟩⟩
      refine ⟨d, c, wl, ul, e, zs, us, v, L - 2, rfl, hD3, S3, hL3, e1, e2, e3, e4, hv, by omega, fun H4 x t L4 hD4 kq4 hL4 hx ht => ?_⟩
      obtain ⟨t1, t2, t3, t4⟩ := ht
      have S4 := S3.keepq e3 e4 kq4
      refine ⟨x, rfl, .ref d, rfl, .ref wl, rfl, .ref ul, rfl, .int dp, rfl, dp, 1, rfl, rfl, .ref e, rfl, d, c, wl, ul, e, zs, us, dp - 1, L4, rfl, hD4, S4, hL4, e1, e2, e3, e4, by omega, t4, fun H5 y u L5 hD5 kq5 hL5 hy hu => ⟨(by show 2 ≤ sizeLine; decide), fun a na => ?_⟩⟩
      obtain ⟨u1, u2, u3, u4⟩ := hu
      have s6 : Same H5 (upd H5 a (.tup [x, y])) := same_upd na
      refine q _ _ (.pair t u) L5 (hD5.same s6) (kq3.trans (kq4.trans (kq5.trans (kqOf (kpSame s6))))) (s6 _ _ hL5) (.pair upd_same ((hx.keep (kqTup hD4 hL4 kq5)).keep (sameTup s6)) (hy.keep (sameTup s6))) ⟨⟨t1, u1⟩, ?_, ?_, u4⟩
      · show max t.depth u.depth + 1 ≤ max 1 (m + 1)
        omega
      · show ((t.size + u.size + 1 : Nat) : Int) + L5 ≤ L + 1
        omega
theorem ok_term {f fD fT : Addr} {fd fdD fdT : FuncData} {k : Nat} (F : Fun K "_law_term" "_law_term" sTerm f fd) (GD : FnOk P w K mg base CX0 (k + 1) fD fdD ["_law_deck_here", "_law_many"] spDraw) (bD : Binds K fdD ["_law_deck_here", "_law_many"] [])
    (gD : mg "_law_draw" = some (.ref fD)) (kD : PySem.W.keepIn K (.ref fD) = true) (GT : FnOk P w K mg base CX0 (k + 3) fT fdT ["_law_deck_here", "_law_words", "_law_unknowns"] spTip) (bT : Binds K fdT ["_law_deck_here", "_law_words", "_law_unknowns"] [])
    (gT : mg "_law_tip" = some (.ref fT)) (kT : PySem.W.keepIn K (.ref fT) = true) (mi : mg "int" = none) (b : Binds K fd psTerm []) (g : mg "_law_term" = some (.ref f)) : ∀ n, FnOk P w K mg base CX0 (k + 4 + n) f fd psTerm (spTerm n)
  | 0 => ok_term1 (n := 0) F GD bD gD kD GT bT gT kT mi ⟨fun _ _ _ _ h => h.elim, fun _ _ _ _ _ _ _ _ _ _ _ _ _ h => h.elim⟩ b g
  | n + 1 => ok_term1 (n := n + 1) F GD bD gD kD GT bT gT kT mi (by
      have h := ok_term F GD bD gD kD GT bT gT kT mi b g n
      rw [show k + 3 + (n + 1) = k + 4 + n by omega]
      exact h) b g
end
end Ksec

set_option Elab.async false
set_option linter.all false
set_option maxRecDepth 100000
set_option maxHeartbeats 4000000
namespace Ksec
open PySem PySem.Spec PyProof.Rows L2
theorem kpBack {d c : Addr} {H H1 H2 : Hp} (a : Kp d c H H1) (e : Addr) (ne : H e = none) (k : Kq d c e H1 H2) : Kp d c H H2 := fun x o h1 h2 r => k x o h1 h2 (ne_of_none r ne) (a x o h1 h2 r)
theorem kpFree {d c p : Addr} {H H1 : Hp} (a : Kp d c H H1) (h1 : p ≠ d) (h2 : p ≠ c) (h : H1 p = none) : H p = none := by
  cases e : H p with
  | none => rfl
  | some o =>
    rw [a p o h1 h2 e] at h
    cases h
section
variable {P : Program} {w : World} {K : PySem.W.Frag} {mg : Str → Option Value} {base : Heap}
def spAny : Sp := fun vs H Q _ => ∃ (d c wl ul : Addr) (zs : List Str) (us : List Int), vs = [.ref d, .ref wl, .ref ul] ∧ Dk H d c ∧ Src H d c wl ul zs us ∧ ∀ H' x t, Dk H' d c → Kp d c H H' → IsTm H' x t → t.ok → t.depth ≤ 30 → t.size ≤ 200 → Q x H'
theorem ok_any {f fD fT fR : Addr} {fd fdD fdT fdR : FuncData} {k : Nat} (F : Fun K "_law_any_term" "_law_any_term" sAny f fd) (GD : FnOk P w K mg base CX0 (k + 1) fD fdD ["_law_deck_here", "_law_many"] spDraw) (bD : Binds K fdD ["_law_deck_here", "_law_many"] [])
    (gD : mg "_law_draw" = some (.ref fD)) (kD : PySem.W.keepIn K (.ref fD) = true) (GT : FnOk P w K mg base CX0 (k + 3) fT fdT ["_law_deck_here", "_law_words", "_law_unknowns"] spTip) (bT : Binds K fdT ["_law_deck_here", "_law_words", "_law_unknowns"] [])
    (gT : mg "_law_tip" = some (.ref fT)) (kT : PySem.W.keepIn K (.ref fT) = true) (GR : ∀ n, FnOk P w K mg base CX0 (k + 4 + n) fR fdR psTerm (spTerm n)) (bR : Binds K fdR psTerm []) (gR : mg "_law_term" = some (.ref fR)) (kR : PySem.W.keepIn K (.ref fR) = true)
    (mr : mg "range" = none) : FnOk P w K mg base CX0 (k + 34) f fd ["_law_deck_here", "_law_words", "_law_unknowns"] spAny := by
  refine F.ok scAny (fun vs H Q E h => ?_) (fun cdv A outer s H vs Q E hr h => ?_)
  · obtain ⟨d, c, wl, ul, zs, us, rfl, _⟩ := h
    rfl
  · obtain ⟨d, c, wl, ul, zs, us, rfl, hD, S, q⟩ := h
    have hr1 := hr.mono (show k + 1 ≤ k + 33 by omega)
    have hr2 := hr.mono (show k + 3 ≤ k + 33 by omega)
    have G29 : FnOk P w K mg base CX0 (k + 33) fR fdR psTerm (spTerm 29) := GR 29
    refine ⟨_, pss_cons (ps_set (i := 3) scAny.nd rfl (.inl rfl) (pe_call GD hr1 (by rfl) gD kD bD .nil pass0 (pa_cons (pv 0) (pa_cons pe_int pa_nil))))
      (pss_cons (ps_if (pt_cmpR op_eq (pv 3) pe_int (nomark _)) (pss_one (ps_ret (pe_call G29 hr (by rfl) gR kR bR .nil pass0 (pa_cons (pv 0) (pa_cons (pv 1) (pa_cons (pv 2) (pa_cons pe_int (pa_cons (pe_lst (pa_cons pe_int pa_nil)) pa_nil)))))))) pss_nil)
      (pss_cons (ps_if (pt_cmpR op_gt (pv 3) pe_int (nomark _))
        (pss_cons (ps_set (i := 4) scAny.nd rfl (.inl rfl) (pe_call GT hr2 (by rfl) gT kT bT .nil pass0 (pa_cons (pv 0) (pa_cons (pv 1) (pa_cons (pv 2) pa_nil)))))
        (pss_cons (ps_for PassesOwn.never rfl (pi_range1 (by rfl) mr (pa_cons (pe_op op_add pe_int (pe_call GD hr1 (by rfl) gD kD bD .nil pass0 (pa_cons (pv 0) (pa_cons pe_int pa_nil)))) pa_nil)) (pg_name (i := 5) scAny.nd rfl (Or.inl rfl))
          (pss_cons (ps_set (i := 6) scAny.nd rfl (.inl rfl) (pe_call GT hr2 (by rfl) gT kT bT .nil pass0 (pa_cons (pv 0) (pa_cons (pv 1) (pa_cons (pv 2) pa_nil)))))
            (pss_one (ps_set (i := 4) scAny.nd rfl (.inl rfl) (pe_ix ix_list (pe_lst (pa_cons (pe_tup (pa_cons (pv 6) (pa_cons (pv 4) pa_nil))) (pa_cons (pe_tup (pa_cons (pv 4) (pa_cons (pv 6) pa_nil))) pa_nil))) (pe_op op_sub (pv 3) pe_int) (fun _ _ => rfl))))))
        (pss_one (ps_ret (pv 4))))) pss_nil)
      (pss_one (ps_ret (pe_call G29 hr (by rfl) gR kR bR .nil pass0 (pa_cons (pv 0) (pa_cons (pv 1) (pa_cons (pv 2)
        (pa_cons (pe_ix ix_list (pe_lst (pa_cons pe_int (pa_cons pe_int (pa_cons pe_int pa_nil)))) (pe_call GD hr1 (by rfl) gD kD bD .nil pass0 (pa_cons (pv 0) (pa_cons pe_int pa_nil))) (fun _ _ => rfl))
        (pa_cons (pe_lst (pa_cons (pe_ix ix_list (pe_lst (pa_cons pe_int (pa_cons pe_int (pa_cons pe_int pa_nil)))) (pe_call GD hr1 (by rfl) gD kD bD .nil pass0 (pa_cons (pv 0) (pa_cons pe_int pa_nil))) (fun _ _ => rfl)) pa_nil)) pa_nil)))))))))), ?_⟩
    refine ⟨.ref d, rfl, d, c, 8, rfl, hD, by decide, by decide, fun H1 kd hD1 kp1 b0 b1 => ?_⟩
    have S1 := S.keep kp1
    -- a term by a budget
    have trm : ∀ (H2 : Hp) (e : Addr) (dp L : Int), Dk H2 d c → Kp d c H H2 → H2 e = none → dp ≤ 29 → 0 ≤ L → L ≤ 116 → spTerm 29 [.ref d, .ref wl, .ref ul, .int dp, .ref e] (upd H2 e (.lst [.int L])) Q E0 := fun H2 e dp L hD2 kp2 ne h1 h2 h3 => by
      have s2 : Same H2 (upd H2 e (.lst [.int L])) := same_upd ne
      have S2 := (S.keep kp2).keep (kpSame s2)
      have n1 := hD2.ne1 ne
      have n2 := hD2.ne2 ne
      have kp3 := kp2.trans (kpSame s2)
      refine ⟨d, c, wl, ul, e, zs, us, dp, L, rfl, hD2.same s2, S2, upd_same, n1, n2, ?_, ?_, h1, h2, fun H4 x t L4 hD4 kq4 hL4 hx ht => ?_⟩
      · exact ne_of_none (S.keep kp2).w ne
      · exact ne_of_none (S.keep kp2).u ne
      · obtain ⟨t1, t2, t3, t4⟩ := ht
        exact q H4 x t hD4 (kpBack kp3 e (kpFree kp2 n1 n2 ne) kq4) hx t1 (by omega) (by omega)
    refine ⟨.int kd, rfl, rfl, _, rfl, ite2 (fun _ => ?_) (fun _ => ?_)⟩
    · exact ⟨.ref d, rfl, .ref wl, rfl, .ref ul, rfl, (by show 1 ≤ sizeLine; decide), fun e ne => trm H1 e 29 116 hD1 kp1 ne (by decide) (by decide) (by decide)⟩
    refine ⟨.int kd, rfl, _, _, rfl, rfl, _, rfl, ite2 (fun h5 => ?_) (fun _ => ?_)⟩
    · have k6 : 5 < kd := of_decide_eq_true h5
      refine ⟨.ref d, rfl, .ref wl, rfl, .ref ul, rfl, d, c, wl, ul, zs, us, rfl, hD1, S1, fun H2 x2 t2 hD2 kp2 hx2 ht2 => ?_⟩
      refine ⟨.ref d, rfl, d, c, 28, rfl, hD2, by decide, by decide, fun H3 r hD3 kp3 r0 r1 => ⟨1, r, rfl, rfl, 1 + r, rfl, by omega, by omega, ?_⟩⟩
      refine for_range (lo := 0) (n := (1 + r).toNat) (fun i σ H' => ∃ (y5 y6 : Option V) (x : V) (t : Tm), σ = [some (.ref d), some (.ref wl), some (.ref ul), some (.int kd), some x, y5, y6] ∧ Dk H' d c ∧ Kp d c H H' ∧ IsTm H' x t ∧ t.ok ∧ t.depth ≤ i + 1 ∧ t.size ≤ 2 * i + 1) ?_ (fun i σ H4 hi h4 => ?_) (fun σ H4 h4 => ?_)
      · obtain ⟨a1, a2, a3⟩ := ht2
        exact ⟨none, none, x2, t2, rfl, hD3, kp1.trans (kp2.trans kp3), hx2.keep (kpTup hD2 kp3), a1, by omega, by omega⟩
      · obtain ⟨y5, y6, x, t, rfl, hD4, kp4, hx, t1, t2', t3⟩ := h4
        have S4 := S.keep kp4
        refine ⟨.ref d, rfl, .ref wl, rfl, .ref ul, rfl, d, c, wl, ul, zs, us, rfl, hD4, S4, fun H5 y u hD5 kp5 hy hu => ?_⟩
        obtain ⟨u1, u2, u3⟩ := hu
        have hx5 := hx.keep (kpTup hD4 kp5)
        refine ⟨y, rfl, x, rfl, (by show 2 ≤ sizeLine; decide), fun p1 np1 => ?_⟩
        have s5 : Same H5 (upd H5 p1 (.tup [y, x])) := same_upd np1
        refine ⟨x, rfl, y, rfl, (by show 2 ≤ sizeLine; decide), fun p2 np2 => ?_⟩
        have s6 : Same (upd H5 p1 (.tup [y, x])) (upd (upd H5 p1 (.tup [y, x])) p2 (.tup [x, y])) := same_upd np2
        refine ⟨(by show 2 ≤ sizeLine; decide), fun p3 np3 => ?_⟩
        have s7 := same_upd (o := .lst [.ref p1, .ref p2]) np3
        have s8 := s5.trans (s6.trans s7)
        have hx8 := hx5.keep (sameTup s8)
        have hy8 := hy.keep (sameTup s8)
        have q1 : IsTm _ (.ref p1) (.pair u t) := .pair (s7 _ _ (s6 _ _ upd_same)) hy8 hx8
        have q2 : IsTm _ (.ref p2) (.pair t u) := .pair (s7 _ _ upd_same) hx8 hy8
        have hD8 := hD5.same s8
        have kp8 := kp4.trans (kp5.trans (kpSame s8))
        have hp8 : upd (upd (upd H5 p1 (.tup [y, x])) p2 (.tup [x, y])) p3 (.lst [.ref p1, .ref p2]) p3 = some (.lst [.ref p1, .ref p2]) := upd_same
        have e67 : kd = 6 ∨ kd = 7 := by omega
        rcases e67 with e | e
        · subst e
          refine ⟨.int 6, rfl, 6, 6, rfl, rfl, p3, _, 0, .ref p1, rfl, rfl, .inl (.inl hp8), atI_nat (j := 0) rfl, _, _, _, _, rfl, hD8, kp8, q1, ⟨u1, t1⟩, ?_, ?_⟩
          · show max u.depth t.depth + 1 ≤ _
            omega
          · show u.size + t.size + 1 ≤ _
            omega
        · subst e
          refine ⟨.int 7, rfl, 7, 6, rfl, rfl, p3, _, 1, .ref p2, rfl, rfl, .inl (.inl hp8), atI_nat (j := 1) rfl, _, _, _, _, rfl, hD8, kp8, q2, ⟨t1, u1⟩, ?_, ?_⟩
          · show max t.depth u.depth + 1 ≤ _
            omega
          · show t.size + u.size + 1 ≤ _
            omega
      · obtain ⟨y5, y6, x, t, rfl, hD4, kp4, hx, t1, t2', t3⟩ := h4
        exact ⟨x, rfl, q H4 x t hD4 kp4 hx t1 (by omega) (by omega)⟩
    · refine ⟨.ref d, rfl, .ref wl, rfl, .ref ul, rfl, (by show 3 ≤ sizeLine; decide), fun p np => ?_⟩
      have n1 := hD1.ne1 np
      have n2 := hD1.ne2 np
      refine ⟨.ref d, rfl, d, c, 3, rfl, hD1.same (same_upd np), by decide, by decide, fun H2 r hD2 kp2 r0 r1 => ?_⟩
      obtain ⟨v, hv, ev⟩ := item_at (xs := ([2, 3, 5] : List Int).map V.int) r0 r1
      obtain ⟨dp, hdp, rfl⟩ := List.mem_map.mp hv
      have kq2 := kp1.trans ((kpSame (same_upd np)).trans kp2)
      refine ⟨p, _, r, _, rfl, rfl, .inl (.inl (kp2 _ _ n1 n2 upd_same)), ev, (by show 3 ≤ sizeLine; decide), fun p' np' => ?_⟩
      have n3 := hD2.ne1 np'
      have n4 := hD2.ne2 np'
      refine ⟨.ref d, rfl, d, c, 3, rfl, hD2.same (same_upd np'), by decide, by decide, fun H3 r' hD3 kp3 r0' r1' => ?_⟩
      obtain ⟨v', hv', ev'⟩ := item_at (xs := ([2, 6, 12] : List Int).map V.int) r0' r1'
      obtain ⟨L, hLm, rfl⟩ := List.mem_map.mp hv'
      have kq3 := kq2.trans ((kpSame (same_upd np')).trans kp3)
      simp only [List.mem_cons, List.not_mem_nil, or_false] at hdp hLm
      exact ⟨p', _, r', _, rfl, rfl, .inl (.inl (kp3 _ _ n3 n4 upd_same)), ev', (by show 1 ≤ sizeLine; decide), fun e ne => trm H3 e dp L hD3 kq3 ne (by omega) (by omega) (by omega)⟩
end
end Ksec

set_option Elab.async false
set_option linter.all false
set_option maxRecDepth 100000
set_option maxHeartbeats 4000000
namespace Ksec
open PySem PySem.Spec PyProof.Rows L2
abbrev sWord : Stmt := topS 5
abbrev sIsUnk : Stmt := topS 6
abbrev sIsPair : Stmt := topS 7
abbrev sTupOf : Stmt := topS 4
abbrev sParted : Stmt := topS 8
abbrev sJoined : Stmt := topS 9
theorem scIsUnk : FnScope ["thing"] ["thing"] (defScope sIsUnk) := ⟨rfl, rfl, rfl, by decide +kernel, rfl, by decide +kernel, by decide +kernel⟩
theorem scIsPair : FnScope ["thing"] ["thing"] (defScope sIsPair) := ⟨rfl, rfl, rfl, by decide +kernel, rfl, by decide +kernel, by decide +kernel⟩
theorem scTupOf : FnScope ["thing", "many"] ["thing", "many"] (defScope sTupOf) := ⟨rfl, rfl, rfl, by decide +kernel, rfl, by decide +kernel, by decide +kernel⟩
theorem scParted : FnScope ["term", "heads", "end"] ["term"] (defScope sParted) := ⟨rfl, rfl, rfl, by decide +kernel, rfl, by decide +kernel, by decide +kernel⟩
theorem scJoined : FnScope ["heads", "end", "term", "head"] ["heads", "end"] (defScope sJoined) := ⟨rfl, rfl, rfl, by decide +kernel, rfl, by decide +kernel, by decide +kernel⟩
def Tm.heads : Tm → List Tm
  | .pair a b => a :: b.heads
  | _ => []
def Tm.last : Tm → Tm
  | .pair _ b => b.last
  | t => t
def rejoin (hs : List Tm) (e : Tm) : Tm := hs.foldr .pair e
theorem heads_fine : ∀ {t : Tm} {n : Nat}, t.ok → t.depth ≤ n + 1 → ∀ u ∈ t.heads, u.ok ∧ u.depth ≤ n
  | .int _, _, _, _, u, h => absurd h List.not_mem_nil
  | .wrd _, _, _, _, u, h => absurd h List.not_mem_nil
  | .nil, _, _, _, u, h => absurd h List.not_mem_nil
  | .unk _, _, _, _, u, h => absurd h List.not_mem_nil
  | .pair a b, n, ho, hd, u, h => by
    have e : (Tm.pair a b).depth = max a.depth b.depth + 1 := rfl
    rcases List.mem_cons.mp h with rfl | h
    · exact ⟨ho.1, by omega⟩
    · exact heads_fine ho.2 (by omega) u h
theorem last_fine : ∀ {t : Tm}, t.ok → t.last.ok ∧ t.last.depth = 1
  | .int _, h => ⟨h, rfl⟩
  | .wrd _, h => ⟨h, rfl⟩
  | .nil, h => ⟨h, rfl⟩
  | .unk _, h => ⟨h, rfl⟩
  | .pair _ b, h => last_fine (t := b) h.2
theorem heads_len : ∀ t : Tm, t.heads.length ≤ t.size
  | .int _ => Nat.zero_le _
  | .wrd _ => Nat.zero_le _
  | .nil => Nat.zero_le _
  | .unk _ => Nat.zero_le _
  | .pair a b => by
    have := heads_len b
    show b.heads.length + 1 ≤ a.size + b.size + 1
    omega
theorem Tm.size_pos (t : Tm) : 1 ≤ t.size := by cases t <;> simp only [Tm.size] <;> omega
/-- values that are terms -/
abbrev AreTm (H : Hp) : List V → List Tm → Prop := Paired (IsTm H)
theorem areKeep {H H' : Hp} (k : Tup H H') : ∀ {xs : List V} {ts : List Tm}, AreTm H xs ts → AreTm H' xs ts
  | _, _, .nil => .nil
  | _, _, .cons h t => .cons (h.keep k) (areKeep k t)
def Fine (t : Tm) : Prop := t.ok ∧ t.depth ≤ 64
theorem are_app {H : Hp} : ∀ {xs ys : List V} {ts us : List Tm}, AreTm H xs ts → AreTm H ys us → AreTm H (xs ++ ys) (ts ++ us)
  | _, _, _, _, .nil, h => h
  | _, _, _, _, .cons h t, r => .cons h (are_app t r)
theorem are_get {H : Hp} : ∀ {xs : List V} {ts : List Tm} {i : Nat} {x : V}, AreTm H xs ts → xs[i]? = some x → ∃ t, ts[i]? = some t ∧ IsTm H x t
  | _, _, i, _, .nil, e => by simp at e
  | _, _, 0, _, .cons h _, e => ⟨_, rfl, (Option.some.inj e) ▸ h⟩
  | _, _, i + 1, _, .cons _ t, e => are_get (i := i) t e
section
variable {P : Program} {w : World} {K : PySem.W.Frag} {mg : Str → Option Value} {base : Heap}
/-! is_tuple_of -/
def Tm.two : Tm → Bool
  | .unk _ => true
  | .pair _ _ => true
  | _ => false
def spTupOf : Sp := fun vs H Q _ => ∃ (x : V) (t : Tm), vs = [x, .int 2] ∧ IsTm H x t ∧ Q (.bl t.two) H
theorem ok_tupof {f : Addr} {fd : FuncData} {k : Nat} (F : Fun K "is_tuple_of" "is_tuple_of" sTupOf f fd) (mi : mg "isinstance" = none) (m3 : mg "tuple" = none) (m4 : mg "len" = none) :
    FnOk P w K mg base CX0 (k + 1) f fd ["thing", "many"] spTupOf := by
  refine F.ok scTupOf (fun vs H Q E h => ?_) (fun cdv A outer s H vs Q E hr h => ?_)
  · obtain ⟨x, _, rfl, _⟩ := h
    rfl
  · obtain ⟨x, t, rfl, hx, q⟩ := h
    refine ⟨_, pss_one (ps_ret (pe_and (pe_callB call_isi (by rfl) mi (by decide +kernel) (pa_cons (pv 0) (pa_cons (pe_bltn (v := .ty "tuple") (by rfl) m3 (by decide +kernel) rfl) pa_nil)))
        (pe_one (pe_cmpR op_eq (pe_callB call_len_seq (by rfl) m4 PySem.boot_len (pa_cons (pv 0) pa_nil)) (pv 1) (nomark _))))), ?_⟩
    refine ⟨x, rfl, x, .ty "tuple", _, _, _, rfl, .ty _, hx.tyx, kit_ty t.isTup, _, rfl, ?_⟩
    cases hx with
    | int i => exact iteF q
    | wrd z => exact iteF q
    | @nil a h0 => exact iteT ⟨.ref a, rfl, a, [], rfl, .inr (.inl (.inl h0)), .int 2, rfl, rfl, q⟩
    | @unk a n h0 => exact iteT ⟨.ref a, rfl, a, _, rfl, .inr (.inl (.inl h0)), .int 2, rfl, rfl, q⟩
    | @pair a y z t u h0 h1 h2 => exact iteT ⟨.ref a, rfl, a, _, rfl, .inr (.inl (.inl h0)), .int 2, rfl, rfl, q⟩
/-! is_whole -/
def spIsUnk : Sp := fun vs H Q _ => ∃ (x : V) (t : Tm), vs = [x] ∧ IsTm H x t ∧ t.ok ∧ t.depth ≤ 64 ∧ Q (.bl t.isUnk) H
theorem ok_isunk {f fT : Addr} {fd fdT : FuncData} {k : Nat} (F : Fun K "is_marked" "is_marked" sIsUnk f fd) (GT : FnOk P w K mg base CX0 k fT fdT ["thing", "many"] spTupOf) (bT : Binds K fdT ["thing", "many"] []) (gT : mg "is_tuple_of" = some (.ref fT)) (kT : PySem.W.keepIn K (.ref fT) = true) :
    FnOk P w K mg base CX0 (k + 1) f fd ["thing"] spIsUnk := by
  refine F.ok scIsUnk (fun vs H Q E h => ?_) (fun cdv A outer s H vs Q E hr h => ?_)
  · obtain ⟨x, _, rfl, _⟩ := h
    rfl
  · obtain ⟨x, t, rfl, hx, ho, hd, q⟩ := h
    refine ⟨_, pss_one (ps_ret (pe_and (pe_call GT hr (by rfl) gT kT bT .nil pass0 (pa_cons (pv 0) (pa_cons pe_int pa_nil)))
          (pe_one (pe_cmpR (op_eqD hr.units) (pe_ix ix_tup (pv 0) pe_int (fun _ _ => rfl)) pe_str (nomark _))))), ?_⟩
    refine ⟨x, rfl, x, t, rfl, hx, _, rfl, ?_⟩
    cases hx with
    | int i => exact iteF q
    | wrd z => exact iteF q
    | @nil a h0 => exact iteF q
    | @unk a n h0 =>
      refine iteT ?_
      refine ⟨.ref a, rfl, a, _, 0, .str "?", rfl, rfl, .inl (.inl h0), atI_nat (j := 0) rfl, .str "?", .str "?", .str _, .str _, shp_q, shp_q, ?_⟩
      rw [eqv_qq]
      exact q
    | @pair a y z t u h0 h1 h2 =>
      refine iteT ?_
      refine ⟨.ref a, rfl, a, _, 0, y, rfl, rfl, .inl (.inl h0), atI_nat (j := 0) rfl, _, .str "?", h1.dp, .str _, Tm.shp ho.1 ?_, shp_q, ?_⟩
      · have e : (Tm.pair t u).depth = max t.depth u.depth + 1 := rfl
        omega
      · rw [Tm.noq ho.1]
        exact q
/-! is_pair -/
def spIsPair : Sp := fun vs H Q _ => ∃ (x : V) (t : Tm), vs = [x] ∧ IsTm H x t ∧ t.ok ∧ t.depth ≤ 64 ∧ Q (.bl t.isPair) H
theorem ok_ispair {f fT : Addr} {fd fdT : FuncData} {k : Nat} (F : Fun K "is_pair" "is_pair" sIsPair f fd) (GT : FnOk P w K mg base CX0 k fT fdT ["thing", "many"] spTupOf) (bT : Binds K fdT ["thing", "many"] []) (gT : mg "is_tuple_of" = some (.ref fT)) (kT : PySem.W.keepIn K (.ref fT) = true) :
    FnOk P w K mg base CX0 (k + 1) f fd ["thing"] spIsPair := by
  refine F.ok scIsPair (fun vs H Q E h => ?_) (fun cdv A outer s H vs Q E hr h => ?_)
  · obtain ⟨x, _, rfl, _⟩ := h
    rfl
  · obtain ⟨x, t, rfl, hx, ho, hd, q⟩ := h
    refine ⟨_, pss_one (ps_ret (pe_and (pe_call GT hr (by rfl) gT kT bT .nil pass0 (pa_cons (pv 0) (pa_cons pe_int pa_nil)))
          (pe_one (pe_cmpR (op_neD hr.units) (pe_ix ix_tup (pv 0) pe_int (fun _ _ => rfl)) pe_str (nomark _))))), ?_⟩
    refine ⟨x, rfl, x, t, rfl, hx, _, rfl, ?_⟩
    cases hx with
    | int i => exact iteF q
    | wrd z => exact iteF q
    | @nil a h0 => exact iteF q
    | @unk a n h0 =>
      refine iteT ?_
      refine ⟨.ref a, rfl, a, _, 0, .str "?", rfl, rfl, .inl (.inl h0), atI_nat (j := 0) rfl, .str "?", .str "?", .str _, .str _, shp_q, shp_q, ?_⟩
      rw [eqv_qq]
      exact q
    | @pair a y z t u h0 h1 h2 =>
      refine iteT ?_
      refine ⟨.ref a, rfl, a, _, 0, y, rfl, rfl, .inl (.inl h0), atI_nat (j := 0) rfl, _, .str "?", h1.dp, .str _, Tm.shp ho.1 ?_, shp_q, ?_⟩
      · have e : (Tm.pair t u).depth = max t.depth u.depth + 1 := rfl
        omega
      · rw [Tm.noq ho.1]
        exact q
def spParted : Sp := fun vs H Q _ => ∃ (x : V) (t : Tm), vs = [x] ∧ IsTm H x t ∧ Fine t ∧ t.size ≤ 100000 ∧ ∀ H' p l xs y, Same H H' → H' p = some (.tup [.ref l, y]) → H' l = some (.lst xs) → AreTm H' xs t.heads → IsTm H' y t.last → Q (.ref p) H'
theorem ok_parted {f fP : Addr} {fd fdP : FuncData} {k : Nat} (F : Fun K "parted" "parted" sParted f fd) (GP : FnOk P w K mg base CX0 (k + 1) fP fdP ["thing"] spIsPair) (bP : Binds K fdP ["thing"] []) (gP : mg "is_pair" = some (.ref fP)) (kP : PySem.W.keepIn K (.ref fP) = true) :
    FnOk P w K mg base CX0 (k + 2) f fd ["term"] spParted := by
  refine F.ok scParted (fun vs H Q E h => ?_) (fun cdv A outer s H vs Q E hr h => ?_)
  · obtain ⟨x, t, rfl, _⟩ := h
    rfl
  · obtain ⟨x, t, rfl, hx, hf, hz, q⟩ := h
    refine ⟨_, pss_cons (ps_set (i := 1) scParted.nd rfl (.inl rfl) (pe_lst pa_nil)) (pss_cons (ps_set (i := 2) scParted.nd rfl (.inl rfl) (pv 0))
      (pss_cons (ps_while PassesOwn.never (pt_val (pe_call GP hr (by rfl) gP kP bP .nil pass0 (pa_cons (pv 2) pa_nil)))
        (pss_cons (ps_expr (pe_bm PySem.F.plainAttrs_list PySem.F.slot_list_append PySem.F.type_list_append mt_append (pv 1) (pa_cons (pe_ix ix_tup (pv 2) pe_int (fun _ _ => rfl)) pa_nil)))
          (pss_one (ps_set (i := 2) scParted.nd rfl (.inl rfl) (pe_ix ix_tup (pv 2) pe_int (fun _ _ => rfl))))))
      (pss_one (ps_ret (pe_tup (pa_cons (pv 1) (pa_cons (pv 2) pa_nil))))))), ?_⟩
    refine ⟨Nat.zero_le _, fun l nl => ⟨x, rfl, ?_⟩⟩
    have s1 : Same H (upd H l (.lst [])) := same_upd nl
    refine ⟨fun m σ H' => ∃ (y : V) (xs : List V) (u : Tm) (hs : List Tm), σ = [some x, some (.ref l), some y] ∧ m = u.size ∧ hs.length + u.size ≤ 100000 ∧ Fine u ∧ IsTm H' y u ∧ H' l = some (.lst xs) ∧ AreTm H' xs hs ∧ t.heads = hs ++ u.heads ∧ t.last = u.last ∧ Same H H',
      ⟨t.size, x, [], t, [], rfl, rfl, by simpa using hz, hf, hx.keep (sameTup s1), upd_same, .nil, rfl, rfl, s1⟩, fun m σ H' hW => ?_⟩
    obtain ⟨y, xs, u, hs, rfl, rfl, hm, hfu, hy, hl, hA, eh, el, sm⟩ := hW
    refine ⟨y, rfl, y, u, rfl, hy, hfu.1, hfu.2, _, rfl, ?_⟩
    have nopair : u.isPair = false → u.heads = [] ∧ u.last = u := fun h => by
      cases u with
      | pair a b => cases h
      | int i => exact ⟨rfl, rfl⟩
      | wrd i => exact ⟨rfl, rfl⟩
      | nil => exact ⟨rfl, rfl⟩
      | unk i => exact ⟨rfl, rfl⟩
    cases hb : u.isPair with
    | false =>
      obtain ⟨n1, n2⟩ := nopair hb
      refine iteF ⟨.ref l, rfl, y, rfl, (by show 2 ≤ sizeLine; decide), fun p np => ?_⟩
      have s2 : Same H' (upd H' p (.tup [.ref l, y])) := same_upd np
      refine q _ p l xs y (sm.trans s2) upd_same (s2 _ _ hl) ?_ ?_
      · rw [eh, n1, List.append_nil]
        exact areKeep (sameTup s2) hA
      · rw [el, n2]
        exact hy.keep (sameTup s2)
    | true =>
      cases hy with
      | int i => cases hb
      | wrd i => cases hb
      | nil _ => cases hb
      | unk _ => cases hb
      | @pair b x1 x2 u1 u2 h0 h1 h2 =>
        have hsz : (Tm.pair u1 u2).size = u1.size + u2.size + 1 := rfl
        have hdp : (Tm.pair u1 u2).depth = max u1.depth u2.depth + 1 := rfl
        have hfd := hfu.2
        have hxl : xs.length = hs.length := Paired.length hA
        have hbl : b ≠ l := ne_of h0 hl (by intro z; cases z)
        refine iteT ⟨fun σ' H'' => ∃ m', m' < (Tm.pair u1 u2).size ∧ ∃ (y : V) (xs : List V) (u : Tm) (hs : List Tm), σ' = [some x, some (.ref l), some y] ∧ m' = u.size ∧ hs.length + u.size ≤ 100000 ∧ Fine u ∧ IsTm H'' y u ∧ H'' l = some (.lst xs) ∧ AreTm H'' xs hs ∧ t.heads = hs ++ u.heads ∧ t.last = u.last ∧ Same H H'', fun σ' H'' h => h, ?_⟩
        refine ⟨.ref l, rfl, .inl ⟨rfl, _, .inl (.inl hl)⟩, .ref b, rfl, b, _, 0, x1, rfl, rfl, .inl (.inl h0), atI_nat (j := 0) rfl, l, _, x1, rfl, rfl, hl, ?_, ?_⟩
        · exact Nat.lt_of_le_of_lt (show xs.length ≤ 100000 by omega) (by decide)
        have tu : Tup H' (upd H' l (.lst (xs ++ [x1]))) := tup_upd hl fun _ => by intro z; cases z
        refine ⟨.ref b, rfl, b, _, 1, x2, rfl, rfl, .inl (.inl (tu _ _ h0)), atI_nat (j := 1) rfl, ?_⟩
        refine ⟨u2.size, by omega, x2, xs ++ [x1], u2, hs ++ [u1], rfl, rfl, ?_, ⟨hfu.1.2, by omega⟩, h2.keep tu, upd_same, are_app (areKeep tu hA) (.cons (h1.keep tu) .nil), ?_, el, fun b' o e => ?_⟩
        · rw [List.length_append]
          show hs.length + 1 + u2.size ≤ 100000
          omega
        · rw [eh, List.append_assoc]
          rfl
        · rw [upd_ne (ne_of_none e nl)]
          exact sm b' o e
def spJoined (K : PySem.W.Frag) : Sp := fun vs H Q _ => ∃ (l : Addr) (xs : List V) (y : V) (hs : List Tm) (e : Tm), vs = [.ref l, y] ∧ SqL K H l xs ∧ AreTm H xs hs ∧ IsTm H y e ∧ ∀ H' z, Same H H' → IsTm H' z (rejoin hs e) → Q z H'
theorem ok_joined {f : Addr} {fd : FuncData} {k : Nat} (F : Fun K "joined" "joined" sJoined f fd) (mr : mg "reversed" = none) : FnOk P w K mg base CX0 (k + 1) f fd ["heads", "end"] (spJoined K) := by
  refine F.ok scJoined (fun vs H Q E h => ?_) (fun cdv A outer s H vs Q E hr h => ?_)
  · obtain ⟨l, xs, y, hs, e, rfl, _⟩ := h
    rfl
  · obtain ⟨l, xs, y, hs, e, rfl, hS, hA, hy, q⟩ := h
    refine ⟨_, pss_cons (ps_set (i := 2) scJoined.nd rfl (.inl rfl) (pv 1)) (pss_cons (ps_for PassesOwn.never rfl (pi_reversed (by rfl) mr (pa_cons (pv 0) pa_nil)) (pg_name (i := 3) scJoined.nd rfl (Or.inl rfl))
      (pss_one (ps_set (i := 2) scJoined.nd rfl (.inl rfl) (pe_tup (pa_cons (pv 3) (pa_cons (pv 2) pa_nil)))))) (pss_one (ps_ret (pv 2)))), ?_⟩
    refine ⟨y, rfl, .ref l, rfl, l, xs, rfl, hS, ?_⟩
    have hl : xs.length = hs.length := Paired.length hA
    refine RT.for_Itv (K := K) (a := l) (xs := xs) (fun i σ H' => ∃ (z : V) (y3 : Option V), σ = [some (.ref l), some y, some z, y3] ∧ Same H H' ∧ IsTm H' z (rejoin (hs.drop (hs.length - i)) e)) ?_ (fun i σ H' h => ?_) (fun i x σ H' hi hx h => ?_) (fun σ H' h => ?_)
    · refine ⟨y, none, rfl, Same.refl _, ?_⟩
      rw [Nat.sub_zero, List.drop_length]
      exact hy
    · obtain ⟨_, _, _, sm, _⟩ := h
      exact sm.seq hS
    · obtain ⟨z, y3, rfl, sm, hz⟩ := h
      obtain ⟨u, hu, hxu⟩ := are_get hA hx
      refine ⟨x, rfl, z, rfl, (by show 2 ≤ sizeLine; decide), fun p np => ?_⟩
      have s2 : Same H' (upd H' p (.tup [x, z])) := same_upd np
      refine ⟨_, _, rfl, sm.trans s2, ?_⟩
      have e1 : hs.drop (hs.length - (i + 1)) = u :: hs.drop (hs.length - i) := by
        obtain ⟨hj, hu'⟩ := List.getElem?_eq_some_iff.mp hu
        rw [show hs.length - (i + 1) = xs.length - 1 - i by omega, ← List.getElem_cons_drop hj, hu', show xs.length - 1 - i + 1 = hs.length - i by omega]
      rw [e1]
      exact .pair upd_same (hxu.keep (sameTup (sm.trans s2))) (hz.keep (sameTup s2))
    · obtain ⟨z, y3, rfl, sm, hz⟩ := h
      rw [hl, Nat.sub_self, List.drop_zero] at hz
      exact ⟨z, rfl, q H' z sm hz⟩
end
end Ksec

set_option Elab.async false
set_option linter.all false
set_option maxRecDepth 100000
set_option maxHeartbeats 4000000
namespace Ksec
open PySem PySem.Spec PyProof.Rows L2
/-! texts, sign by sign -/
def numT : Int → List Nat
  | .ofNat n => TL.numL n
  | .negSucc n => 45 :: TL.numL (n + 1)
def isAtom : Tm → Bool
  | .int _ => true
  | .wrd _ => true
  | .unk _ => true
  | _ => false
def atx : Tm → List Nat
  | .int i => numT i
  | .wrd z => z.cps.toList
  | .unk n => 63 :: numT n
  | _ => []
mutual
def txt : Tm → List Nat
  | .nil => [40, 41]
  | .pair a b => 40 :: (txt a ++ tlx b)
  | .int i => atx (.int i)
  | .wrd z => atx (.wrd z)
  | .unk n => atx (.unk n)
def tlx : Tm → List Nat
  | .nil => [41]
  | .pair a b => 32 :: (txt a ++ tlx b)
  | .int i => 32 :: 46 :: 32 :: (atx (.int i) ++ [41])
  | .wrd z => 32 :: 46 :: 32 :: (atx (.wrd z) ++ [41])
  | .unk n => 32 :: 46 :: 32 :: (atx (.unk n) ++ [41])
end
mutual
def pcs : Tm → List (List Nat)
  | .nil => [[40], [41]]
  | .pair a b => [40] :: (pcs a ++ ptl b)
  | .int i => [atx (.int i)]
  | .wrd z => [atx (.wrd z)]
  | .unk n => [atx (.unk n)]
def ptl : Tm → List (List Nat)
  | .nil => [[41]]
  | .pair a b => [32] :: (pcs a ++ ptl b)
  | .int i => [[32], [46], [32], atx (.int i), [41]]
  | .wrd z => [[32], [46], [32], atx (.wrd z), [41]]
  | .unk n => [[32], [46], [32], atx (.unk n), [41]]
end
theorem txt_atom {t : Tm} (h : isAtom t = true) : txt t = atx t := by
  cases t with
  | nil => cases h
  | pair a b => cases h
  | _ => simp [txt]
theorem tlx_atom {t : Tm} (h : isAtom t = true) : tlx t = 32 :: 46 :: 32 :: (atx t ++ [41]) := by
  cases t with
  | nil => cases h
  | pair a b => cases h
  | _ => simp [tlx]
theorem pcs_atom {t : Tm} (h : isAtom t = true) : pcs t = [atx t] := by
  cases t with
  | nil => cases h
  | pair a b => cases h
  | _ => simp [pcs]
theorem ptl_atom {t : Tm} (h : isAtom t = true) : ptl t = [[32], [46], [32], atx t, [41]] := by
  cases t with
  | nil => cases h
  | pair a b => cases h
  | _ => simp [ptl]
/-! the text of a number -/
theorem numT_eq (i : Int) : (Str.ofString (toString i)).cps.toList = numT i := by
  cases i with
  | ofNat n => exact TL.tl_num n
  | negSucc n =>
    have hneg : Int.negSucc n < 0 := Int.negSucc_lt_zero n
    have e : (0 : Int) - Int.negSucc n = ((n + 1 : Nat) : Int) := by
      rw [Int.negSucc_eq]
      omega
    have h1 : (Str.ofString (toString ((n + 1 : Nat) : Int))).cps.toList = TL.numL (n + 1) := TL.tl_num (n + 1)
    rw [signs_ofString] at h1
    rw [signs_ofString, toString_neg hneg, e, String.toList_append, List.map_append, h1]
    rfl
/-! signs that part -/
def dl (c : Nat) : Bool := c == 40 || c == 41 || c == 32
def go (cur : List Nat) : List Nat → List (List Nat)
  | [] => if cur.isEmpty then [] else [cur]
  | c :: cs => if dl c = true then (if cur.isEmpty then [] else [cur]) ++ [c] :: go [] cs else go (cur ++ [c]) cs
theorem go_run : ∀ (a cur rest : List Nat), (∀ c ∈ a, dl c = false) → go cur (a ++ rest) = go (cur ++ a) rest
  | [], cur, rest, _ => by simp
  | c :: a, cur, rest, h => by
    have hc := h c (List.mem_cons_self ..)
    show (if dl c = true then _ else go (cur ++ [c]) (a ++ rest)) = _
    rw [if_neg (by rw [hc]; exact Bool.false_ne_true), go_run a (cur ++ [c]) rest fun d hd => h d (List.mem_cons_of_mem _ hd), List.append_assoc]
    rfl
/-- what may stand behind an atom -/
def Behind (rest : List Nat) : Prop := rest = [] ∨ ∃ c r, rest = c :: r ∧ dl c = true
theorem go_atom {a rest : List Nat} (ha : ∀ c ∈ a, dl c = false) (hn : a ≠ []) (hb : Behind rest) : go [] (a ++ rest) = a :: go [] rest := by
  rw [go_run a [] rest ha, List.nil_append]
  have he : a.isEmpty = false := by cases a with
    | nil => exact absurd rfl hn
    | cons _ _ => rfl
  rcases hb with rfl | ⟨c, r, rfl, hc⟩
  · show (if a.isEmpty = true then [] else [a]) = a :: go [] []
    rw [he]
    rfl
  · show (if dl c = true then (if a.isEmpty = true then [] else [a]) ++ [c] :: go [] r else _) = a :: (if dl c = true then _ else _)
    rw [if_pos hc, if_pos hc, he]
    rfl
theorem go_dl {c : Nat} (rest : List Nat) (h : dl c = true) : go [] (c :: rest) = [c] :: go [] rest := by
  show (if dl c = true then _ else _) = _
  rw [if_pos h]
  rfl
theorem numL_dl {n c : Nat} (h : c ∈ TL.numL n) : 48 ≤ c ∧ c ≤ 57 := TL.numL_digits n c h
theorem numT_dl : ∀ {i : Int} {c : Nat}, c ∈ numT i → c = 45 ∨ (48 ≤ c ∧ c ≤ 57)
  | .ofNat n, c, h => .inr (numL_dl h)
  | .negSucc n, c, h => by
    rcases List.mem_cons.mp h with h | h
    · exact .inl h
    · exact .inr (numL_dl h)
theorem numT_ne (i : Int) : numT i ≠ [] := by
  cases i with
  | ofNat n => exact TL.numL_ne n
  | negSucc n => exact List.cons_ne_nil _ _
/-- the signs of an atom -/
theorem atx_sign {t : Tm} (h : t.ok) : ∀ c ∈ atx t, c = 45 ∨ c = 63 ∨ (48 ≤ c ∧ c ≤ 57) ∨ (97 ≤ c ∧ c ≤ 122) := by
  intro c hc
  cases t with
  | int i =>
    rcases numT_dl hc with h | h
    · exact .inl h
    · exact .inr (.inr (.inl h))
  | wrd z => exact .inr (.inr (.inr (h.2.2 c hc)))
  | unk n =>
    rcases List.mem_cons.mp hc with hc | hc
    · exact .inr (.inl hc)
    · rcases numT_dl hc with h | h
      · exact .inl h
      · exact .inr (.inr (.inl h))
  | nil => exact absurd hc List.not_mem_nil
  | pair a b => exact absurd hc List.not_mem_nil
theorem dl_not {c : Nat} (h : c = 45 ∨ c = 63 ∨ (48 ≤ c ∧ c ≤ 57) ∨ (97 ≤ c ∧ c ≤ 122)) : dl c = false := by
  unfold dl
  rw [beq_eq_false_iff_ne.mpr (show c ≠ 40 by omega), beq_eq_false_iff_ne.mpr (show c ≠ 41 by omega), beq_eq_false_iff_ne.mpr (show c ≠ 32 by omega)]
  rfl
theorem atx_ne {t : Tm} (h : t.ok) (ha : isAtom t = true) : atx t ≠ [] := by
  cases t with
  | int i => exact numT_ne i
  | wrd z =>
    intro e
    have h1 : 1 ≤ z.length := h.1
    have h2 : z.length = z.cps.toList.length := len_strL z
    have h3 : z.cps.toList = [] := e
    rw [h3] at h2
    simp at h2
    omega
  | unk n => exact List.cons_ne_nil _ _
  | nil => cases ha
  | pair a b => cases ha
mutual
theorem go_txt : ∀ (t : Tm) (rest : List Nat), t.ok → Behind rest → go [] (txt t ++ rest) = pcs t ++ go [] rest
  | .int i, rest, h, hb => by
    rw [txt_atom rfl, pcs_atom rfl, go_atom (fun c hc => dl_not (atx_sign h c hc)) (atx_ne h rfl) hb]
    rfl
  | .wrd i, rest, h, hb => by
    rw [txt_atom rfl, pcs_atom rfl, go_atom (fun c hc => dl_not (atx_sign h c hc)) (atx_ne h rfl) hb]
    rfl
  | .unk i, rest, h, hb => by
    rw [txt_atom rfl, pcs_atom rfl, go_atom (fun c hc => dl_not (atx_sign h c hc)) (atx_ne h rfl) hb]
    rfl
  | .nil, rest, h, hb => by
    simp only [txt, pcs]
    show go [] (40 :: 41 :: rest) = [40] :: [41] :: go [] rest
    rw [go_dl _ rfl, go_dl _ rfl]
  | .pair a b, rest, h, hb => by
    simp only [txt, pcs]
    show go [] (40 :: ((txt a ++ tlx b) ++ rest)) = [40] :: ((pcs a ++ ptl b) ++ go [] rest)
    rw [go_dl _ rfl, List.append_assoc, go_txt a (tlx b ++ rest) h.1 (.inr (tl_behind b rest)), go_tl b rest h.2, List.append_assoc]
theorem go_tl : ∀ (t : Tm) (rest : List Nat), t.ok → go [] (tlx t ++ rest) = ptl t ++ go [] rest
  | .int i, rest, h => go_end (t := .int i) rest h rfl
  | .wrd i, rest, h => go_end (t := .wrd i) rest h rfl
  | .unk i, rest, h => go_end (t := .unk i) rest h rfl
  | .nil, rest, h => by
    simp only [tlx, ptl]
    exact go_dl _ rfl
  | .pair a b, rest, h => by
    simp only [tlx, ptl]
    show go [] (32 :: ((txt a ++ tlx b) ++ rest)) = [32] :: ((pcs a ++ ptl b) ++ go [] rest)
    rw [go_dl _ rfl, List.append_assoc, go_txt a (tlx b ++ rest) h.1 (.inr (tl_behind b rest)), go_tl b rest h.2, List.append_assoc]
theorem go_end {t : Tm} (rest : List Nat) (h : t.ok) (ha : isAtom t = true) : go [] (tlx t ++ rest) = ptl t ++ go [] rest := by
  rw [tlx_atom ha, ptl_atom ha]
  show go [] (32 :: 46 :: 32 :: ((atx t ++ [41]) ++ rest)) = [32] :: [46] :: [32] :: atx t :: [41] :: go [] rest
  rw [go_dl _ rfl, show (46 :: 32 :: ((atx t ++ [41]) ++ rest) : List Nat) = [46] ++ (32 :: ((atx t ++ [41]) ++ rest)) from rfl,
    go_atom (by intro c hc; rw [List.mem_singleton.mp hc]; rfl) (List.cons_ne_nil _ _) (.inr ⟨32, _, rfl, rfl⟩), go_dl _ rfl, List.append_assoc, show ([41] ++ rest : List Nat) = 41 :: rest from rfl,
    go_atom (fun c hc => dl_not (atx_sign h c hc)) (atx_ne h ha) (.inr ⟨41, _, rfl, rfl⟩), go_dl _ rfl]
theorem tl_behind (t : Tm) (rest : List Nat) : ∃ c r, tlx t ++ rest = c :: r ∧ dl c = true := by
  cases t with
  | nil => exact ⟨41, rest, by simp [tlx], rfl⟩
  | pair a b => exact ⟨32, txt a ++ tlx b ++ rest, by simp [tlx], rfl⟩
  | int i => exact ⟨32, _, by rw [tlx_atom rfl]; rfl, rfl⟩
  | wrd i => exact ⟨32, _, by rw [tlx_atom rfl]; rfl, rfl⟩
  | unk i => exact ⟨32, _, by rw [tlx_atom rfl]; rfl, rfl⟩
end
theorem pieces_txt {t : Tm} (h : t.ok) : go [] (txt t) = pcs t := by
  have := go_txt t [] h (.inl rfl)
  rw [List.append_nil] at this
  rw [this]
  show pcs t ++ [] = pcs t
  rw [List.append_nil]
/-! by heads and the last rest -/
def nilT : Tm → Bool
  | .nil => true
  | _ => false
theorem tlx_heads : ∀ b : Tm, tlx b = (b.heads.map fun h => 32 :: txt h).flatten ++ ((if nilT b.last then [] else [32, 46, 32] ++ txt b.last) ++ [41])
  | .nil => by simp [tlx, Tm.heads, Tm.last, nilT]
  | .int i => by simp [tlx, txt, Tm.heads, Tm.last, nilT]
  | .wrd i => by simp [tlx, txt, Tm.heads, Tm.last, nilT]
  | .unk i => by simp [tlx, txt, Tm.heads, Tm.last, nilT]
  | .pair a b => by
    simp only [tlx]
    rw [tlx_heads b]
    show 32 :: (txt a ++ _) = ((32 :: txt a) :: (b.heads.map fun h => 32 :: txt h)).flatten ++ _
    rw [List.flatten_cons, List.append_assoc]
    rfl
/-- joined by blanks -/
def jn : List (List Nat) → List Nat
  | [] => []
  | [a] => a
  | a :: b :: r => a ++ (32 :: jn (b :: r))
theorem jn_flat : ∀ (a : List Nat) (r : List (List Nat)), jn (a :: r) = a ++ (r.map fun h => 32 :: h).flatten
  | a, [] => by simp [jn]
  | a, b :: r => by
    show a ++ (32 :: jn (b :: r)) = _
    rw [jn_flat b r]
    rfl
theorem txt_heads (a b : Tm) : txt (.pair a b) = 40 :: (jn ((Tm.pair a b).heads.map txt) ++ ((if nilT b.last then [] else [32, 46, 32] ++ txt b.last) ++ [41])) := by
  simp only [txt]
  rw [tlx_heads b]
  show 40 :: _ = 40 :: (jn (txt a :: b.heads.map txt) ++ _)
  rw [jn_flat, List.map_map, List.append_assoc]
  rfl
end Ksec

set_option Elab.async false
set_option linter.all false
set_option maxRecDepth 100000
set_option maxHeartbeats 4000000
namespace Ksec
open PySem PySem.Spec PyProof.Rows L2
/-! enumerate(text) -/
theorem enum1_new {v : Value} {o : Obj} {H : Heap → Prop} (B : Begins v o H) : Meets (Builtin.«enumerate.__new__» ⟨[.type "enumerate", v], []⟩) (fun _ R s => H s.heap ∧
    R (.ok (.ret (.ref (s.heap.push o).objs.size))) { s with heap := (s.heap.push o).push { cls := .type "enumerate", data := .fields #[.none, .bool false, .ref s.heap.objs.size, rawInt 0, .none, .none] } }) := .of_wp fun prog w A R s h => by
  obtain ⟨hp, g, d, tk, os⟩ := s
  have hsub := sub_enumerate
  have q1 : ∀ {A' : Around} {E : Value → Shared → Prop} {Q : Value → Shared → Prop}, Q (.ref hp.objs.size) ⟨hp.push o, g, d, tk, os⟩ → wpAny (model prog w) A' (pyIter v) Q E ⟨hp, g, d, tk, os⟩ := fun q => B.iter prog w _ _ ⟨hp, g, d, tk, os⟩ _ h.1 q
  wp_walk using q1
  refine wpAny_stack_any fun st => wpAny_pure ?_
  split
  · rename_i c _ _ _ _ _
    cases (c == Value.type "enumerate") <;> (wp_walk using q1; exact ⟨_, rfl, h.2⟩)
  · wp_walk using q1
    exact ⟨_, rfl, h.2⟩
theorem enum1_call {prog : Program} {w : World} {A : Around} {E : Value → Shared → Prop} {s : Shared} {v : Value} {o : Obj} {H : Heap → Prop} {Q : Value → Shared → Prop} (B : Begins v o H) (h1 : H s.heap)
    (h : ∀ h', IsEnum h' (s.heap.objs.size + 1) s.heap.objs.size 0 .none → h'.get? s.heap.objs.size = some o → (∀ b o, s.heap.get? b = some o → h'.get? b = some o) → Q (.ref (s.heap.objs.size + 1)) { s with heap := h' }) :
    wpAny (model prog w) A (call (.type "enumerate") [v]) Q E s := by
  refine callType_new F.called_enumerate (by decide) (F.typeCall_enumerate_1 _) (F.newCall_enumerate_1 _) (fun obj => F.args_object_init_2 obj _) F.entry_enumerate_new (enum1_new B) ⟨h1, ?_⟩
  have hz : (s.heap.push o).objs.size = s.heap.objs.size + 1 := Heap.size_push ..
  show _ ∧ _
  rw [hz]
  have he := Heap.get?_push_size (s.heap.push o) (o := { cls := .type "enumerate", data := .fields #[.none, .bool false, .ref s.heap.objs.size, rawInt 0, .none, .none] }) rfl
  rw [hz] at he
  exact ⟨⟨_, he, rfl⟩, h _ he (Heap.get?_push_of_some _ (Heap.get?_push_size _ B.free)) fun b o x => Heap.get?_push_of_some _ (Heap.get?_push_of_some _ x)⟩
/-- at turn i a new tuple (i, sign) -/
def IteS (x : Str) : It := ⟨fun i _ => i < x.cps.size, fun i H v H' => ∃ T c, v = .ref T ∧ H T = none ∧ x.cps[i]? = some c ∧ H' = upd H T (.tup [.int (i : Nat), .str ⟨#[c]⟩]), fun i _ => i = x.cps.size⟩
theorem turn_enumS {P : Program} {w : World} {K : PySem.W.Frag} {elts : List Expr} {kk : Nat} {tpos : Pos} (x : Str) (t : Tok) (e it : Addr) :
    Turn P w K (.Tuple elts kk tpos) (IteS x) [e, it] e (fun i h => (∃ old, IsEnum h e it ((i : Nat) : Int) old) ∧ h.IsStrIter it (strIterType x) x t i ∧ e ≠ it) where
  mem := by simp
  obj := fun i h st b hb => by
    obtain ⟨⟨old, he⟩, ⟨o, ho, hc, hd⟩, _⟩ := st
    have e' : b = e ∨ b = it := by simpa using hb
    rcases e' with z | z
    · subst z
      exact ⟨_, he, fun v q => nomatch q⟩
    · subst z
      exact ⟨o, ho, fun v q => by rw [hd] at q; cases q⟩
  keep := fun i h h' st k => let ⟨⟨old, he⟩, ⟨o, ho, hc, hd⟩, hne⟩ := st; ⟨⟨old, k e (by simp) _ he⟩, ⟨o, k it (by simp) o ho, hc, hd⟩, hne⟩
  item := by
    intro X hP hw hK hc i pins s σ H E I hf st hg
    subst hP hw hK
    obtain ⟨⟨old, he⟩, hit, hne⟩ := st
    have hel : e < s.heap.objs.size := Heap.lt_size he
    have hil : it < s.heap.objs.size := by obtain ⟨_, q, _⟩ := hit; exact Heap.lt_size q
    have hD := Draws.text (prog := X.prog) (w := X.w) (A := X.A.in1) (I.ok.hd hc) it x t
    refine wpAny_pyNext_enum_itemD hD he hit hg hne (by simp only [List.mem_cons, List.not_mem_nil, or_false]; exact hne) fun y h' tk hy ho hst hT hsz hk => ?_
    obtain ⟨c, u, hcx, rfl⟩ := hy
    refine ⟨_, rfl, wpAny_letOwnedTupleGo_enum (s := { s with heap := h', toks := tk + 1 }) ho fun h'' he' sb => ?_⟩
    have hT2 : h''.get? s.heap.objs.size = some { cls := .type "tuple", data := .seq #[.int i tk, .str ⟨#[c]⟩ u] } := (sb.2 _ (Nat.ne_of_gt hel)).trans hT
    have new : ObjOk X.prog X.w (upd H s.heap.objs.size (.tup [.int (i : Nat), .str ⟨#[c]⟩])) h'' s.heap.objs.size (.tup [.int (i : Nat), .str ⟨#[c]⟩]) :=
      ⟨by show 2 ≤ sizeLine; decide, [.int i tk, .str ⟨#[c]⟩ u], .cons ⟨_, rfl⟩ (.cons ⟨_, rfl⟩ .nil), ⟨_, hT2, rfl, _, rfl⟩⟩
    have I1 : Inv X pins σ (upd H s.heap.objs.size (.tup [.int (i : Nat), .str ⟨#[c]⟩])) { s with heap := h'', toks := tk + 1 } :=
      I.turnedNew (ch := [e, it]) (fun b ob hb q => (sb.2 b (fun z => hb (by simp [z]))).trans (hk b ob (fun z => hb (by simp [z])) (fun z => hb (by simp [z])) q)) hf (Nat.le_refl _) new
    obtain ⟨o2, ho2, hc2, hd2⟩ := hst
    refine ⟨.ref s.heap.objs.size, _, I1, rfl, ⟨_, c, rfl, I.hok.fresh (Nat.le_refl _), hcx, rfl⟩, ⟨⟨.str ⟨#[c]⟩ u, ?_⟩, ⟨o2, (sb.2 it (Ne.symm hne)).trans ho2, hc2, hd2⟩, hne⟩, fun b hb => ?_⟩
    · have e1 : ((i + 1 : Nat) : Int) = (i : Int) + 1 := by omega
      rw [e1]
      exact he'
    · have e' : b = e ∨ b = it := by simpa using hb
      have hb' : b < s.heap.objs.size := by
        rcases e' with z | z
        · rw [z]; exact hel
        · rw [z]; exact hil
      rw [upd_ne (Nat.ne_of_lt hb')]
      exact (hf b hb).1
  done := by
    intro X hP hw hK hc i pins s σ H E I hf st hg
    subst hP hw hK
    obtain ⟨⟨old, he⟩, hit, hne⟩ := st
    obtain ⟨f0, f1, f2, f3, f4, f5⟩ := hf it (by simp)
    have hD := Draws.text (prog := X.prog) (w := X.w) (A := X.A.in1) (I.ok.hd hc) it x t
    have hn : i = x.cps.size := hg
    subst hn
    refine wpAny_pyNext_enum_endD hD he hit fun h' eb => ⟨rfl, I.turned (t' := s.toks) (fun b o hb q => eb b o hb q) f0 f1 f3 f4 f5⟩
  self := fun A i s Q E st h => let ⟨⟨_, he⟩, _⟩ := st; wpAny_pyIter_enum he h
def iEnumS (ta : TA) : TI := fun σ H R => ta σ H fun vs H1 => ∃ x, vs = [.str x] ∧ R (IteS x) H1
theorem pi_enumS {X : Cx} {e : Expr} {ta : TA} {p pos tpos : Pos} {elts : List Expr} {kk : Nat} (hg : Gl X "enumerate") (hm : X.mg "enumerate" = none) (ha : PA X [e] ta) (hs : starEach [e] X.env = [(false, eval e X.env)] := by rfl) :
    PI X (.Tuple elts kk tpos) (.Call (.Name "enumerate" p) [e] [] pos) (iEnumS ta) := by
  refine ⟨fun pins s σ H R I h => ?_⟩
  refine Call_ (ld_blt I hg hm boot_enumerate (PyProof.Rows.callWith_type1 (thn (ha.run pos pins s σ H _ I h) fun us s1 ⟨vs, H1, I1, r1, q1⟩ => ?_) hs rfl))
  obtain ⟨x, rfl, q⟩ := q1
  obtain ⟨u, rfl, r⟩ := vals1 r1
  obtain ⟨t, rfl⟩ := r
  refine enum1_call (begins_text x t) trivial fun h' he hit hk => wpAny_pyIter_enum he ?_
  have I2 : Inv X pins σ H1 { s1 with heap := h' } := I1.kept (t' := s1.toks) hk
  refine ⟨s1.heap.objs.size + 1, [s1.heap.objs.size + 1, s1.heap.objs.size], _, _, H1, rfl, I2, turn_enumS x t (s1.heap.objs.size + 1) s1.heap.objs.size, ⟨⟨.none, he⟩, ⟨_, hit, rfl, rfl⟩, Nat.succ_ne_self _⟩, fun b hb => ?_, q⟩
  have hle : s1.heap.objs.size ≤ b := by
    have e' : b = s1.heap.objs.size + 1 ∨ b = s1.heap.objs.size := by simpa using hb
    rcases e' with z | z
    · rw [z]
      exact Nat.le_succ _
    · rw [z]
      exact Nat.le_refl _
  exact I1.fpOk hle (I1.hok.fresh hle)
end Ksec

set_option Elab.async false
set_option linter.all false
set_option maxRecDepth 100000
set_option maxHeartbeats 4000000
namespace Ksec
open PySem PySem.Spec PyProof.Rows L2
theorem for_enumS {x : Str} {g : TG} {tb : TS} {D : Ends} {σ : L2.St} {H : Hp} (Pv : Nat → L2.St → Hp → Prop) (h0 : Pv 0 σ H)
    (hs : ∀ i c T σ H, x.cps[i]? = some c → Pv i σ H → H T = none → g (.ref T) σ (upd H T (.tup [.int (i : Nat), .str ⟨#[c]⟩])) fun σ2 H2 => tb { D with nx := Pv (i + 1), ct := Pv (i + 1), bk := D.nx } σ2 H2) (hd : ∀ σ H, Pv x.cps.size σ H → D.nx σ H) :
    ∃ W : Nat → Nat → L2.St → Hp → Prop, (∃ m, W 0 m σ H) ∧ ∀ i m σ H, W i m σ H →
      ((IteS x).stop i H ∧ D.nx σ H) ∨ ((IteS x).go i H ∧ ∃ N : L2.St → Hp → Prop, (∀ σ' H', N σ' H' → ∃ m', m' < m ∧ W (i + 1) m' σ' H') ∧ ∀ v H', (IteS x).yld i H v H' → g v σ H' fun σ2 H2 => tb { D with nx := N, ct := N, bk := D.nx } σ2 H2) := by
  refine ⟨fun i m σ H => m = x.cps.size - i ∧ i ≤ x.cps.size ∧ Pv i σ H, ⟨x.cps.size, by simp, Nat.zero_le _, h0⟩, ?_⟩
  rintro i m σ H ⟨rfl, hi, p⟩
  by_cases hlt : i < x.cps.size
  · refine .inr ⟨hlt, Pv (i + 1), fun σ' H' p' => ⟨x.cps.size - (i + 1), by omega, rfl, hlt, p'⟩, fun v H' y => ?_⟩
    obtain ⟨T, c, rfl, nT, hc, rfl⟩ := y
    exact hs i c T σ H hc p nT
  · have e : i = x.cps.size := by omega
    subst e
    exact .inl ⟨rfl, hd σ H p⟩
/-! over a text -/
theorem lc_str {x : Str} {g : TG} {tt : TT} {te : TE} {vs : List Nat} {σ : L2.St} {H1 : Hp} {D : Addr} {Qd : Hp → Prop} (Pv : Nat → Hp → Prop) (h0 : Pv 0 (upd H1 D (.lst [])))
    (hs : ∀ i c H, x.cps[i]? = some c → Pv i H → g (.str ⟨#[c]⟩) (wipe σ vs) H fun σ2 H2 => wipe σ2 vs = wipe σ vs ∧ tt σ2 H2 fun b H3 =>
      if b = true then te σ2 H3 fun y H4 => ∃ acc, H4 D = some (.lst acc) ∧ acc.length < sizeLine ∧ Pv (i + 1) (upd H4 D (.lst (acc ++ [y]))) else Pv (i + 1) H3) (hd : ∀ H, Pv x.cps.size H → Qd H) :
    ∃ W : Nat → Nat → Hp → Prop, (∃ m, W 0 m (upd H1 D (.lst []))) ∧ ∀ i m H, W i m H →
      ((Its x).stop i H ∧ Qd H) ∨ ((Its x).go i H ∧ ∃ Nx : Hp → Prop, (∀ H', Nx H' → ∃ m', m' < m ∧ W (i + 1) m' H') ∧ ∀ x2 H', (Its x).yld i H x2 H' → g x2 (wipe σ vs) H' fun σ2 H2 => wipe σ2 vs = wipe σ vs ∧ tt σ2 H2 fun b H3 =>
        if b = true then te σ2 H3 fun y H4 => ∃ acc, H4 D = some (.lst acc) ∧ acc.length < sizeLine ∧ Nx (upd H4 D (.lst (acc ++ [y]))) else Nx H3) := by
  refine ⟨fun i m H => m = x.cps.size - i ∧ i ≤ x.cps.size ∧ Pv i H, ⟨x.cps.size, by simp, Nat.zero_le _, h0⟩, ?_⟩
  rintro i m H ⟨rfl, hi, p⟩
  by_cases hlt : i < x.cps.size
  · refine .inr ⟨hlt, Pv (i + 1), fun H' p' => ⟨x.cps.size - (i + 1), by omega, rfl, hlt, p'⟩, fun v H' y => ?_⟩
    obtain ⟨e, c, hc, rfl⟩ := y
    subst e
    exact hs i c _ hc p
  · have e : i = x.cps.size := by omega
    subst e
    exact .inl ⟨Nat.le_refl _, hd H p⟩
theorem one_lt (a b : Nat) : ([a] < [b]) = (a < b) := by
  apply propext
  rw [List.cons_lt_cons_iff]
  constructor
  · rintro (h | ⟨_, h⟩)
    · exact h
    · exact absurd h (List.not_lt_nil _)
  · exact .inl
theorem le_one (c d : Nat) : (!decide ([c] < [d])) = decide (d ≤ c) := by
  by_cases h : d ≤ c
  · rw [decide_eq_true h, decide_eq_false (by rw [one_lt]; omega)]
    rfl
  · rw [decide_eq_false h, decide_eq_true (by rw [one_lt]; omega)]
    rfl
theorem take_one {l : List Nat} {i c : Nat} (h : l[i]? = some c) : l.take (i + 1) = l.take i ++ [c] := by
  rw [List.take_add_one, h]
  rfl
def within (lo hi : Nat) (l : List Nat) : Bool := l.all fun c => decide (lo ≤ c) && decide (c ≤ hi)
section
variable {P : Program} {w : World} {K : PySem.W.Frag} {mg : Str → Option Value} {base : Heap}
/-- all([lo <= sign <= hi for sign in text]) -/
theorem all_within {z : Str} {lo hi : Str} {a b : Nat} (hlo : lo.cps.toList = [a]) (hhi : hi.cps.toList = [b]) {H : Hp} {σ : L2.St} {vs : List Nat} {D : Addr} {Qd : Hp → Prop} (i0 : Nat) (hz : z.length ≤ 1000)
    (hσ : ∀ c, gName i0 (.str ⟨#[c]⟩) (wipe σ vs) H fun σ2 _ => wipe σ2 vs = wipe σ vs ∧ σ2[i0]? = some (some (.str ⟨#[c]⟩))) (nD : H D = none) (q : ∀ H', Same H H' → H' D = some (.lst ((z.cps.toList.map fun c => (decide (a ≤ c) && decide (c ≤ b))).map V.bl)) → Qd H') :
    ∃ W : Nat → Nat → Hp → Prop, (∃ m, W 0 m (upd H D (.lst []))) ∧ ∀ i m H, W i m H →
      ((Its z).stop i H ∧ Qd H) ∨ ((Its z).go i H ∧ ∃ Nx : Hp → Prop, (∀ H', Nx H' → ∃ m', m' < m ∧ W (i + 1) m' H') ∧ ∀ x2 H', (Its z).yld i H x2 H' → gName i0 x2 (wipe σ vs) H' fun σ2 H2 => wipe σ2 vs = wipe σ vs ∧ tYes σ2 H2 fun bb H3 =>
        if bb = true then tChain (fun x y H Q => ∃ i j, x = .str i ∧ y = .str j ∧ Q (.bl (!decide (j.cps.toList < i.cps.toList))) H) (fun x y H Q => ∃ i j, x = .str i ∧ y = .str j ∧ Q (.bl (!decide (j.cps.toList < i.cps.toList))) H) (tC (.str lo)) (tVar i0) (tC (.str hi)) σ2 H3 fun y H4 => ∃ acc, H4 D = some (.lst acc) ∧ acc.length < sizeLine ∧ Nx (upd H4 D (.lst (acc ++ [y]))) else Nx H3) := by
  refine lc_str (x := z) (fun i H' => Same H H' ∧ H' D = some (.lst ((z.cps.toList.take i).map fun c => V.bl (decide (a ≤ c) && decide (c ≤ b))))) ⟨same_upd nD, upd_same⟩ (fun i ch H' hch h' => ?_) (fun H' h' => ?_)
  · obtain ⟨s', e'⟩ := h'
    obtain ⟨w1, w2⟩ := hσ ch
    refine ⟨w1, yes ?_⟩
    have el : (!decide ((⟨#[ch]⟩ : Str).cps.toList < lo.cps.toList)) = decide (a ≤ ch) := by
      rw [hlo]
      exact le_one ch a
    have eh : (!decide (hi.cps.toList < (⟨#[ch]⟩ : Str).cps.toList)) = decide (ch ≤ b) := by
      rw [hhi]
      exact le_one b ch
    refine ⟨.str ⟨#[ch]⟩, w2, lo, ⟨#[ch]⟩, rfl, rfl, decide (a ≤ ch), congrArg V.bl el, ?_⟩
    have hch' : z.cps.toList[i]? = some ch := by
      rw [Array.getElem?_toList]
      exact hch
    have last : ∀ bb, bb = (decide (a ≤ ch) && decide (ch ≤ b)) → ∃ acc, H' D = some (.lst acc) ∧ acc.length < sizeLine ∧ Same H (upd H' D (.lst (acc ++ [V.bl bb]))) ∧ upd H' D (.lst (acc ++ [V.bl bb])) D = some (.lst ((z.cps.toList.take (i + 1)).map fun c => V.bl (decide (a ≤ c) && decide (c ≤ b)))) := fun bb eb => by
      subst eb
      refine ⟨_, e', ?_, fun b' o e => ?_, ?_⟩
      · rw [List.length_map, List.length_take, ← len_strL]
        exact Nat.lt_of_le_of_lt (show _ ≤ 1000 by omega) (by decide)
      · by_cases hb : b' = D
        · rw [hb, nD] at e
          cases e
        · rw [upd_ne hb]
          exact s' b' o e
      · rw [upd_same, take_one hch', List.map_append]
        rfl
    by_cases ha : a ≤ ch
    · rw [decide_eq_true ha]
      refine iteT ⟨⟨#[ch]⟩, hi, rfl, rfl, last _ ?_⟩
      rw [eh, decide_eq_true ha]
      rfl
    · rw [decide_eq_false ha]
      refine iteF (last _ ?_)
      rw [decide_eq_false ha]
      rfl
  · obtain ⟨s', e'⟩ := h'
    rw [List.take_of_length_le (by simp)] at e'
    refine q H' s' ?_
    rw [e', List.map_map]
    rfl
/-! is_word of a text -/
def isWordS (z : Str) : Bool := decide (1 ≤ z.length) && decide (z.length ≤ 8) && within 97 122 z.cps.toList
theorem scWord : FnScope ["thing", "sign"] ["thing"] (defScope sWord) := ⟨rfl, rfl, rfl, by decide +kernel, rfl, by decide +kernel, by decide +kernel⟩
def spWord : Sp := fun vs H Q _ => ∃ (z : Str), vs = [.str z] ∧ z.length ≤ 1000 ∧ ∀ H', Same H H' → Q (.bl (isWordS z)) H'
theorem ok_word {f : Addr} {fd : FuncData} {k : Nat} {tk : Tok} (F : Fun K "is_word" "is_word" sWord f fd) (mi : mg "isinstance" = none) (m1 : mg "str" = none) (m2 : mg "len" = none) (m3 : mg "all" = none) (gW : mg "WORD_LETTERS" = some (.int 8 tk)) :
    FnOk P w K mg base CX0 (k + 1) f fd ["thing"] spWord := by
  refine F.ok scWord (fun vs H Q E h => ?_) (fun cdv A outer s H vs Q E hr h => ?_)
  · obtain ⟨_, rfl, _⟩ := h
    rfl
  · obtain ⟨z, rfl, hz, q⟩ := h
    refine ⟨_, pss_cons (ps_if (pt_not (pt_val (pe_callB call_isi (by rfl) mi (by decide +kernel) (pa_cons (pv 0) (pa_cons (pe_bltn (v := .ty "str") (by rfl) m1 (by decide +kernel) rfl) pa_nil))))) (pss_one (ps_ret pe_bl)) pss_nil)
      (pss_one (ps_ret (pe_and (pe_chain op_le op_le pe_int (pe_callB call_len_str (by rfl) m2 PySem.boot_len (pa_cons (pv 0) pa_nil)) (pe_glob (v := .int 8) (by rfl) gW ⟨tk, rfl⟩))
        (pe_one (pe_callB (cr_all rfl) (by rfl) m3 (by decide +kernel) (pa_cons
          (pe_lc (own := [("sign", 1)]) (g := gName 1) (tt := tYes) rfl scWord.nd (pi_str (pv 0)) (blkOk_by (own := [("sign", 1)]) (N := ["thing", "sign"]) (sc := defScope sWord) (by decide +kernel))
            (fun _ _ _ _ _ => pg_name (i := 1) scWord.nd rfl (Or.inl rfl)) (fun _ _ _ _ _ => pts_nil) (fun _ _ _ _ _ => pe_chain op_le_str op_le_str pe_str (pv 1) pe_str)) pa_nil)))))), ?_⟩
    refine ⟨.str z, rfl, .str z, .ty "str", _, _, true, rfl, .ty _, .base (.str z), kit_ty (by decide +kernel), _, rfl, iteF ?_⟩
    refine ⟨.str z, rfl, z, rfl, Nat.le_trans hz (by decide), 1, _, rfl, rfl, _, rfl, ?_⟩
    have fin : ∀ b H', Same H H' → b = isWordS z → Q (.bl b) H' := fun b H' s' e => by
      subst e
      exact q H' s'
    by_cases h1 : 1 ≤ z.length
    · rw [decide_eq_true (show (1 : Int) ≤ (z.length : Int) by omega)]
      refine iteT ⟨_, _, rfl, rfl, _, rfl, ?_⟩
      by_cases h2 : z.length ≤ 8
      · rw [decide_eq_true (show (z.length : Int) ≤ 8 by omega)]
        refine iteT ⟨.str z, rfl, z, rfl, fun D nD => ?_⟩
        refine all_within (lo := ("a" : Str)) (hi := ("z" : Str)) (a := 97) (b := 122) rfl rfl 1 hz (fun c => ⟨rfl, rfl⟩) nD (fun H' s' e' => ⟨D, _, rfl, .inl (.inl e'), fin _ H' s' ?_⟩)
        unfold isWordS
        rw [decide_eq_true h1, decide_eq_true h2, List.all_map]
        rfl
      · rw [decide_eq_false (show ¬ (z.length : Int) ≤ 8 by omega)]
        refine iteF (fin _ H (Same.refl _) ?_)
        unfold isWordS
        rw [decide_eq_true h1, decide_eq_false h2]
        rfl
    · rw [decide_eq_false (show ¬ (1 : Int) ≤ (z.length : Int) by omega)]
      refine iteF ⟨_, rfl, iteF (fin _ H (Same.refl _) ?_)⟩
      unfold isWordS
      rw [decide_eq_false h1]
      rfl
/-! are_figures -/
abbrev sFigs : Stmt := topS 12
theorem scFigs : FnScope ["text", "sign"] ["text"] (defScope sFigs) := ⟨rfl, rfl, rfl, by decide +kernel, rfl, by decide +kernel, by decide +kernel⟩
def figs (l : List Nat) : Bool := !l.isEmpty && within 48 57 l && (l == [48] || l.head? != some 48)
def spFigs : Sp := fun vs H Q _ => ∃ (z : Str), vs = [.str z] ∧ z.length ≤ 1000 ∧ ∀ H', Same H H' → Q (.bl (figs z.cps.toList)) H'
theorem str_eq_of {z y : Str} (h : z.cps.toList = y.cps.toList) : z = y := TL.ext_tl h
theorem ok_figs {f : Addr} {fd : FuncData} {k : Nat} (F : Fun K "are_figures" "are_figures" sFigs f fd) (m3 : mg "all" = none) : FnOk P w K mg base CX0 (k + 1) f fd ["text"] spFigs := by
  refine F.ok scFigs (fun vs H Q E h => ?_) (fun cdv A outer s H vs Q E hr h => ?_)
  · obtain ⟨_, rfl, _⟩ := h
    rfl
  · obtain ⟨z, rfl, hz, q⟩ := h
    refine ⟨_, pss_cons (ps_if (PW.pt (pw_or (pt_cmpR op_eq (pv 0) pe_str (nomark _)) (pw_or1 (pt_not (pt_val (pe_callB (cr_all rfl) (by rfl) m3 (by decide +kernel) (pa_cons
          (pe_lc (own := [("sign", 1)]) (g := gName 1) (tt := tYes) rfl scFigs.nd (pi_str (pv 0)) (blkOk_by (own := [("sign", 1)]) (N := ["text", "sign"]) (sc := defScope sFigs) (by decide +kernel))
            (fun _ _ _ _ _ => pg_name (i := 1) scFigs.nd rfl (Or.inl rfl)) (fun _ _ _ _ _ => pts_nil) (fun _ _ _ _ _ => pe_chain op_le_str op_le_str pe_str (pv 1) pe_str)) pa_nil))))))) (pss_one (ps_ret pe_bl)) pss_nil)
      (pss_one (ps_ret (pe_or (pe_cmpR op_eq (pv 0) pe_str (nomark _)) (pe_one (pe_cmpR op_ne (pe_ix ix_str (pv 0) pe_int (fun _ _ => rfl)) pe_str (nomark _)))))), ?_⟩
    refine ⟨.str z, rfl, rfl, _, rfl, ?_⟩
    unfold figs at q
    by_cases he : z.cps.toList = []
    · have ez : z = ("" : Str) := str_eq_of he
      rw [decide_eq_true (show V.str z = V.str ("" : Str) by rw [ez])]
      rw [he] at q
      exact iteT (iteT (q _ (Same.refl _)))
    · have nz : ¬ V.str z = V.str ("" : Str) := fun e => he (by rw [V.str.inj e]; rfl)
      rw [decide_eq_false nz]
      refine iteF ⟨.str z, rfl, z, rfl, fun D nD => ?_⟩
      refine all_within (lo := ("0" : Str)) (hi := ("9" : Str)) (a := 48) (b := 57) rfl rfl 1 hz (fun c => ⟨rfl, rfl⟩) nD (fun H' s' e' => ⟨D, _, rfl, .inl (.inl e'), _, rfl, ?_⟩)
      rw [List.all_map]
      show if (!within 48 57 z.cps.toList) = true then _ else _
      have q' := q H' s'
      cases hw : within 48 57 z.cps.toList with
      | false =>
        rw [hw, Bool.and_false] at q'
        exact iteT q'
      | true =>
        refine iteF ⟨.str z, rfl, rfl, _, rfl, ?_⟩
        have hne : (!z.cps.toList.isEmpty) = true := by
          cases hl : z.cps.toList with
          | nil => exact absurd hl he
          | cons _ _ => rfl
        rw [hw, hne] at q'
        by_cases h0 : z.cps.toList = [48]
        · rw [decide_eq_true (show V.str z = V.str ("0" : Str) by rw [str_eq_of (z := z) (y := ("0" : Str)) h0])]
          rw [h0] at q'
          exact iteT q'
        · have n0 : ¬ V.str z = V.str ("0" : Str) := fun e => h0 (by rw [V.str.inj e]; rfl)
          rw [decide_eq_false n0]
          obtain ⟨c, r, hcr⟩ : ∃ c r, z.cps.toList = c :: r := by
            cases hl : z.cps.toList with
            | nil => exact absurd hl he
            | cons c r => exact ⟨c, r, rfl⟩
          refine iteF ⟨.str z, rfl, z, 0, c, rfl, rfl, Nat.le_trans hz (by decide), ?_, rfl, ?_⟩
          · rw [hcr]
            exact atI_nat (j := 0) rfl
          · rw [hcr] at q' h0
            have e1 : ((c :: r : List Nat) == [48]) = false := beq_eq_false_iff_ne.mpr h0
            rw [e1] at q'
            have e2 : (!decide (V.str ⟨#[c]⟩ = V.str ("0" : Str))) = ((c :: r : List Nat).head? != some 48) := by
              by_cases hc : c = 48
              · subst hc
                rw [decide_eq_true (by rfl)]
                rfl
              · rw [decide_eq_false (fun e => hc (by
                  have := V.str.inj e
                  have h3 : (⟨#[c]⟩ : Str).cps.toList = ("0" : Str).cps.toList := by rw [this]
                  have h4 : [c] = [48] := h3
                  simpa using h4))]
                show true = (some c != some 48)
                simp [hc]
            rw [e2]
            exact q'
end
end Ksec

set_option Elab.async false
set_option linter.all false
set_option maxRecDepth 100000
set_option maxHeartbeats 4000000
namespace Ksec
open PySem PySem.Spec PyProof.Rows L2
abbrev T (a : List Nat) : Str := ⟨a.toArray⟩
theorem T_l (a : List Nat) : (T a).cps.toList = a := rfl
theorem T_len (a : List Nat) : (T a).length = a.length := by
  rw [len_strL]
theorem T_of (z : Str) : T z.cps.toList = z := str_eq_of rfl
theorem cut_from (c : Nat) (r : List Nat) : cutS (T (c :: r)) (some 1) none = T r := by
  apply str_eq_of
  unfold cutS
  rw [HT.sIx_none, show (1 : Int) = ((1 : Nat) : Int) from rfl, HT.sIx_nat]
  show ((c :: r).drop (min 1 (T (c :: r)).length)).take ((T (c :: r)).length - min 1 (T (c :: r)).length) = r
  have e : (T (c :: r)).length = r.length + 1 := T_len _
  rw [e, show min 1 (r.length + 1) = 1 by omega]
  exact List.take_of_length_le (by show r.length ≤ _; omega)
theorem cut_to1 (c : Nat) (r : List Nat) : cutS (T (c :: r)) none (some 1) = T [c] := by
  apply str_eq_of
  unfold cutS
  rw [HT.sIx_none, show (1 : Int) = ((1 : Nat) : Int) from rfl, HT.sIx_nat]
  have e : (T (c :: r)).length = r.length + 1 := T_len _
  rw [e, show min 1 (r.length + 1) = 1 by omega]
  rfl
theorem cut_mid {l : List Nat} {b i : Nat} (h1 : b ≤ i) (h2 : i ≤ l.length) : cutS (T l) (some (b : Int)) (some (i : Int)) = T ((l.take i).drop b) := by
  apply str_eq_of
  unfold cutS
  rw [HT.sIx_nat, HT.sIx_nat]
  show (l.drop (min b (T l).length)).take (min i (T l).length - min b (T l).length) = (l.take i).drop b
  rw [T_len, show min b l.length = b by omega, show min i l.length = i by omega, List.drop_take]
theorem cut_end {l : List Nat} {b : Nat} (h1 : b ≤ l.length) : cutS (T l) (some (b : Int)) none = T (l.drop b) := by
  apply str_eq_of
  unfold cutS
  rw [HT.sIx_nat, HT.sIx_none]
  show (l.drop (min b (T l).length)).take ((T l).length - min b (T l).length) = l.drop b
  rw [T_len, show min b l.length = b by omega]
  exact List.take_of_length_le (by rw [List.length_drop]; omega)
/-! numbers as figures -/
theorem head_ne : ∀ n : Nat, 0 < n → (TL.numL n).head? ≠ some 48 := by
  intro n
  induction n using Nat.strongRecOn with
  | _ n ih =>
    intro hn
    by_cases h : n < 10
    · rw [TL.numL_lt h]
      intro e
      have e' : 48 + n = 48 := Option.some.inj e
      omega
    · rw [TL.numL_step (by omega)]
      have i2 := ih (n / 10) (by omega) (by omega)
      have hne := TL.numL_ne (n / 10)
      cases hl : TL.numL (n / 10) with
      | nil => exact absurd hl hne
      | cons c r =>
        rw [hl] at i2
        exact i2
theorem figs_num (n : Nat) : figs (TL.numL n) = true := by
  unfold figs
  have h1 : (TL.numL n).isEmpty = false := by
    cases hl : TL.numL n with
    | nil => exact absurd hl (TL.numL_ne n)
    | cons _ _ => rfl
  have h2 : within 48 57 (TL.numL n) = true := by
    unfold within
    rw [List.all_eq_true]
    intro c hc
    have := numL_dl hc
    rw [decide_eq_true this.1, decide_eq_true this.2]
    rfl
  rw [h1, h2]
  by_cases h0 : n = 0
  · subst h0
    decide +kernel
  · have h3 := head_ne n (by omega)
    have e : ((TL.numL n).head? != some 48) = true := by simpa [bne_iff_ne] using h3
    rw [e, Bool.or_true]
    rfl
theorem figs_first {c : Nat} {r : List Nat} (h : ¬ (48 ≤ c ∧ c ≤ 57)) : figs (c :: r) = false := by
  have e : within 48 57 (c :: r) = false := by
    show ((decide (48 ≤ c) && decide (c ≤ 57)) && _) = false
    by_cases h1 : 48 ≤ c
    · rw [decide_eq_false (fun z => h ⟨h1, z⟩), Bool.and_false, Bool.false_and]
    · rw [decide_eq_false h1, Bool.false_and, Bool.false_and]
  unfold figs
  rw [e, Bool.and_false, Bool.false_and]
theorem word_first {c : Nat} {r : List Nat} (h : ¬ (97 ≤ c ∧ c ≤ 122)) : isWordS (T (c :: r)) = false := by
  have e : within 97 122 (c :: r) = false := by
    show ((decide (97 ≤ c) && decide (c ≤ 122)) && _) = false
    by_cases h1 : 97 ≤ c
    · rw [decide_eq_false (fun z => h ⟨h1, z⟩), Bool.and_false, Bool.false_and]
    · rw [decide_eq_false h1, Bool.false_and, Bool.false_and]
  unfold isWordS
  rw [T_l, e, Bool.and_false]
theorem wd_is {z : Str} (h : Wd z) : isWordS z = true := by
  obtain ⟨h1, h2, h3⟩ := h
  unfold isWordS within
  rw [decide_eq_true h1, decide_eq_true h2]
  show (z.cps.toList.all fun c => decide (97 ≤ c) && decide (c ≤ 122)) = true
  rw [List.all_eq_true]
  intro c hc
  have := h3 c hc
  rw [decide_eq_true this.1, decide_eq_true this.2]
  rfl
theorem int_T {n : Nat} (h : n < 10 ^ 41) : intText? (T (TL.numL n)) = some (n : Int) := by
  have e := TL.int_num (n := n) (Nat.le_trans (TL.numL_len (k := 41) (by decide) h) (by decide))
  have e2 : Str.ofString (toString ((n : Nat) : Int)) = T (TL.numL n) := str_eq_of (TL.tl_num n)
  rw [e2] at e
  exact e
theorem numL_len41 {n : Nat} (h : n < 10 ^ 41) : (TL.numL n).length ≤ 41 := TL.numL_len (by decide) h
section
variable {P : Program} {w : World} {K : PySem.W.Frag} {mg : Str → Option Value} {base : Heap}
abbrev sAtom : Stmt := topS 13
theorem scAtom : FnScope ["piece"] ["piece"] (defScope sAtom) := ⟨rfl, rfl, rfl, by decide +kernel, rfl, by decide +kernel, by decide +kernel⟩
def spAtom : Sp := fun vs H Q _ => ∃ (t : Tm), vs = [.str (T (atx t))] ∧ t.ok ∧ isAtom t = true ∧ t.isUnk = false ∧ ∀ H' v, Same H H' → IsTm H' v t → Q v H'
theorem ok_atom {f fW fF : Addr} {fd fdW fdF : FuncData} {k : Nat} (F : Fun K "atom_of" "atom_of" sAtom f fd)
    (GW : FnOk P w K mg base CX0 (k + 1) fW fdW ["thing"] spWord) (bW : Binds K fdW ["thing"] []) (gW : mg "is_word" = some (.ref fW)) (kW : PySem.W.keepIn K (.ref fW) = true)
    (GF : FnOk P w K mg base CX0 (k + 1) fF fdF ["text"] spFigs) (bF : Binds K fdF ["text"] []) (gF : mg "are_figures" = some (.ref fF)) (kF : PySem.W.keepIn K (.ref fF) = true) (mi : mg "int" = none) : FnOk P w K mg base CX0 (k + 2) f fd ["piece"] spAtom := by
  refine F.ok scAtom (fun vs H Q E h => ?_) (fun cdv A outer s H vs Q E hr h => ?_)
  · obtain ⟨_, rfl, _⟩ := h
    rfl
  · obtain ⟨t, rfl, ok, ha, hu, q⟩ := h
    refine ⟨_, pss_cons (ps_if (pt_val (pe_call GW hr (by rfl) gW kW bW .nil pass0 (pa_cons (pv 0) pa_nil))) (pss_one (ps_ret (pv 0))) pss_nil)
      (pss_cons (ps_if (pt_val (pe_call GF hr (by rfl) gF kF bF .nil pass0 (pa_cons (pv 0) pa_nil))) (pss_one (ps_ret (pe_callTy call_int_str (by rfl) mi (by decide +kernel) (pa_cons (pv 0) pa_nil)))) pss_nil)
      (pss_cons (ps_if (PW.pt (pw_and (pt_cmpR op_eq (pe_slice sl_str (pv 0) po_none (po_some pe_int)) pe_str (nomark _)) (pw_and (pt_cmpR op_ne (pv 0) pe_str (nomark _))
          (pw_and1 (pt_val (pe_call GF hr (by rfl) gF kF bF .nil pass0 (pa_cons (pe_slice sl_str (pv 0) (po_some pe_int) po_none) pa_nil)))))))
        (pss_one (ps_ret (pe_un un_neg (pe_callTy call_int_str (by rfl) mi (by decide +kernel) (pa_cons (pe_slice sl_str (pv 0) (po_some pe_int) po_none) pa_nil))))) pss_nil)
      (pss_one (ps_ret pe_non)))), ?_⟩
    have big : ∀ {a : List Nat}, a.length ≤ 50 → (T a).length ≤ 1000 := fun h => by rw [T_len]; omega
    cases t with
    | nil => cases ha
    | pair a b => cases ha
    | wrd z =>
      have e : T (atx (.wrd z)) = z := T_of z
      have hz8 := ok.2.1
      rw [e]
      refine ⟨.str z, rfl, z, rfl, by omega, fun H1 s1 => ⟨_, rfl, ?_⟩⟩
      rw [wd_is ok]
      exact iteT ⟨.str z, rfl, q _ _ s1 (.wrd z)⟩
    | int i =>
      cases i with
      | ofNat n =>
        have hn : n < 10 ^ 41 := ok
        have hl := numL_len41 hn
        show _
        obtain ⟨c, r, hcr⟩ : ∃ c r, TL.numL n = c :: r := by
          cases hl : TL.numL n with
          | nil => exact absurd hl (TL.numL_ne n)
          | cons c r => exact ⟨c, r, rfl⟩
        have hc := numL_dl (n := n) (c := c) (by rw [hcr]; exact List.mem_cons_self ..)
        have ew : isWordS (T (TL.numL n)) = false := by
          rw [hcr]
          exact word_first (by omega)
        refine ⟨.str (T (TL.numL n)), rfl, _, rfl, big (by omega), fun H1 s1 => ⟨_, rfl, ?_⟩⟩
        rw [ew]
        refine iteF ⟨.str (T (TL.numL n)), rfl, _, rfl, big (by omega), fun H2 s2 => ⟨_, rfl, ?_⟩⟩
        rw [T_l, figs_num]
        exact iteT ⟨.str (T (TL.numL n)), rfl, _, _, rfl, int_T hn, by rw [T_len]; omega, q _ _ (s1.trans s2) (.int _)⟩
      | negSucc n =>
        have hn : n + 1 < 10 ^ 41 := ok
        have hl := numL_len41 hn
        have ea : atx (.int (Int.negSucc n)) = 45 :: TL.numL (n + 1) := rfl
        rw [ea]
        have hbig : (T (45 :: TL.numL (n + 1))).length ≤ 1000 := big (by show (TL.numL (n + 1)).length + 1 ≤ 50; omega)
        refine ⟨_, rfl, _, rfl, hbig, fun H1 s1 => ⟨_, rfl, ?_⟩⟩
        rw [word_first (by omega)]
        refine iteF ⟨_, rfl, _, rfl, hbig, fun H2 s2 => ⟨_, rfl, ?_⟩⟩
        rw [T_l, figs_first (by omega)]
        refine iteF ⟨_, rfl, 1, rfl, _, rfl, Nat.le_trans hbig (by decide), rfl, _, rfl, ?_⟩
        rw [cut_to1, decide_eq_true (show V.str (T [45]) = V.str ("-" : Str) by decide +kernel)]
        have hne : ¬ V.str (T (45 :: TL.numL (n + 1))) = V.str ("-0" : Str) := fun z => by
          have h1 : (T (45 :: TL.numL (n + 1))).cps.toList = ("-0" : Str).cps.toList := by rw [V.str.inj z]
          have h2 : (45 :: TL.numL (n + 1) : List Nat) = [45, 48] := h1
          have h3 : TL.numL (n + 1) = [48] := (List.cons.inj h2).2
          exact head_ne (n + 1) (by omega) (by rw [h3]; rfl)
        refine iteT ⟨_, rfl, rfl, _, rfl, ?_⟩
        rw [decide_eq_false hne]
        refine iteT ⟨_, rfl, 1, rfl, _, rfl, Nat.le_trans hbig (by decide), _, rfl, ?_, fun H3 s3 => ⟨_, rfl, ?_⟩⟩
        · rw [cut_from]
          exact big (by omega)
        rw [cut_from, T_l, figs_num]
        refine iteT ⟨_, rfl, 1, rfl, _, rfl, Nat.le_trans hbig (by decide), ?_⟩
        rw [cut_from]
        refine ⟨_, _, rfl, int_T hn, by rw [T_len]; omega, _, rfl, ?_⟩
        have e2 : -(((n + 1 : Nat) : Int)) = Int.negSucc n := rfl
        show Q (V.int (-(((n + 1 : Nat)) : Int))) H3
        rw [e2]
        exact q _ _ (s1.trans (s2.trans s3)) (.int _)
    | unk n => cases hu
end
end Ksec

set_option Elab.async false
set_option linter.all false
set_option maxRecDepth 100000
set_option maxHeartbeats 4000000
namespace Ksec
open PySem PySem.Spec PyProof.Rows L2
theorem laterS {tt : TT} {tb u : TS} {D : Ends} {σ : L2.St} {H : Hp} (C : L2.St → Hp → Prop) (first : (∀ σ1 H1, C σ1 H1 → u D σ1 H1) → tSeq (tIfS tt tb tNext) u D σ H) (second : ∀ σ1 H1, C σ1 H1 → u D σ1 H1) : tSeq (tIfS tt tb tNext) u D σ H := first second
theorem dl_in (c : Nat) : decide (c ∈ ("() " : Str).cps.toList) = dl c := by
  have e : ("() " : Str).cps.toList = [40, 41, 32] := rfl
  rw [e]
  unfold dl
  by_cases h1 : c = 40
  · subst h1
    rfl
  by_cases h2 : c = 41
  · subst h2
    rfl
  by_cases h3 : c = 32
  · subst h3
    rfl
  rw [beq_eq_false_iff_ne.mpr h1, beq_eq_false_iff_ne.mpr h2, beq_eq_false_iff_ne.mpr h3]
  exact decide_eq_false (by simp [h1, h2, h3])
abbrev tv (a : List Nat) : V := .str (T a)
section
variable {P : Program} {w : World} {K : PySem.W.Frag} {mg : Str → Option Value} {base : Heap}
abbrev sPieces : Stmt := topS 11
abbrev nPieces : List Str := ["text", "pieces", "begun", "at", "sign"]
theorem scPieces : FnScope nPieces ["text"] (defScope sPieces) := ⟨rfl, rfl, rfl, by decide +kernel, rfl, by decide +kernel, by decide +kernel⟩
def spPieces : Sp := fun vs H Q _ => ∃ (l : List Nat), vs = [.str (T l)] ∧ l.length ≤ 1000000 ∧ ∀ H' p, Same H H' → H p = none → H' p = some (.lst ((go [] l).map tv)) → Q (.ref p) H'
theorem ok_pieces {f : Addr} {fd : FuncData} {k : Nat} (F : Fun K "pieces_of" "pieces_of" sPieces f fd) (me : mg "enumerate" = none) (ml : mg "len" = none) : FnOk P w K mg base CX0 (k + 1) f fd ["text"] spPieces := by
  refine F.ok scPieces (fun vs H Q E h => ?_) (fun cdv A outer s H vs Q E hr h => ?_)
  · obtain ⟨_, rfl, _⟩ := h
    rfl
  · obtain ⟨l, rfl, hl, q⟩ := h
    refine ⟨_, pss_cons (ps_set (i := 1) scPieces.nd rfl (.inl rfl) (pe_lst pa_nil)) (pss_cons (ps_set (i := 2) scPieces.nd rfl (.inl rfl) pe_int)
      (pss_cons (ps_for PassesOwn.never rfl (pi_enumS (by rfl) me (pa_cons (pv 0) pa_nil)) (pg_tup rfl (pgs_cons (pg_name (i := 3) scPieces.nd rfl (.inl rfl)) (pgs_cons (pg_name (i := 4) scPieces.nd rfl (.inl rfl)) pgs_nil)))
        (pss_one (ps_if (pt_cmpR (r := rInS) op_inS (pv 4) pe_str (by rfl))
          (pss_cons (ps_if (pt_cmpR op_lt (pv 2) (pv 3) (nomark _)) (pss_one (ps_expr (pe_bm PySem.F.plainAttrs_list PySem.F.slot_list_append PySem.F.type_list_append mt_append (pv 1) (pa_cons (pe_slice sl_str (pv 0) (po_some (pv 2)) (po_some (pv 3))) pa_nil)))) pss_nil)
          (pss_cons (ps_expr (pe_bm PySem.F.plainAttrs_list PySem.F.slot_list_append PySem.F.type_list_append mt_append (pv 1) (pa_cons (pv 4) pa_nil)))
          (pss_one (ps_set (i := 2) scPieces.nd rfl (.inl rfl) (pe_op op_add (pv 3) pe_int))))) pss_nil)))
      (pss_cons (ps_if (pt_cmpR op_lt (pv 2) (pe_callB call_len_str (by rfl) ml PySem.boot_len (pa_cons (pv 0) pa_nil)) (nomark _)) (pss_one (ps_expr (pe_bm PySem.F.plainAttrs_list PySem.F.slot_list_append PySem.F.type_list_append mt_append (pv 1) (pa_cons (pe_slice sl_str (pv 0) (po_some (pv 2)) po_none) pa_nil)))) pss_nil)
      (pss_one (ps_ret (pv 1)))))), ?_⟩
    refine ⟨Nat.zero_le _, fun p np => ?_⟩
    have s1 : Same H (upd H p (.lst [])) := same_upd np
    have hz : (T l).length ≤ sizeLine := by
      rw [T_len]
      exact Nat.le_trans hl (by decide)
    have hsz : (T l).cps.size = l.length := T_len l
    have keep : ∀ {H1 : Hp} {o : HO}, Same H H1 → Same H (upd H1 p o) := fun sm b o e => by
      rw [upd_ne (ne_of_none e np)]
      exact sm b o e
    refine ⟨.str (T l), rfl, T l, rfl, ?_⟩
    refine for_enumS (x := T l) (fun i σ H' => ∃ (y3 y4 : Option V) (b : Nat) (Ps : List (List Nat)), σ = [some (.str (T l)), some (.ref p), some (.int b), y3, y4] ∧ b ≤ i ∧ H' p = some (.lst (Ps.map tv)) ∧ Same H H' ∧ Ps ++ go ((l.take i).drop b) (l.drop i) = go [] l ∧ Ps.length ≤ 2 * i)
      ⟨none, none, 0, [], rfl, Nat.le_refl _, upd_same, s1, rfl, Nat.le_refl _⟩ (fun i c Tp σ H2 hc h2 nT => ?_) (fun σ H2 h2 => ?_)
    · obtain ⟨y3, y4, b, Ps, rfl, hb, hp, sm, hgo, hPl⟩ := h2
      have hc' : l[i]? = some c := by
        have : (T l).cps.toList[i]? = some c := by
          rw [Array.getElem?_toList]
          exact hc
        exact this
      have hi : i < l.length := (List.getElem?_eq_some_iff.mp hc').1
      have sT := same_upd (o := .tup [.int (i : Nat), .str ⟨#[c]⟩]) nT
      have hpT := sT _ _ hp
      have hnp : Tp ≠ p := ne_of_none hp nT |>.symm
      refine ⟨Tp, _, rfl, .inl (.inl upd_same), rfl, _, _, rfl, _, _, rfl, rfl, ?_⟩
      generalize upd H2 Tp (.tup [.int (i : Nat), .str ⟨#[c]⟩]) = H3 at *
      have sm3 := sm.trans sT
      have hdrop : l.drop i = c :: l.drop (i + 1) := by
        obtain ⟨h1, h2⟩ := List.getElem?_eq_some_iff.mp hc'
        rw [← h2, List.getElem_cons_drop]
      rw [hdrop] at hgo
      refine ⟨.str ⟨#[c]⟩, rfl, c, _, rfl, rfl, _, rfl, ?_⟩
      rw [dl_in]
      have hcurlen : ((l.take i).drop b).length = i - b := by
        rw [List.length_drop, List.length_take]
        omega
      cases hd : dl c with
      | false =>
        refine iteF ⟨_, _, b, Ps, rfl, by omega, hpT, sm3, ?_, by omega⟩
        rw [← hgo]
        have e : (l.take (i + 1)).drop b = (l.take i).drop b ++ [c] := by
          rw [take_one hc', List.drop_append_of_le_length (by rw [List.length_take]; omega)]
        rw [e]
        show _ = Ps ++ (if dl c = true then _ else go ((l.take i).drop b ++ [c]) (l.drop (i + 1)))
        rw [if_neg (by rw [hd]; exact Bool.false_ne_true)]
      | true =>
        have hgo' : Ps ++ ((if ((l.take i).drop b).isEmpty = true then [] else [(l.take i).drop b]) ++ [c] :: go [] (l.drop (i + 1))) = go [] l := by
          rw [← hgo]
          show _ = Ps ++ (if dl c = true then _ else _)
          rw [if_pos hd]
        refine iteT ?_
        refine laterS (C := fun σ1 H1 => ∃ Ps', σ1 = [some (.str (T l)), some (.ref p), some (.int b), some (.int (i : Nat)), some (.str ⟨#[c]⟩)] ∧ H1 p = some (.lst (Ps'.map tv)) ∧ Same H H1 ∧ Ps' ++ [c] :: go [] (l.drop (i + 1)) = go [] l ∧ Ps'.length ≤ 2 * i + 1) ?first ?second
        case first =>
          intro rest
          refine ⟨.int b, rfl, .int (i : Nat), rfl, _, _, rfl, rfl, _, rfl, ite2 (fun hlt => ?_) (fun hge => ?_)⟩
          · have hlt' : b < i := by
              have := of_decide_eq_true hlt
              omega
            refine ⟨.ref p, rfl, .inl ⟨rfl, _, .inl (.inl hpT)⟩, .str (T l), rfl, .int b, rfl, (b : Int), rfl, .int (i : Nat), rfl, (i : Int), rfl, T l, rfl, hz, p, _, _, rfl, rfl, hpT, ?_, ?_⟩
            · rw [List.length_map]
              exact Nat.lt_of_le_of_lt (show Ps.length ≤ 2000000 by omega) (by decide)
            rw [cut_mid hb (by omega)]
            refine rest _ _ ⟨Ps ++ [(l.take i).drop b], rfl, ?_, keep sm3, ?_, ?_⟩
            · rw [upd_same, List.map_append]
              rfl
            · have he : ((l.take i).drop b).isEmpty = false := by
                cases hl : (l.take i).drop b with
                | nil =>
                  rw [hl] at hcurlen
                  simp at hcurlen
                  omega
                | cons _ _ => rfl
              rw [he] at hgo'
              rw [← hgo', List.append_assoc]
              rfl
            · rw [List.length_append]
              show Ps.length + 1 ≤ _
              omega
          · have hge' : b = i := by
              have : ¬ ((b : Int) < (i : Int)) := fun z => hge (decide_eq_true z)
              omega
            refine rest _ _ ⟨Ps, rfl, hpT, sm3, ?_, by omega⟩
            have he : ((l.take i).drop b).isEmpty = true := by
              rw [List.isEmpty_iff, List.eq_nil_iff_length_eq_zero, hcurlen]
              omega
            rw [he] at hgo'
            exact hgo'
        case second =>
          rintro σ1 H4 ⟨Ps', rfl, hp4, sm4, hgo4, hl4⟩
          refine ⟨.ref p, rfl, .inl ⟨rfl, _, .inl (.inl hp4)⟩, .str ⟨#[c]⟩, rfl, p, _, _, rfl, rfl, hp4, ?_, ?_⟩
          · rw [List.length_map]
            exact Nat.lt_of_le_of_lt (show Ps'.length ≤ 2000001 by omega) (by decide)
          refine ⟨.int (i : Nat), rfl, (i : Int), 1, rfl, rfl, _, _, i + 1, Ps' ++ [[c]], rfl, Nat.le_refl _, ?_, keep sm4, ?_, ?_⟩
          · rw [upd_same, List.map_append]
            rfl
          · have e : (l.take (i + 1)).drop (i + 1) = [] := by
              rw [List.drop_eq_nil_iff, List.length_take]
              omega
            rw [e, ← hgo4, List.append_assoc]
            rfl
          · rw [List.length_append]
            show Ps'.length + 1 ≤ _
            omega
    · obtain ⟨y3, y4, b, Ps, rfl, hb, hp, sm, hgo, hPl⟩ := h2
      rw [hsz] at hb hgo hPl
      rw [List.take_of_length_le (Nat.le_refl _), List.drop_eq_nil_iff.mpr (Nat.le_refl _)] at hgo
      have hgo' : Ps ++ (if (l.drop b).isEmpty = true then [] else [l.drop b]) = go [] l := hgo
      refine ⟨.int b, rfl, .str (T l), rfl, T l, rfl, hz, _, _, rfl, rfl, _, rfl, ite2 (fun hlt => ?_) (fun hge => ?_)⟩
      · have hlt' : b < l.length := by
          have := of_decide_eq_true hlt
          rw [T_len] at this
          omega
        refine ⟨.ref p, rfl, .inl ⟨rfl, _, .inl (.inl hp)⟩, .str (T l), rfl, .int b, rfl, (b : Int), rfl, T l, rfl, hz, p, _, _, rfl, rfl, hp, ?_, ?_⟩
        · rw [List.length_map]
          exact Nat.lt_of_le_of_lt (show Ps.length ≤ 2000000 by omega) (by decide)
        rw [cut_end hb]
        refine ⟨.ref p, rfl, q _ p (keep sm) np ?_⟩
        have he : (l.drop b).isEmpty = false := by
          cases hl : l.drop b with
          | nil =>
            have := List.drop_eq_nil_iff.mp hl
            omega
          | cons _ _ => rfl
        rw [he] at hgo'
        rw [upd_same, ← hgo', List.map_append]
        rfl
      · have hge' : l.length ≤ b := by
          have : ¬ ((b : Int) < ((T l).length : Int)) := fun z => hge (decide_eq_true z)
          rw [T_len] at this
          omega
        refine ⟨.ref p, rfl, q _ p sm np ?_⟩
        have he : (l.drop b).isEmpty = true := by
          rw [List.isEmpty_iff, List.drop_eq_nil_iff]
          exact hge'
        rw [he, if_pos rfl, List.append_nil] at hgo'
        rw [← hgo']
        exact hp
end
end Ksec

set_option Elab.async false
set_option linter.all false
set_option maxRecDepth 100000
set_option maxHeartbeats 4000000
namespace Ksec
open PySem PySem.Spec PyProof.Rows L2
abbrev sInit : Stmt := inClass (topS 14) 0
abbrev sPeek : Stmt := inClass (topS 14) 1
abbrev sNextP : Stmt := inClass (topS 14) 2
abbrev sExpect : Stmt := inClass (topS 14) 3
abbrev sExpEnd : Stmt := inClass (topS 14) 4
abbrev sNextA : Stmt := inClass (topS 14) 5
abbrev sUnkBy : Stmt := inClass (topS 14) 6
abbrev sNextS : Stmt := inClass (topS 14) 7
abbrev sNextT : Stmt := inClass (topS 14) 8
abbrev sNextL : Stmt := inClass (topS 14) 9
abbrev sNextE : Stmt := inClass (topS 14) 10
theorem scInit : FnScope ["self", "text"] ["self", "text"] (defScope sInit) := ⟨rfl, rfl, rfl, by decide +kernel, rfl, by decide +kernel, by decide +kernel⟩
theorem scPeek : FnScope ["self"] ["self"] (defScope sPeek) := ⟨rfl, rfl, rfl, by decide +kernel, rfl, by decide +kernel, by decide +kernel⟩
theorem scNextP : FnScope ["self", "piece"] ["self"] (defScope sNextP) := ⟨rfl, rfl, rfl, by decide +kernel, rfl, by decide +kernel, by decide +kernel⟩
theorem scExpect : FnScope ["self", "piece"] ["self", "piece"] (defScope sExpect) := ⟨rfl, rfl, rfl, by decide +kernel, rfl, by decide +kernel, by decide +kernel⟩
theorem scExpEnd : FnScope ["self"] ["self"] (defScope sExpEnd) := ⟨rfl, rfl, rfl, by decide +kernel, rfl, by decide +kernel, by decide +kernel⟩
theorem scNextA : FnScope ["self", "atom"] ["self"] (defScope sNextA) := ⟨rfl, rfl, rfl, by decide +kernel, rfl, by decide +kernel, by decide +kernel⟩
theorem scUnkBy : FnScope ["self", "mark"] ["self", "mark"] (defScope sUnkBy) := ⟨rfl, rfl, rfl, by decide +kernel, rfl, by decide +kernel, by decide +kernel⟩
theorem scNextS : FnScope ["self", "unknown"] ["self"] (defScope sNextS) := ⟨rfl, rfl, rfl, by decide +kernel, rfl, by decide +kernel, by decide +kernel⟩
theorem scNextT : FnScope ["self", "lists", "term"] ["self"] (defScope sNextT) := ⟨rfl, rfl, rfl, by decide +kernel, rfl, by decide +kernel, by decide +kernel⟩
theorem scNextL : FnScope ["self", "lists"] ["self", "lists"] (defScope sNextL) := ⟨rfl, rfl, rfl, by decide +kernel, rfl, by decide +kernel, by decide +kernel⟩
theorem scNextE : FnScope ["self", "end"] ["self"] (defScope sNextE) := ⟨rfl, rfl, rfl, by decide +kernel, rfl, by decide +kernel, by decide +kernel⟩
/-- a statement that is never come to -/
theorem ps_never {X : Cx} {st : Stmt} : PS X st (fun _ _ _ => False) := ⟨fun _ _ _ _ _ _ h => h.elim⟩
/-! a reader's fields -/
def rf (z : Str) (l : Addr) (k : Nat) : List (Str × V) := [("text", .str z), ("pieces", .ref l), ("at", .int (k : Nat))]
theorem n_tp : ¬ ("text" : Str) = "pieces" := by decide +kernel
theorem n_ta : ¬ ("text" : Str) = "at" := by decide +kernel
theorem n_pa : ¬ ("pieces" : Str) = "at" := by decide +kernel
theorem rf_put (z : Str) (l : Addr) (k m : Nat) : putF "at" (.int (m : Nat)) (rf z l k) = rf z l m := by
  show (if ("text" : Str) = "at" then _ else (("text" : Str), V.str z) :: (if ("pieces" : Str) = "at" then _ else (("pieces" : Str), V.ref l) :: (if ("at" : Str) = "at" then [(("at" : Str), V.int (m : Nat))] else _))) = _
  rw [if_neg n_ta, if_neg n_pa, if_pos rfl]
  rfl
theorem rf_new (z : Str) (l : Addr) : putF "at" (.int 0) (putF "pieces" (.ref l) (putF "text" (.str z) [])) = rf z l 0 := by
  show putF "at" (.int 0) (if ("text" : Str) = "pieces" then _ else (("text" : Str), V.str z) :: [(("pieces" : Str), V.ref l)]) = _
  rw [if_neg n_tp]
  show (if ("text" : Str) = "at" then _ else (("text" : Str), V.str z) :: (if ("pieces" : Str) = "at" then _ else (("pieces" : Str), V.ref l) :: [(("at" : Str), V.int 0)])) = _
  rw [if_neg n_ta, if_neg n_pa]
  rfl
theorem rf_two (z : Str) (l : Addr) : putF "pieces" (.ref l) (putF "text" (.str z) []) = ([("text", .str z), ("pieces", .ref l)] : List (Str × V)) := by
  show (if ("text" : Str) = "pieces" then _ else (("text" : Str), V.str z) :: [(("pieces" : Str), V.ref l)]) = _
  rw [if_neg n_tp]
theorem rf_text (z : Str) (l : Addr) (k : Nat) : (rf z l k).lookup ("text" : Str) = some (.str z) := by simp [rf, List.lookup]
theorem rf_pieces (z : Str) (l : Addr) (k : Nat) : (rf z l k).lookup ("pieces" : Str) = some (.ref l) := by
  have h1 : (("pieces" : Str) == "text") = false := by decide +kernel
  simp [rf, List.lookup, h1]
theorem rf_at (z : Str) (l : Addr) (k : Nat) : (rf z l k).lookup ("at" : Str) = some (.int (k : Nat)) := by
  have h1 : (("at" : Str) == "text") = false := by decide +kernel
  have h2 : (("at" : Str) == "pieces") = false := by decide +kernel
  simp [rf, List.lookup, h1, h2]
theorem rf_no {m : Str} (h1 : (m == "text") = false) (h2 : (m == "pieces") = false) (h3 : (m == "at") = false) (z : Str) (l : Addr) (k : Nat) : (rf z l k).lookup m = none := by
  simp [rf, List.lookup, h1, h2, h3]
/-- a reader at p, at its k-th piece -/
structure Rd (C : Addr) (H : Hp) (p : Addr) (z : Str) (l : Addr) (ps : List (List Nat)) (k : Nat) : Prop where
  i : ∃ dx, H p = some (.ins C dx (rf z l k))
  l : H l = some (.lst (ps.map tv))
  n : ps.length ≤ 2000000
/-- all but p stays -/
def Kr (p : Addr) (H H' : Hp) : Prop := ∀ b o, b ≠ p → H b = some o → H' b = some o
theorem Kr.refl (p : Addr) (H : Hp) : Kr p H H := fun _ _ _ e => e
theorem Kr.trans {p : Addr} {H H1 H2 : Hp} (a : Kr p H H1) (b : Kr p H1 H2) : Kr p H H2 := fun x o h e => b x o h (a x o h e)
theorem krSame {p : Addr} {H H1 : Hp} (a : Same H H1) : Kr p H H1 := fun x o _ e => a x o e
theorem krTup {C : Addr} {p l : Addr} {z : Str} {ps : List (List Nat)} {k : Nat} {H H1 : Hp} (r : Rd C H p z l ps k) (a : Kr p H H1) : Tup H H1 := fun b xs e => by
  obtain ⟨dx, h⟩ := r.i
  exact a b _ (ne_of e h (by intro z; cases z)) e
theorem Rd.same {C : Addr} {p l : Addr} {z : Str} {ps : List (List Nat)} {k : Nat} {H H1 : Hp} (r : Rd C H p z l ps k) (a : Same H H1) : Rd C H1 p z l ps k := by
  obtain ⟨⟨dx, h⟩, h2, h3⟩ := r
  exact ⟨⟨dx, a _ _ h⟩, a _ _ h2, h3⟩
theorem Rd.ne {C : Addr} {p l : Addr} {z : Str} {ps : List (List Nat)} {k : Nat} {H : Hp} (r : Rd C H p z l ps k) : l ≠ p := by
  obtain ⟨⟨dx, h⟩, h2, _⟩ := r
  exact ne_of h2 h (by intro z; cases z)
structure RTxt (K : PySem.W.Frag) (mg : Str → Option Value) (C : Addr) : Prop where
  cl : Cls K C
  nT : NoAttr K C "text"
  nP : NoAttr K C "pieces"
  nA : NoAttr K C "at"
  mgC : mg "Reader" = some (.ref C)
  len : mg "len" = none
section
variable {P : Program} {w : World} {K : PySem.W.Frag} {mg : Str → Option Value} {base : Heap}
def spInit (C : Addr) : Sp := fun vs H Q _ => ∃ (p dx : Addr) (t : List Nat), vs = [.ref p, .str (T t)] ∧ H p = some (.ins C dx []) ∧ t.length ≤ 1000000 ∧ (go [] t).length ≤ 2000000 ∧ ∀ H' l, Kr p H H' → H l = none → Rd C H' p (T t) l (go [] t) 0 → Q .non H'
theorem ok_init {f fP C : Addr} {fd fdP : FuncData} {k : Nat} (F : Fun K "__init__" "Reader.__init__" sInit f fd) (X : RTxt K mg C) (GP : FnOk P w K mg base CX0 (k + 1) fP fdP ["text"] spPieces) (bP : Binds K fdP ["text"] []) (gP : mg "pieces_of" = some (.ref fP)) (kP : PySem.W.keepIn K (.ref fP) = true) (mi : mg "isinstance" = none) (m1 : mg "str" = none) :
    FnOk P w K mg base CX0 (k + 2) f fd ["self", "text"] (spInit C) := by
  refine F.ok scInit (fun vs H Q E h => ?_) (fun cdv A outer s H vs Q E hr h => ?_)
  · obtain ⟨p, dx, t, rfl, _⟩ := h
    rfl
  · obtain ⟨p, dx, t, rfl, hp, ht, hg, q⟩ := h
    refine ⟨_, pss_cons (ps_if (pt_not (pt_val (pe_callB call_isi (by rfl) mi (by decide +kernel) (pa_cons (pv 1) (pa_cons (pe_bltn (v := .ty "str") (by rfl) m1 (by decide +kernel) rfl) pa_nil))))) (pss_one ps_never) pss_nil)
      (pss_cons (ps_fld (pv 0) (pv 1) rfl) (pss_cons (ps_fld (pv 0) (pe_call GP hr (by rfl) gP kP bP .nil pass0 (pa_cons (pv 1) pa_nil)) rfl) (pss_one (ps_fld (pv 0) pe_int rfl)))), ?_⟩
    refine ⟨_, rfl, .str (T t), .ty "str", _, _, true, rfl, .ty _, .base (.str _), kit_ty (by decide +kernel), _, rfl, iteF ?_⟩
    refine ⟨_, rfl, _, rfl, p, C, dx, [], rfl, hp, X.cl, X.nT, (by show 0 < 1000; decide), ?_⟩
    have h1 : upd H p (.ins C dx (putF "text" (.str (T t)) [])) p = some (.ins C dx (putF "text" (.str (T t)) [])) := upd_same
    have k1 : Kr p H (upd H p (.ins C dx (putF "text" (.str (T t)) []))) := fun b o h e => by
      rw [upd_ne h]
      exact e
    have fr : ∀ l, upd H p (.ins C dx (putF "text" (.str (T t)) [])) l = none → H l = none := fun l e => by
      have : l ≠ p := fun z => by
        rw [z, upd_same] at e
        cases e
      rw [upd_ne this] at e
      exact e
    generalize upd H p (.ins C dx (putF "text" (.str (T t)) [])) = H1 at *
    refine ⟨_, rfl, t, rfl, ht, fun H2 l s2 nl hl => ?_⟩
    have nlp : l ≠ p := (ne_of_none h1 nl).symm
    refine ⟨_, rfl, p, C, dx, _, rfl, s2 _ _ h1, X.cl, X.nP, (by show 1 < 1000; decide), ?_⟩
    refine ⟨_, rfl, p, C, dx, _, rfl, upd_same, X.cl, X.nA, (by rw [rf_two]; show 2 < 1000; decide), ?_⟩
    refine q _ l (fun b o h e => ?_) (fr l nl) ⟨⟨dx, ?_⟩, ?_, hg⟩
    · rw [upd_ne h, upd_ne h]
      exact s2 _ _ (k1 b o h e)
    · rw [upd_same, rf_new]
    · rw [upd_ne nlp, upd_ne nlp]
      exact hl
/-! peek -/
def spPeek (C : Addr) : Sp := fun vs H Q _ => ∃ (p l : Addr) (z : Str) (ps : List (List Nat)) (k : Nat), vs = [.ref p] ∧ Rd C H p z l ps k ∧ Q (tv (ps.getD k [])) H
theorem ok_peek {f C : Addr} {fd : FuncData} {j : Nat} (F : Fun K "peek" "Reader.peek" sPeek f fd) (X : RTxt K mg C) : FnOk P w K mg base CX0 (j + 1) f fd ["self"] (spPeek C) := by
  refine F.ok scPeek (fun vs H Q E h => ?_) (fun cdv A outer s H vs Q E hr h => ?_)
  · obtain ⟨p, l, z, ps, k, rfl, _⟩ := h
    rfl
  · obtain ⟨p, l, z, ps, k, rfl, ⟨⟨dx, hp⟩, hl, hn⟩, q⟩ := h
    refine ⟨_, pss_one (ps_ret (pe_ifExp (pt_cmpR op_lt (pe_fld (pv 0) rfl) (pe_callB call_len_seq (by rfl) X.len PySem.boot_len (pa_cons (pe_fld (pv 0) rfl) pa_nil)) (nomark _)) (pe_ix ix_list (pe_fld (pv 0) rfl) (pe_fld (pv 0) rfl) (fun _ _ => rfl)) pe_str)), ?_⟩
    refine ⟨_, rfl, p, C, dx, _, _, rfl, hp, X.cl, X.nA, rf_at _ _ _, _, rfl, p, C, dx, _, _, rfl, hp, X.cl, X.nP, rf_pieces _ _ _, l, _, rfl, .inl (.inl (.inl hl)), _, _, rfl, rfl, _, rfl, ?_⟩
    rw [List.length_map]
    by_cases hk : k < ps.length
    · rw [decide_eq_true (show ((k : Nat) : Int) < ((ps.length : Nat) : Int) by omega)]
      refine iteT ⟨_, rfl, p, C, dx, _, _, rfl, hp, X.cl, X.nP, rf_pieces _ _ _, _, rfl, p, C, dx, _, _, rfl, hp, X.cl, X.nA, rf_at _ _ _, l, _, _, tv (ps.getD k []), rfl, rfl, .inl (.inl hl), ?_, q⟩
      refine atI_nat ?_
      rw [List.getElem?_map, List.getElem?_eq_getElem hk, List.getD_eq_getElem?_getD, List.getElem?_eq_getElem hk]
      rfl
    · rw [decide_eq_false (show ¬ ((k : Nat) : Int) < ((ps.length : Nat) : Int) by omega)]
      have e : ps.getD k [] = [] := by rw [List.getD_eq_getElem?_getD, List.getElem?_eq_none (by omega)]; rfl
      rw [e] at q
      have e2 : (T [] : Str) = ("" : Str) := str_eq_of rfl
      have q2 : Q (.str (T [])) H := q
      rw [e2] at q2
      exact iteF q2
/-! next_piece -/
def spNextP (C : Addr) : Sp := fun vs H Q _ => ∃ (p l : Addr) (z : Str) (ps : List (List Nat)) (k : Nat), vs = [.ref p] ∧ Rd C H p z l ps k ∧ ∀ H', Rd C H' p z l ps (k + 1) → Kr p H H' → Q (tv (ps.getD k [])) H'
theorem ok_nextp {f fK C : Addr} {fd fdK : FuncData} {j : Nat} (F : Fun K "next_piece" "Reader.next_piece" sNextP f fd) (X : RTxt K mg C) (GK : FnOk P w K mg base CX0 (j + 1) fK fdK ["self"] (spPeek C)) (bK : Binds K fdK ["self"] []) (mK : Meth K C "peek" fK) :
    FnOk P w K mg base CX0 (j + 2) f fd ["self"] (spNextP C) := by
  refine F.ok scNextP (fun vs H Q E h => ?_) (fun cdv A outer s H vs Q E hr h => ?_)
  · obtain ⟨p, l, z, ps, k, rfl, _⟩ := h
    rfl
  · obtain ⟨p, l, z, ps, k, rfl, R, q⟩ := h
    obtain ⟨⟨dx, hp⟩, hl, hn⟩ := id R
    refine ⟨_, pss_cons (ps_set (i := 1) scNextP.nd rfl (.inl rfl) (pe_meth0 (pv 0) X.cl mK GK hr bK .nil pass0)) (pss_cons (ps_fldaug (pv 0) pe_int in_add) (pss_one (ps_ret (pv 1)))), ?_⟩
    refine ⟨_, rfl, p, dx, _, rfl, hp, rf_no (by decide +kernel) (by decide +kernel) (by decide +kernel) _ _ _, p, l, z, ps, k, rfl, R, ?_⟩
    refine ⟨_, rfl, p, C, dx, _, _, rfl, hp, X.cl, X.nA, rf_at _ _ _, _, _, rfl, rfl, _, _, hp, (by show 3 < 1000; decide), ?_⟩
    have e : putF "at" (.int ((k : Int) + 1)) (rf z l k) = rf z l (k + 1) := by
      have := rf_put z l k (k + 1)
      rw [show (((k + 1 : Nat)) : Int) = (k : Int) + 1 by omega] at this
      exact this
    rw [e]
    have nlp := R.ne
    exact ⟨_, rfl, q _ ⟨⟨dx, upd_same⟩, by rw [upd_ne nlp]; exact hl, hn⟩ fun b o h e => by rw [upd_ne h]; exact e⟩
/-! expect -/
def spExpect (C : Addr) : Sp := fun vs H Q _ => ∃ (p l : Addr) (z : Str) (ps : List (List Nat)) (k : Nat) (a : List Nat), vs = [.ref p, tv a] ∧ Rd C H p z l ps k ∧ ps.getD k [] = a ∧ ∀ H', Rd C H' p z l ps (k + 1) → Kr p H H' → Q .non H'
theorem ok_expect {f fK C : Addr} {fd fdK : FuncData} {j : Nat} (F : Fun K "expect" "Reader.expect" sExpect f fd) (X : RTxt K mg C) (GK : FnOk P w K mg base CX0 (j + 1) fK fdK ["self"] (spNextP C)) (bK : Binds K fdK ["self"] []) (mK : Meth K C "next_piece" fK) :
    FnOk P w K mg base CX0 (j + 2) f fd ["self", "piece"] (spExpect C) := by
  refine F.ok scExpect (fun vs H Q E h => ?_) (fun cdv A outer s H vs Q E hr h => ?_)
  · obtain ⟨p, l, z, ps, k, a, rfl, _⟩ := h
    rfl
  · obtain ⟨p, l, z, ps, k, a, rfl, R, ha, q⟩ := h
    obtain ⟨⟨dx, hp⟩, hl, hn⟩ := id R
    refine ⟨_, pss_one (ps_if (pt_cmpR op_ne (pe_meth0 (pv 0) X.cl mK GK hr bK .nil pass0) (pv 1) (nomark _)) (pss_one ps_never) pss_nil), ?_⟩
    refine ⟨_, rfl, p, dx, _, rfl, hp, rf_no (by decide +kernel) (by decide +kernel) (by decide +kernel) _ _ _, p, l, z, ps, k, rfl, R, fun H' R' k' => ⟨_, rfl, rfl, _, rfl, ?_⟩⟩
    rw [ha, decide_eq_true rfl]
    exact iteF (q H' R' k')
/-! expect_end -/
def spExpEnd (C : Addr) : Sp := fun vs H Q _ => ∃ (p l : Addr) (z : Str) (ps : List (List Nat)) (k : Nat), vs = [.ref p] ∧ Rd C H p z l ps k ∧ ps.length ≤ k ∧ Q .non H
theorem ok_expend {f C : Addr} {fd : FuncData} {j : Nat} (F : Fun K "expect_end" "Reader.expect_end" sExpEnd f fd) (X : RTxt K mg C) : FnOk P w K mg base CX0 (j + 1) f fd ["self"] (spExpEnd C) := by
  refine F.ok scExpEnd (fun vs H Q E h => ?_) (fun cdv A outer s H vs Q E hr h => ?_)
  · obtain ⟨p, l, z, ps, k, rfl, _⟩ := h
    rfl
  · obtain ⟨p, l, z, ps, k, rfl, ⟨⟨dx, hp⟩, hl, hn⟩, hk, q⟩ := h
    refine ⟨_, pss_one (ps_if (pt_cmpR op_lt (pe_fld (pv 0) rfl) (pe_callB call_len_seq (by rfl) X.len PySem.boot_len (pa_cons (pe_fld (pv 0) rfl) pa_nil)) (nomark _)) (pss_one ps_never) pss_nil), ?_⟩
    refine ⟨_, rfl, p, C, dx, _, _, rfl, hp, X.cl, X.nA, rf_at _ _ _, _, rfl, p, C, dx, _, _, rfl, hp, X.cl, X.nP, rf_pieces _ _ _, l, _, rfl, .inl (.inl (.inl hl)), _, _, rfl, rfl, _, rfl, ?_⟩
    rw [List.length_map, decide_eq_false (show ¬ ((k : Nat) : Int) < ((ps.length : Nat) : Int) by omega)]
    exact iteF q
/-! next_atom -/
def spNextA (C : Addr) : Sp := fun vs H Q _ => ∃ (p l : Addr) (z : Str) (ps : List (List Nat)) (k : Nat) (t : Tm), vs = [.ref p] ∧ Rd C H p z l ps k ∧ t.ok ∧ isAtom t = true ∧ ps.getD k [] = atx t ∧ ∀ H' v, Rd C H' p z l ps (k + 1) → Kr p H H' → IsTm H' v t → Q v H'
def spNextA0 (C : Addr) : Sp := fun vs H Q _ => ∃ (p l : Addr) (z : Str) (ps : List (List Nat)) (k : Nat) (t : Tm), vs = [.ref p] ∧ Rd C H p z l ps k ∧ t.ok ∧ isAtom t = true ∧ t.isUnk = false ∧ ps.getD k [] = atx t ∧ ∀ H' v, Rd C H' p z l ps (k + 1) → Kr p H H' → IsTm H' v t → Q v H'
theorem ok_nexta {f fK fA C : Addr} {fd fdK fdA : FuncData} {j : Nat} (F : Fun K "next_atom" "Reader.next_atom" sNextA f fd) (X : RTxt K mg C) (GK : FnOk P w K mg base CX0 (j + 1) fK fdK ["self"] (spNextP C)) (bK : Binds K fdK ["self"] []) (mK : Meth K C "next_piece" fK)
    (GA : FnOk P w K mg base CX0 (j + 1) fA fdA ["piece"] spAtom) (bA : Binds K fdA ["piece"] []) (gA : mg "atom_of" = some (.ref fA)) (kA : PySem.W.keepIn K (.ref fA) = true) : FnOk P w K mg base CX0 (j + 2) f fd ["self"] (spNextA0 C) := by
  refine F.ok scNextA (fun vs H Q E h => ?_) (fun cdv A outer s H vs Q E hr h => ?_)
  · obtain ⟨p, l, z, ps, k, t, rfl, _⟩ := h
    rfl
  · obtain ⟨p, l, z, ps, k, t, rfl, R, ok, ha, hu, hk, q⟩ := h
    obtain ⟨⟨dx, hp⟩, hl, hn⟩ := id R
    refine ⟨_, pss_cons (ps_set (i := 1) scNextA.nd rfl (.inl rfl) (pe_call GA hr (by rfl) gA kA bA .nil pass0 (pa_cons (pe_meth0 (pv 0) X.cl mK GK hr bK .nil pass0) pa_nil)))
      (pss_cons (ps_if (pt_cmpR op_isN (pv 1) pe_non (nomark _)) (pss_one ps_never) pss_nil) (pss_one (ps_ret (pv 1)))), ?_⟩
    refine ⟨_, rfl, p, dx, _, rfl, hp, rf_no (by decide +kernel) (by decide +kernel) (by decide +kernel) _ _ _, p, l, z, ps, k, rfl, R, fun H' R' k' => ?_⟩
    rw [hk]
    refine ⟨t, rfl, ok, ha, hu, fun H2 v s2 hv => ⟨v, rfl, rfl, _, rfl, ?_⟩⟩
    have hne : ¬ v = .non := fun e => by
      subst e
      cases hv
    rw [decide_eq_false hne]
    exact iteF ⟨v, rfl, q H2 v (R'.same s2) (k'.trans (krSame s2)) hv⟩
/-! unknown_by -/
def spUnkBy : Sp := fun vs H Q _ => ∃ (x : V) (m : Nat), vs = [x, .str (T (TL.numL m))] ∧ m < 10 ^ 41 ∧ ∀ H' v, Same H H' → IsTm H' v (.unk (m : Int)) → Q v H'
theorem ok_unkby {f fF : Addr} {fd fdF : FuncData} {j : Nat} (F : Fun K "unknown_by" "Reader.unknown_by" sUnkBy f fd) (GF : FnOk P w K mg base CX0 (j + 1) fF fdF ["text"] spFigs) (bF : Binds K fdF ["text"] []) (gF : mg "are_figures" = some (.ref fF)) (kF : PySem.W.keepIn K (.ref fF) = true) (mi : mg "int" = none) :
    FnOk P w K mg base CX0 (j + 2) f fd ["self", "mark"] spUnkBy := by
  refine F.ok scUnkBy (fun vs H Q E h => ?_) (fun cdv A outer s H vs Q E hr h => ?_)
  · obtain ⟨x, m, rfl, _⟩ := h
    rfl
  · obtain ⟨x, m, rfl, hm, q⟩ := h
    refine ⟨_, pss_one (ps_ret (pe_ifExp (pt_val (pe_call GF hr (by rfl) gF kF bF .nil pass0 (pa_cons (pv 1) pa_nil))) (pe_tup (pa_cons pe_str (pa_cons (pe_callTy call_int_str (by rfl) mi (by decide +kernel) (pa_cons (pv 1) pa_nil)) pa_nil))) pe_non)), ?_⟩
    have hl := numL_len41 hm
    refine ⟨_, rfl, _, rfl, by rw [T_len]; omega, fun H1 s1 => ⟨_, rfl, ?_⟩⟩
    rw [T_l, figs_num]
    refine iteT ⟨_, rfl, _, _, rfl, int_T hm, by rw [T_len]; omega, (by show 2 ≤ sizeLine; decide), fun p np => ?_⟩
    exact q _ _ (s1.trans (same_upd np)) (.unk upd_same)
theorem atx_short1000 {t : Tm} (ok : t.ok) : (atx t).length ≤ 1000 := by
  cases t with
  | nil => exact Nat.zero_le _
  | pair a b => exact Nat.zero_le _
  | wrd z =>
    have e : (atx (.wrd z)).length = z.length := (len_strL z).symm
    have := ok.2.1
    omega
  | int i =>
    cases i with
    | ofNat n =>
      have := numL_len41 (n := n) ok
      show (TL.numL n).length ≤ 1000
      omega
    | negSucc n =>
      have := numL_len41 (n := n + 1) ok
      show (TL.numL (n + 1)).length + 1 ≤ 1000
      omega
  | unk n =>
    obtain ⟨m, rfl⟩ : ∃ m : Nat, n = (m : Int) := ⟨n.toNat, by have := ok.1; omega⟩
    have := numL_len41 (n := m) (by have := ok.2; omega)
    show (TL.numL m).length + 1 ≤ 1000
    omega
theorem atx_first {t : Tm} (ok : t.ok) (ha : isAtom t = true) (hu : t.isUnk = false) : ∃ c r, atx t = c :: r ∧ c ≠ 63 := by
  cases t with
  | nil => cases ha
  | pair a b => cases ha
  | unk n => cases hu
  | wrd z =>
    obtain ⟨h1, h2, h3⟩ := ok
    have e : atx (.wrd z) = z.cps.toList := rfl
    rw [e]
    cases hz : z.cps.toList with
    | nil =>
      have : z.length = z.cps.toList.length := len_strL z
      rw [hz] at this
      rw [this] at h1
      simp at h1
    | cons c r =>
      have := h3 c (by rw [hz]; exact List.mem_cons_self ..)
      exact ⟨c, r, rfl, by omega⟩
  | int i =>
    cases i with
    | ofNat n =>
      have e : atx (.int (.ofNat n)) = TL.numL n := rfl
      rw [e]
      cases hl : TL.numL n with
      | nil => exact absurd hl (TL.numL_ne n)
      | cons c r =>
        have hc := numL_dl (n := n) (c := c) (by rw [hl]; exact List.mem_cons_self ..)
        exact ⟨c, r, rfl, by omega⟩
    | negSucc n => exact ⟨45, _, rfl, by omega⟩
/-! next_single -/
theorem ok_nexts {f fK fN fA fU C : Addr} {fd fdK fdN fdA fdU : FuncData} {j : Nat} (F : Fun K "next_single" "Reader.next_single" sNextS f fd) (X : RTxt K mg C) (GK : FnOk P w K mg base CX0 (j + 1) fK fdK ["self"] (spPeek C)) (bK : Binds K fdK ["self"] []) (mK : Meth K C "peek" fK)
    (GN : FnOk P w K mg base CX0 (j + 1) fN fdN ["self"] (spNextP C)) (bN : Binds K fdN ["self"] []) (mN : Meth K C "next_piece" fN)
    (GA : FnOk P w K mg base CX0 (j + 1) fA fdA ["self"] (spNextA0 C)) (bA : Binds K fdA ["self"] []) (mA : Meth K C "next_atom" fA)
    (GU : FnOk P w K mg base CX0 (j + 1) fU fdU ["self", "mark"] spUnkBy) (bU : Binds K fdU ["self", "mark"] []) (mU : Meth K C "unknown_by" fU) : FnOk P w K mg base CX0 (j + 2) f fd ["self"] (spNextA C) := by
  refine F.ok scNextS (fun vs H Q E h => ?_) (fun cdv A outer s H vs Q E hr h => ?_)
  · obtain ⟨p, l, z, ps, k, t, rfl, _⟩ := h
    rfl
  · obtain ⟨p, l, z, ps, k, t, rfl, R, ok, ha, hk, q⟩ := h
    have nk : ∀ (k : Nat), (rf z l k).lookup ("peek" : Str) = none := fun k => rf_no (by decide +kernel) (by decide +kernel) (by decide +kernel) _ _ _
    have nn : ∀ (k : Nat), (rf z l k).lookup ("next_piece" : Str) = none := fun k => rf_no (by decide +kernel) (by decide +kernel) (by decide +kernel) _ _ _
    have na : ∀ (k : Nat), (rf z l k).lookup ("next_atom" : Str) = none := fun k => rf_no (by decide +kernel) (by decide +kernel) (by decide +kernel) _ _ _
    have nu : ∀ (k : Nat), (rf z l k).lookup ("unknown_by" : Str) = none := fun k => rf_no (by decide +kernel) (by decide +kernel) (by decide +kernel) _ _ _
    obtain ⟨⟨dx, hp⟩, hl, hn⟩ := id R
    refine ⟨_, pss_cons (ps_if (pt_cmpR op_ne (pe_slice sl_str (pe_meth0 (pv 0) X.cl mK GK hr bK .nil pass0) po_none (po_some pe_int)) pe_str (nomark _)) (pss_one (ps_ret (pe_meth0 (pv 0) X.cl mA GA hr bA .nil pass0))) pss_nil)
      (pss_cons (ps_set (i := 1) scNextS.nd rfl (.inl rfl) (pe_meth (pv 0) X.cl mU GU hr bU .nil pass0 (pa_cons (pe_slice sl_str (pe_meth0 (pv 0) X.cl mN GN hr bN .nil pass0) (po_some pe_int) po_none) pa_nil)))
      (pss_cons (ps_if (pt_cmpR op_isN (pv 1) pe_non (nomark _)) (pss_one ps_never) pss_nil) (pss_one (ps_ret (pv 1))))), ?_⟩
    refine ⟨_, rfl, p, dx, _, rfl, hp, nk _, p, l, z, ps, k, rfl, R, ?_⟩
    rw [hk]
    have hlen : (T (atx t)).length ≤ 1000 := by
      rw [T_len]
      exact atx_short1000 ok
    refine ⟨1, rfl, _, rfl, Nat.le_trans hlen (by decide), rfl, _, rfl, ?_⟩
    cases hu : t.isUnk with
    | false =>
      obtain ⟨c, r, e, hc⟩ := atx_first ok ha hu
      rw [e, cut_to1]
      have hne : ¬ V.str (T [c]) = V.str ("?" : Str) := fun z => by
        have h1 : (T [c]).cps.toList = ("?" : Str).cps.toList := by rw [V.str.inj z]
        have h2 : [c] = [63] := h1
        exact hc (List.cons.inj h2).1
      rw [decide_eq_false hne]
      refine iteT ⟨_, rfl, p, dx, _, rfl, hp, na _, p, l, z, ps, k, t, rfl, R, ok, ha, hu, hk, ?_⟩
      exact q
    | true =>
      cases t with
      | nil => cases ha
      | pair a b => cases ha
      | int i => cases hu
      | wrd z => cases hu
      | unk n =>
        obtain ⟨m, rfl⟩ : ∃ m : Nat, n = (m : Int) := ⟨n.toNat, by have := ok.1; omega⟩
        have hn : m < 10 ^ 41 := by
          have := ok.2
          omega
        have ea : atx (.unk (m : Int)) = 63 :: TL.numL m := rfl
        rw [ea, cut_to1, decide_eq_true (show V.str (T [63]) = V.str ("?" : Str) by decide +kernel)]
        refine iteF ⟨_, rfl, p, dx, _, rfl, hp, nu _, _, rfl, p, dx, _, rfl, hp, nn _, p, l, z, ps, k, rfl, R, fun H1 R1 k1 => ?_⟩
        rw [hk]
        refine ⟨1, rfl, _, rfl, Nat.le_trans hlen (by decide), ?_⟩
        rw [ea, cut_from]
        refine ⟨_, m, rfl, hn, fun H2 v s2 hv => ⟨v, rfl, rfl, _, rfl, ?_⟩⟩
        have hne : ¬ v = .non := fun e => by
          subst e
          cases hv
        rw [decide_eq_false hne]
        exact iteF ⟨v, rfl, q H2 v (R1.same s2) (k1.trans (krSame s2)) hv⟩
/-! next_end -/
def spNextE (C : Addr) : Sp := fun vs H Q _ => ∃ (p l : Addr) (z : Str) (ps : List (List Nat)) (k : Nat) (t : Tm), vs = [.ref p] ∧ Rd C H p z l ps k ∧ t.ok ∧ isAtom t = true ∧ ps.getD k [] = [46] ∧ ps.getD (k + 1) [] = [32] ∧ ps.getD (k + 2) [] = atx t ∧ ps.getD (k + 3) [] = [41] ∧ ∀ H' v, Rd C H' p z l ps (k + 4) → Kr p H H' → IsTm H' v t → Q v H'
theorem ok_nexte {f fX fA C : Addr} {fd fdX fdA : FuncData} {j : Nat} (F : Fun K "next_end" "Reader.next_end" sNextE f fd) (X : RTxt K mg C) (GX : FnOk P w K mg base CX0 (j + 1) fX fdX ["self", "piece"] (spExpect C)) (bX : Binds K fdX ["self", "piece"] []) (mX : Meth K C "expect" fX)
    (GA : FnOk P w K mg base CX0 (j + 1) fA fdA ["self"] (spNextA C)) (bA : Binds K fdA ["self"] []) (mA : Meth K C "next_single" fA) : FnOk P w K mg base CX0 (j + 2) f fd ["self"] (spNextE C) := by
  refine F.ok scNextE (fun vs H Q E h => ?_) (fun cdv A outer s H vs Q E hr h => ?_)
  · obtain ⟨p, l, z, ps, k, t, rfl, _⟩ := h
    rfl
  · obtain ⟨p, l, z, ps, k, t, rfl, R, ok, ha, h0, h1, h2, h3, q⟩ := h
    have nx : ∀ (k : Nat), (rf z l k).lookup ("expect" : Str) = none := fun k => rf_no (by decide +kernel) (by decide +kernel) (by decide +kernel) _ _ _
    have na : ∀ (k : Nat), (rf z l k).lookup ("next_single" : Str) = none := fun k => rf_no (by decide +kernel) (by decide +kernel) (by decide +kernel) _ _ _
    refine ⟨_, pss_cons (ps_expr (pe_meth (pv 0) X.cl mX GX hr bX .nil pass0 (pa_cons pe_str pa_nil))) (pss_cons (ps_expr (pe_meth (pv 0) X.cl mX GX hr bX .nil pass0 (pa_cons pe_str pa_nil)))
      (pss_cons (ps_set (i := 1) scNextE.nd rfl (.inl rfl) (pe_meth0 (pv 0) X.cl mA GA hr bA .nil pass0)) (pss_cons (ps_expr (pe_meth (pv 0) X.cl mX GX hr bX .nil pass0 (pa_cons pe_str pa_nil))) (pss_one (ps_ret (pv 1)))))), ?_⟩
    obtain ⟨dx, hp⟩ := R.i
    refine ⟨_, rfl, p, dx, _, rfl, hp, nx _, p, l, z, ps, k, [46], rfl, R, h0, fun H1 R1 k1 => ?_⟩
    obtain ⟨dx1, hp1⟩ := R1.i
    refine ⟨_, rfl, p, dx1, _, rfl, hp1, nx _, p, l, z, ps, k + 1, [32], rfl, R1, h1, fun H2 R2 k2 => ?_⟩
    obtain ⟨dx2, hp2⟩ := R2.i
    refine ⟨_, rfl, p, dx2, _, rfl, hp2, na _, p, l, z, ps, k + 2, t, rfl, R2, ok, ha, h2, fun H3 v R3 k3 hv => ?_⟩
    obtain ⟨dx3, hp3⟩ := R3.i
    refine ⟨_, rfl, p, dx3, _, rfl, hp3, nx _, p, l, z, ps, k + 3, [41], rfl, R3, h3, fun H4 R4 k4 => ?_⟩
    exact ⟨v, rfl, q H4 v R4 (k1.trans (k2.trans (k3.trans k4))) (hv.keep (krTup R3 k4))⟩
end
end Ksec

set_option Elab.async false
set_option linter.all false
set_option maxRecDepth 100000
set_option maxHeartbeats 4000000
namespace Ksec
open PySem PySem.Spec PyProof.Rows L2
/-! the left edge of a term -/
def leafOf : Tm → Tm
  | .pair a _ => leafOf a
  | t => t
def spine : Tm → List Tm
  | .pair a b => spine a ++ [b]
  | _ => []
theorem spine_ok : ∀ {t : Tm}, t.ok → ∀ b ∈ spine t, b.ok
  | .int _, _, b, h => absurd h List.not_mem_nil
  | .wrd _, _, b, h => absurd h List.not_mem_nil
  | .nil, _, b, h => absurd h List.not_mem_nil
  | .unk _, _, b, h => absurd h List.not_mem_nil
  | .pair a c, ho, b, h => by
    rcases List.mem_append.mp h with h | h
    · exact spine_ok ho.1 b h
    · rw [List.mem_singleton.mp h]
      exact ho.2
theorem tv_inj {a b : List Nat} (h : tv a = tv b) : a = b := by
  have h1 : T a = T b := V.str.inj h
  have h2 : (T a).cps.toList = (T b).cps.toList := by rw [h1]
  exact h2
theorem drop_get {ps : List (List Nat)} {k : Nat} {a : List Nat} {r : List (List Nat)} (h : ps.drop k = a :: r) : ps.getD k [] = a ∧ ps.drop (k + 1) = r ∧ k < ps.length := by
  have hk : k < ps.length := by
    by_cases hk : k < ps.length
    · exact hk
    · rw [List.drop_eq_nil_iff.mpr (by omega)] at h
      cases h
  rw [List.drop_eq_getElem_cons hk] at h
  obtain ⟨h1, h2⟩ := List.cons.inj h
  refine ⟨?_, h2, hk⟩
  rw [List.getD_eq_getElem?_getD, List.getElem?_eq_getElem hk]
  exact h1
theorem drop_app {ps : List (List Nat)} {k : Nat} {a : List Nat} {r s : List (List Nat)} (h : ps.drop k = (a :: r) ++ s) : ps.getD k [] = a ∧ ps.drop (k + 1) = r ++ s ∧ k < ps.length := drop_get h
/-- the first piece of an atom -/
theorem atx_no {t : Tm} (h : t.ok) (ha : isAtom t = true) : atx t ≠ [40] ∧ atx t ≠ [41] ∧ atx t ≠ [46] := by
  have hs := atx_sign h
  refine ⟨fun e => ?_, fun e => ?_, fun e => ?_⟩
  · have := hs 40 (by rw [e]; exact List.mem_singleton.mpr rfl)
    omega
  · have := hs 41 (by rw [e]; exact List.mem_singleton.mpr rfl)
    omega
  · have := hs 46 (by rw [e]; exact List.mem_singleton.mpr rfl)
    omega
theorem pcs_head {t : Tm} (h : t.ok) : ∃ a r, pcs t = a :: r ∧ a ≠ [41] ∧ a ≠ [46] := by
  cases t with
  | nil => exact ⟨[40], [[41]], by simp [pcs], by decide, by decide⟩
  | pair a b => exact ⟨[40], pcs a ++ ptl b, by simp [pcs], by decide, by decide⟩
  | int i => exact ⟨_, [], pcs_atom rfl, (atx_no h rfl).2.1, (atx_no h rfl).2.2⟩
  | wrd i => exact ⟨_, [], pcs_atom rfl, (atx_no h rfl).2.1, (atx_no h rfl).2.2⟩
  | unk i => exact ⟨_, [], pcs_atom rfl, (atx_no h rfl).2.1, (atx_no h rfl).2.2⟩
/-- all but p and L stays -/
def Kl (p L : Addr) (H H' : Hp) : Prop := ∀ b o, b ≠ p → b ≠ L → H b = some o → H' b = some o
theorem Kl.trans {p L : Addr} {H H1 H2 : Hp} (a : Kl p L H H1) (b : Kl p L H1 H2) : Kl p L H H2 := fun x o h1 h2 e => b x o h1 h2 (a x o h1 h2 e)
theorem klOf {p L : Addr} {H H1 : Hp} (a : Kr p H H1) : Kl p L H H1 := fun x o h _ e => a x o h e
section
variable {P : Program} {w : World} {K : PySem.W.Frag} {mg : Str → Option Value} {base : Heap}
def spNextL (C : Addr) : Sp := fun vs H Q _ => ∃ (p l L : Addr) (z : Str) (ps : List (List Nat)) (k : Nat) (ys : List V) (t : Tm) (rest : List (List Nat)),
  vs = [.ref p, .ref L] ∧ Rd C H p z l ps k ∧ H L = some (.lst ys) ∧ L ≠ l ∧ t.ok ∧ ps.drop k = pcs t ++ rest ∧ ys.length + t.size ≤ 1000000 ∧
  ∀ H' v k' (ns : List Addr), Rd C H' p z l ps k' → Kl p L H H' → H' L = some (.lst (ys ++ ns.map V.ref)) → ns.length = (spine t).length → (∀ n ∈ ns, H n = none) → ns.Nodup → (∀ n ∈ ns, H' n = some (.lst [])) → IsTm H' v (leafOf t) →
    ps.drop k' = ((spine t).map ptl).flatten ++ rest → k < k' → Q v H'
theorem ok_nextl {f fK fX fA C : Addr} {fd fdK fdX fdA : FuncData} {j : Nat} (F : Fun K "next_leaf" "Reader.next_leaf" sNextL f fd) (X : RTxt K mg C) (GK : FnOk P w K mg base CX0 (j + 1) fK fdK ["self"] (spPeek C)) (bK : Binds K fdK ["self"] []) (mK : Meth K C "peek" fK)
    (GX : FnOk P w K mg base CX0 (j + 1) fX fdX ["self", "piece"] (spExpect C)) (bX : Binds K fdX ["self", "piece"] []) (mX : Meth K C "expect" fX)
    (GA : FnOk P w K mg base CX0 (j + 1) fA fdA ["self"] (spNextA C)) (bA : Binds K fdA ["self"] []) (mA : Meth K C "next_single" fA) : FnOk P w K mg base CX0 (j + 2) f fd ["self", "lists"] (spNextL C) := by
  refine F.ok scNextL (fun vs H Q E h => ?_) (fun cdv A outer s H vs Q E hr h => ?_)
  · obtain ⟨p, l, L, z, ps, k, ys, t, rest, rfl, _⟩ := h
    rfl
  · obtain ⟨p, l, L, z, ps, k, ys, t, rest, rfl, R, hL, hLl, ok, hdr, hz, q⟩ := h
    have nk : ∀ (k : Nat), (rf z l k).lookup ("peek" : Str) = none := fun k => rf_no (by decide +kernel) (by decide +kernel) (by decide +kernel) _ _ _
    have nx : ∀ (k : Nat), (rf z l k).lookup ("expect" : Str) = none := fun k => rf_no (by decide +kernel) (by decide +kernel) (by decide +kernel) _ _ _
    have na : ∀ (k : Nat), (rf z l k).lookup ("next_single" : Str) = none := fun k => rf_no (by decide +kernel) (by decide +kernel) (by decide +kernel) _ _ _
    refine ⟨_, pss_cons (ps_while PassesOwn.never (pt_cmpR op_eq (pe_meth0 (pv 0) X.cl mK GK hr bK .nil pass0) pe_str (nomark _))
        (pss_cons (ps_expr (pe_meth (pv 0) X.cl mX GX hr bX .nil pass0 (pa_cons pe_str pa_nil)))
        (pss_cons (ps_if (pt_cmpR op_eq (pe_meth0 (pv 0) X.cl mK GK hr bK .nil pass0) pe_str (nomark _))
          (pss_cons (ps_expr (pe_meth (pv 0) X.cl mX GX hr bX .nil pass0 (pa_cons pe_str pa_nil))) (pss_one (ps_ret (pe_tup pa_nil)))) pss_nil)
        (pss_one (ps_expr (pe_bm PySem.F.plainAttrs_list PySem.F.slot_list_append PySem.F.type_list_append mt_append (pv 1) (pa_cons (pe_lst pa_nil) pa_nil)))))))
      (pss_one (ps_ret (pe_meth0 (pv 0) X.cl mA GA hr bA .nil pass0))), ?_⟩
    refine ⟨fun m σ H' => ∃ (t' : Tm) (dn : List Tm) (ns : List Addr) (k' : Nat), σ = [some (.ref p), some (.ref L)] ∧ m = t'.size ∧ t'.ok ∧ Rd C H' p z l ps k' ∧ Kl p L H H' ∧ H' L = some (.lst (ys ++ ns.map V.ref)) ∧ ns.length = dn.length ∧ (∀ n ∈ ns, H n = none) ∧ ns.Nodup ∧
        (∀ n ∈ ns, H' n = some (.lst [])) ∧ spine t = spine t' ++ dn ∧ leafOf t = leafOf t' ∧ ps.drop k' = pcs t' ++ ((dn.map ptl).flatten ++ rest) ∧ k ≤ k' ∧ ns.length + t'.size ≤ t.size,
      ⟨t.size, t, [], [], k, rfl, rfl, ok, R, fun _ _ _ _ e => e, by simpa using hL, rfl, fun n h => absurd h List.not_mem_nil, List.nodup_nil, fun n h => absurd h List.not_mem_nil, by simp, rfl, by simpa using hdr, Nat.le_refl _, by simp⟩, fun m σ H' hW => ?_⟩
    obtain ⟨t', dn, ns, k', rfl, rfl, ok', R', kl, hL', hln, hnw, hnd, hne, hsp, hlf, hdr', hkk, hsz⟩ := hW
    obtain ⟨dx, hp⟩ := R'.i
    refine ⟨_, rfl, p, dx, _, rfl, hp, nk _, p, l, z, ps, k', rfl, R', rfl, _, rfl, ?_⟩
    have atom : isAtom t' = true → spine t' = [] ∧ leafOf t' = t' := fun h => by
      cases t' with
      | nil => cases h
      | pair a b => cases h
      | int i => exact ⟨rfl, rfl⟩
      | wrd i => exact ⟨rfl, rfl⟩
      | unk i => exact ⟨rfl, rfl⟩
    by_cases ha : isAtom t' = true
    · rw [pcs_atom ha] at hdr'
      obtain ⟨e1, e2, e3⟩ := drop_app hdr'
      obtain ⟨a1, a2⟩ := atom ha
      refine ite2 (fun e => absurd (tv_inj (b := [40]) ((congrArg tv e1).symm.trans (of_decide_eq_true e))) (atx_no ok' ha).1) (fun _ => ?_)
      refine ⟨_, rfl, p, dx, _, rfl, hp, na _, p, l, z, ps, k', t', rfl, R', ok', ha, e1, fun H1 v R1 k1 hv => ?_⟩
      refine q H1 v (k' + 1) ns R1 (kl.trans (klOf k1)) ?_ ?_ hnw hnd (fun n hn => ?_) ?_ ?_ (by omega)
      · exact k1 _ _ (ne_of hL' hp (by intro z; cases z)) hL'
      · rw [hln, hsp, a1]
        rfl
      · exact k1 _ _ (ne_of (hne n hn) hp (by intro z; cases z)) (hne n hn)
      · rw [hlf, a2]
        exact hv
      · rw [e2, hsp, a1]
        rfl
    · cases t' with
      | int i => exact absurd rfl ha
      | wrd i => exact absurd rfl ha
      | unk i => exact absurd rfl ha
      | nil =>
        rw [show pcs .nil = [[40], [41]] by simp [pcs]] at hdr'
        obtain ⟨e1, e2, e3⟩ := drop_app hdr'
        obtain ⟨e4, e5, e6⟩ := drop_app e2
        refine ite2 (fun _ => ?_) (fun e => absurd (decide_eq_true (congrArg tv e1)) e)
        refine ⟨fun _ _ => False, fun _ _ h => h.elim, ?_⟩
        refine ⟨_, rfl, p, dx, _, rfl, hp, nx _, p, l, z, ps, k', [40], rfl, R', e1, fun H1 R1 k1 => ?_⟩
        obtain ⟨dx1, hp1⟩ := R1.i
        refine ⟨_, rfl, p, dx1, _, rfl, hp1, nk _, p, l, z, ps, k' + 1, rfl, R1, rfl, _, rfl, ite2 (fun _ => ?_) (fun e => absurd (decide_eq_true (congrArg tv e4)) e)⟩
        refine ⟨_, rfl, p, dx1, _, rfl, hp1, nx _, p, l, z, ps, k' + 1, [41], rfl, R1, e4, fun H2 R2 k2 => ?_⟩
        refine ⟨Nat.zero_le _, fun a0 na0 => ?_⟩
        have s3 := same_upd (o := .tup []) na0
        have k3 : Kr p H' (upd H2 a0 (.tup [])) := k1.trans (k2.trans (krSame s3))
        refine q _ _ (k' + 1 + 1) ns (R2.same s3) (kl.trans (klOf k3)) ?_ ?_ hnw hnd (fun n hn => ?_) ?_ ?_ (by omega)
        · exact k3 _ _ (ne_of hL' hp (by intro z; cases z)) hL'
        · rw [hln, hsp]
          rfl
        · exact k3 _ _ (ne_of (hne n hn) hp (by intro z; cases z)) (hne n hn)
        · rw [hlf]
          exact .nil upd_same
        · rw [e5, hsp]
          rfl
      | pair a b =>
        rw [show pcs (.pair a b) = [40] :: (pcs a ++ ptl b) by simp [pcs]] at hdr'
        obtain ⟨e1, e2, e3⟩ := drop_app hdr'
        obtain ⟨c, r, hcr, c1, c2⟩ := pcs_head ok'.1
        have e2' : ps.drop (k' + 1) = pcs a ++ (((b :: dn).map ptl).flatten ++ rest) := by
          rw [e2, List.append_assoc]
          show pcs a ++ (ptl b ++ _) = pcs a ++ ((ptl b ++ (dn.map ptl).flatten) ++ rest)
          rw [List.append_assoc]
        have e4 := (drop_get (a := c) (r := r ++ (((b :: dn).map ptl).flatten ++ rest)) (by rw [e2', hcr]; rfl)).1
        refine ite2 (fun _ => ?_) (fun e => absurd (decide_eq_true (congrArg tv e1)) e)
        refine ⟨fun σ' H'' => ∃ m', m' < (Tm.pair a b).size ∧ ∃ (t' : Tm) (dn : List Tm) (ns : List Addr) (k' : Nat), σ' = [some (.ref p), some (.ref L)] ∧ m' = t'.size ∧ t'.ok ∧ Rd C H'' p z l ps k' ∧ Kl p L H H'' ∧ H'' L = some (.lst (ys ++ ns.map V.ref)) ∧ ns.length = dn.length ∧ (∀ n ∈ ns, H n = none) ∧ ns.Nodup ∧
          (∀ n ∈ ns, H'' n = some (.lst [])) ∧ spine t = spine t' ++ dn ∧ leafOf t = leafOf t' ∧ ps.drop k' = pcs t' ++ ((dn.map ptl).flatten ++ rest) ∧ k ≤ k' ∧ ns.length + t'.size ≤ t.size, fun σ' H'' h => h, ?_⟩
        refine ⟨_, rfl, p, dx, _, rfl, hp, nx _, p, l, z, ps, k', [40], rfl, R', e1, fun H1 R1 k1 => ?_⟩
        obtain ⟨dx1, hp1⟩ := R1.i
        refine ⟨_, rfl, p, dx1, _, rfl, hp1, nk _, p, l, z, ps, k' + 1, rfl, R1, rfl, _, rfl, ite2 (fun e => absurd (tv_inj (b := [41]) ((congrArg tv e4).symm.trans (of_decide_eq_true e))) c1) (fun _ => ?_)⟩
        have hL1 : H1 L = some (.lst (ys ++ ns.map V.ref)) := k1 _ _ (ne_of hL' hp (by intro z; cases z)) hL'
        have hne1 : ∀ n ∈ ns, H1 n = some (.lst []) := fun n hn => k1 _ _ (ne_of (hne n hn) hp (by intro z; cases z)) (hne n hn)
        have hsz2 : (Tm.pair a b).size = a.size + b.size + 1 := rfl
        have asz := a.size_pos
        refine ⟨.ref L, rfl, .inl ⟨rfl, _, .inl (.inl hL1)⟩, Nat.zero_le _, fun n nn => ?_⟩
        have s2 : Same H1 (upd H1 n (.lst [])) := same_upd nn
        have hnL : n ≠ L := (ne_of_none hL1 nn).symm
        have hnH : H n = none := by
          cases e : H n with
          | none => rfl
          | some o =>
            by_cases h1 : n = p
            · rw [h1, hp1] at nn
              cases nn
            · rw [k1 _ _ h1 (kl n o h1 hnL e)] at nn
              cases nn
        have hnn : n ∉ ns := fun hn => by
          rw [hne1 n hn] at nn
          cases nn
        refine ⟨L, _, .ref n, rfl, rfl, s2 _ _ hL1, ?_, ?_⟩
        · rw [List.length_append, List.length_map]
          exact Nat.lt_of_le_of_lt (show ys.length + ns.length ≤ 1000000 by omega) (by decide)
        have k3 : ∀ b' o, b' ≠ L → H1 b' = some o → upd (upd H1 n (.lst [])) L (.lst (ys ++ ns.map V.ref ++ [.ref n])) b' = some o := fun b' o h e => by
          rw [upd_ne h]
          exact s2 _ _ e
        obtain ⟨_, hl1, hn1⟩ := id R1
        have hpL : p ≠ L := (ne_of hL1 hp1 (by intro z; cases z)).symm
        refine ⟨a.size, by omega, a, b :: dn, ns ++ [n], k' + 1, rfl, rfl, ok'.1, ⟨⟨dx1, k3 _ _ hpL hp1⟩, k3 _ _ hLl.symm hl1, hn1⟩, fun b' o h1 h2 e => k3 _ _ h2 (k1 _ _ h1 (kl b' o h1 h2 e)), ?_, ?_, fun n' hn' => ?_, ?_, fun n' hn' => ?_, ?_, hlf, e2', by omega, ?_⟩
        · rw [upd_same, List.map_append, List.append_assoc]
          rfl
        · rw [List.length_append, hln]
          rfl
        · rcases List.mem_append.mp hn' with h | h
          · exact hnw n' h
          · rw [List.mem_singleton.mp h]
            exact hnH
        · rw [List.nodup_append]
          refine ⟨hnd, by simp, fun x hx y hy e => ?_⟩
          rw [List.mem_singleton.mp hy] at e
          rw [e] at hx
          exact hnn hx
        · rcases List.mem_append.mp hn' with h | h
          · refine k3 _ _ (fun z => ?_) (hne1 n' h)
            rw [z] at h
            have := hnw L h
            rw [hL] at this
            cases this
          · rw [List.mem_singleton.mp h, upd_ne hnL]
            exact upd_same
        · rw [hsp]
          show spine a ++ [b] ++ dn = spine a ++ (b :: dn)
          rw [List.append_assoc]
          rfl
        · rw [List.length_append]
          show ns.length + 1 + a.size ≤ t.size
          omega
end
end Ksec

set_option Elab.async false
set_option linter.all false
set_option maxRecDepth 100000
set_option maxHeartbeats 4000000
namespace Ksec
open PySem PySem.Spec PyProof.Rows L2
/-! lists that are open, the innermost first -/
inductive Frs (H : Hp) : List Addr → List (List Tm × Tm) → Prop where
  | nil : Frs H [] []
  | cons {l : Addr} {ls : List Addr} {hs : List Tm} {b : Tm} {fs : List (List Tm × Tm)} {xs : List V} (h : H l = some (.lst xs)) (a : AreTm H xs hs) (n : l ∉ ls) (ok : b.ok) (t : Frs H ls fs) : Frs H (l :: ls) ((hs, b) :: fs)
theorem Frs.keep {H H' : Hp} (k : Tup H H') : ∀ {ls : List Addr} {fs : List (List Tm × Tm)}, (∀ l ∈ ls, ∀ xs, H l = some (.lst xs) → H' l = some (.lst xs)) → Frs H ls fs → Frs H' ls fs
  | _, _, _, .nil => .nil
  | _, _, h, .cons h0 a n ok t => .cons (h _ (List.mem_cons_self ..) _ h0) (areKeep k a) n ok (Frs.keep k (fun l hl => h l (List.mem_cons_of_mem _ hl)) t)
theorem Frs.len {H : Hp} : ∀ {ls : List Addr} {fs : List (List Tm × Tm)}, Frs H ls fs → ls.length = fs.length
  | _, _, .nil => rfl
  | _, _, .cons _ _ _ _ t => congrArg (· + 1) t.len
theorem Frs.at {H : Hp} : ∀ {ls : List Addr} {fs : List (List Tm × Tm)}, Frs H ls fs → ∀ l ∈ ls, ∃ xs, H l = some (.lst xs)
  | _, _, .cons h0 _ _ _ t, l, hl => by
    rcases List.mem_cons.mp hl with rfl | hl
    · exact ⟨_, h0⟩
    · exact t.at l hl
def shut : List (List Tm × Tm) → Tm → Tm
  | [], u => u
  | (hs, b) :: fs, u => shut fs (rejoin (hs ++ [u]) b)
def due (fs : List (List Tm × Tm)) : List (List Nat) := (fs.map fun f => ptl f.2).flatten
theorem rejoin_pair (hs : List Tm) (a c : Tm) : rejoin hs (.pair a c) = rejoin (hs ++ [a]) c := by
  unfold rejoin
  rw [List.foldr_append]
  rfl
theorem shut_spine : ∀ (a : Tm) (fs : List (List Tm × Tm)), shut ((spine a).map (fun b => ([], b)) ++ fs) (leafOf a) = shut fs a
  | .int _, fs => rfl
  | .wrd _, fs => rfl
  | .nil, fs => rfl
  | .unk _, fs => rfl
  | .pair x b, fs => by
    show shut ((spine x ++ [b]).map (fun b => ([], b)) ++ fs) (leafOf x) = _
    rw [List.map_append, List.append_assoc, shut_spine x]
    rfl
theorem due_spine (s : List Tm) (fs : List (List Tm × Tm)) : due (s.map (fun b => ([], b)) ++ fs) = (s.map ptl).flatten ++ due fs := by
  unfold due
  rw [List.map_append, List.flatten_append, List.map_map]
  rfl
theorem rejoin_size : ∀ (hs : List Tm) (b : Tm), hs.length + b.size ≤ (rejoin hs b).size
  | [], b => by show 0 + b.size ≤ b.size; omega
  | h :: hs, b => by
    have := rejoin_size hs b
    show hs.length + 1 + b.size ≤ h.size + (rejoin hs b).size + 1
    omega
theorem rejoin_mem : ∀ (hs : List Tm) (u b : Tm), u.size + 1 + b.size ≤ (rejoin (hs ++ [u]) b).size
  | [], u, b => by show u.size + 1 + b.size ≤ u.size + b.size + 1; omega
  | h :: hs, u, b => by
    have := rejoin_mem hs u b
    show _ ≤ h.size + (rejoin (hs ++ [u]) b).size + 1
    omega
theorem shut_size : ∀ (fs : List (List Tm × Tm)) (u : Tm), fs.length + u.size ≤ (shut fs u).size
  | [], u => by show 0 + u.size ≤ u.size; omega
  | (hs, b) :: fs, u => by
    have h1 := shut_size fs (rejoin (hs ++ [u]) b)
    have h2 := rejoin_mem hs u b
    show fs.length + 1 + u.size ≤ (shut fs (rejoin (hs ++ [u]) b)).size
    omega
theorem frs_new {H : Hp} {ls : List Addr} {fs : List (List Tm × Tm)} (F : Frs H ls fs) : ∀ (ms : List Addr) (s : List Tm), ms.length = s.length → (∀ n ∈ ms, H n = some (.lst [])) → ms.Nodup → (∀ n ∈ ms, n ∉ ls) → (∀ b ∈ s, b.ok) → Frs H (ms ++ ls) (s.map (fun b => ([], b)) ++ fs)
  | [], [], _, _, _, _, _ => F
  | m :: ms, [], h, _, _, _, _ => by cases h
  | [], b :: s, h, _, _, _, _ => by cases h
  | m :: ms, b :: s, h, h1, h2, h3, h4 => by
    obtain ⟨n1, n2⟩ := List.nodup_cons.mp h2
    refine .cons (h1 m (List.mem_cons_self ..)) .nil (fun z => ?_) (h4 b (List.mem_cons_self ..)) (frs_new F ms s (by simpa using h) (fun n hn => h1 n (List.mem_cons_of_mem _ hn)) n2 (fun n hn => h3 n (List.mem_cons_of_mem _ hn)) fun b hb => h4 b (List.mem_cons_of_mem _ hb))
    rcases List.mem_append.mp z with z | z
    · exact n1 z
    · exact h3 m (List.mem_cons_self ..) z
theorem nodup_rev {l : List Addr} (h : l.Nodup) : l.reverse.Nodup := by
  unfold List.Nodup
  rw [List.pairwise_reverse]
  exact h.imp fun h => Ne.symm h
/-- where next_term stands -/
structure Rt (C : Addr) (H0 H : Hp) (p L l : Addr) (z : Str) (ps : List (List Nat)) (k : Nat) (ls : List Addr) (fs : List (List Tm × Tm)) : Prop where
  r : Rd C H p z l ps k
  kr : Kr p H0 H
  hL : H L = some (.lst (ls.reverse.map V.ref))
  fr : Frs H ls fs
  nw : ∀ n ∈ ls, H0 n = none
  nL0 : H0 L = none
  nL : L ∉ ls
  l0 : ∃ xs, H0 l = some (.lst xs)
theorem Rt.move {C : Addr} {H0 H H1 : Hp} {p L l : Addr} {z : Str} {ps : List (List Nat)} {k k1 : Nat} {ls : List Addr} {fs : List (List Tm × Tm)} (R : Rt C H0 H p L l z ps k ls fs) (R1 : Rd C H1 p z l ps k1) (a : Kr p H H1) : Rt C H0 H1 p L l z ps k1 ls fs := by
  obtain ⟨dx, hp⟩ := R.r.i
  exact ⟨R1, R.kr.trans a, a _ _ (ne_of R.hL hp (by intro z; cases z)) R.hL, R.fr.keep (krTup R.r a) (fun l hl xs e => a _ _ (ne_of e hp (by intro z; cases z)) e), R.nw, R.nL0, R.nL, R.l0⟩
theorem Rt.same {C : Addr} {H0 H H1 : Hp} {p L l : Addr} {z : Str} {ps : List (List Nat)} {k : Nat} {ls : List Addr} {fs : List (List Tm × Tm)} (R : Rt C H0 H p L l z ps k ls fs) (a : Same H H1) : Rt C H0 H1 p L l z ps k ls fs := R.move (R.r.same a) (krSame a)
/-- the innermost one grows -/
theorem Rt.grow {C : Addr} {H0 H : Hp} {p L l : Addr} {z : Str} {ps : List (List Nat)} {k : Nat} {l0 : Addr} {ls : List Addr} {hs : List Tm} {b : Tm} {fs : List (List Tm × Tm)} {xs : List V} {v : V} {u : Tm} (R : Rt C H0 H p L l z ps k (l0 :: ls) ((hs, b) :: fs)) (h : H l0 = some (.lst xs)) (a : AreTm H xs hs) (n : l0 ∉ ls) (ok : b.ok) (t : Frs H ls fs) (hv : IsTm H v u) :
    Rt C H0 (upd H l0 (.lst (xs ++ [v]))) p L l z ps k (l0 :: ls) ((hs ++ [u], b) :: fs) ∧ upd H l0 (.lst (xs ++ [v])) l0 = some (.lst (xs ++ [v])) ∧ AreTm (upd H l0 (.lst (xs ++ [v]))) (xs ++ [v]) (hs ++ [u]) := by
  obtain ⟨⟨dx, hp⟩, hl, hn⟩ := R.r
  have tu : Tup H (upd H l0 (.lst (xs ++ [v]))) := tup_upd h fun _ => by intro z; cases z
  have n0 := R.nw l0 (List.mem_cons_self ..)
  obtain ⟨ys, hl0⟩ := R.l0
  have ar : AreTm (upd H l0 (.lst (xs ++ [v]))) (xs ++ [v]) (hs ++ [u]) := are_app (areKeep tu a) (.cons (hv.keep tu) .nil)
  refine ⟨⟨⟨⟨dx, ?_⟩, ?_, hn⟩, fun b o h1 e => ?_, ?_, .cons upd_same ar n ok (t.keep tu fun l' hl' xs' e => ?_), R.nw, R.nL0, R.nL, R.l0⟩, upd_same, ar⟩
  · rw [upd_ne (ne_of hp h (by intro z; cases z))]
    exact hp
  · rw [upd_ne (ne_of_none hl0 n0)]
    exact hl
  · rw [upd_ne (ne_of_none e n0)]
    exact R.kr b o h1 e
  · rw [upd_ne (fun z => R.nL (by rw [z]; exact List.mem_cons_self ..))]
    exact R.hL
  · rw [upd_ne (fun z => n (by rw [← z]; exact hl'))]
    exact e
/-- the innermost one is taken -/
theorem Rt.pop {C : Addr} {H0 H : Hp} {p L l : Addr} {z : Str} {ps : List (List Nat)} {k : Nat} {l0 : Addr} {ls : List Addr} {f : List Tm × Tm} {fs : List (List Tm × Tm)} (R : Rt C H0 H p L l z ps k (l0 :: ls) (f :: fs)) :
    Rt C H0 (upd H L (.lst ((l0 :: ls).reverse.map V.ref).dropLast)) p L l z ps k ls fs := by
  obtain ⟨⟨dx, hp⟩, hl, hn⟩ := R.r
  have tu : Tup H (upd H L (.lst ((l0 :: ls).reverse.map V.ref).dropLast)) := tup_upd R.hL fun _ => by intro z; cases z
  obtain ⟨ys, hl0⟩ := R.l0
  have fr := R.fr
  cases fr with
  | cons h0 a n ok t =>
    refine ⟨⟨⟨dx, ?_⟩, ?_, hn⟩, fun b o h1 e => ?_, ?_, t.keep tu fun l' hl' xs' e => ?_, fun n hn => R.nw n (List.mem_cons_of_mem _ hn), R.nL0, fun hn => R.nL (List.mem_cons_of_mem _ hn), R.l0⟩
    · rw [upd_ne (ne_of hp R.hL (by intro z; cases z))]
      exact hp
    · rw [upd_ne (ne_of_none hl0 R.nL0)]
      exact hl
    · rw [upd_ne (ne_of_none e R.nL0)]
      exact R.kr b o h1 e
    · rw [upd_same, List.reverse_cons, List.map_append]
      show some (HO.lst ((ls.reverse.map V.ref ++ [V.ref l0]).dropLast)) = _
      rw [List.dropLast_concat]
    · rw [upd_ne (fun z => R.nL (by rw [← z]; exact List.mem_cons_of_mem _ hl'))]
      exact e
section
variable {P : Program} {w : World} {K : PySem.W.Frag} {mg : Str → Option Value} {base : Heap}
def spNextT (C : Addr) : Sp := fun vs H Q _ => ∃ (p l : Addr) (z : Str) (ps : List (List Nat)) (k : Nat) (t : Tm) (rest : List (List Nat)),
  vs = [.ref p] ∧ Rd C H p z l ps k ∧ t.ok ∧ t.size ≤ 100000 ∧ ps.drop k = pcs t ++ rest ∧ ∀ H' v k', Rd C H' p z l ps k' → Kr p H H' → IsTm H' v t → ps.drop k' = rest → Q v H'
theorem ok_nextt {f fK fX fL fE fJ C : Addr} {fd fdK fdX fdL fdE fdJ : FuncData} {j : Nat} (F : Fun K "next_term" "Reader.next_term" sNextT f fd) (X : RTxt K mg C) (GK : FnOk P w K mg base CX0 (j + 1) fK fdK ["self"] (spPeek C)) (bK : Binds K fdK ["self"] []) (mK : Meth K C "peek" fK)
    (GX : FnOk P w K mg base CX0 (j + 1) fX fdX ["self", "piece"] (spExpect C)) (bX : Binds K fdX ["self", "piece"] []) (mX : Meth K C "expect" fX)
    (GL : FnOk P w K mg base CX0 (j + 1) fL fdL ["self", "lists"] (spNextL C)) (bL : Binds K fdL ["self", "lists"] []) (mL : Meth K C "next_leaf" fL)
    (GE : FnOk P w K mg base CX0 (j + 1) fE fdE ["self"] (spNextE C)) (bE : Binds K fdE ["self"] []) (mE : Meth K C "next_end" fE)
    (GJ : FnOk P w K mg base CX0 (j + 1) fJ fdJ ["heads", "end"] (spJoined K)) (bJ : Binds K fdJ ["heads", "end"] []) (gJ : mg "joined" = some (.ref fJ)) (kJ : PySem.W.keepIn K (.ref fJ) = true) : FnOk P w K mg base CX0 (j + 2) f fd ["self"] (spNextT C) := by
  refine F.ok scNextT (fun vs H Q E h => ?_) (fun cdv A outer s H vs Q E hr h => ?_)
  · obtain ⟨p, l, z, ps, k, t, rest, rfl, _⟩ := h
    rfl
  · obtain ⟨p, l, z, ps, k, t, rest, rfl, R, ok, hz, hdr, q⟩ := h
    have nk : ∀ (k : Nat), (rf z l k).lookup ("peek" : Str) = none := fun k => rf_no (by decide +kernel) (by decide +kernel) (by decide +kernel) _ _ _
    have nx : ∀ (k : Nat), (rf z l k).lookup ("expect" : Str) = none := fun k => rf_no (by decide +kernel) (by decide +kernel) (by decide +kernel) _ _ _
    have nl : ∀ (k : Nat), (rf z l k).lookup ("next_leaf" : Str) = none := fun k => rf_no (by decide +kernel) (by decide +kernel) (by decide +kernel) _ _ _
    have ne : ∀ (k : Nat), (rf z l k).lookup ("next_end" : Str) = none := fun k => rf_no (by decide +kernel) (by decide +kernel) (by decide +kernel) _ _ _
    refine ⟨_, pss_cons (ps_set (i := 1) scNextT.nd rfl (.inl rfl) (pe_lst pa_nil))
      (pss_cons (ps_set (i := 2) scNextT.nd rfl (.inl rfl) (pe_meth (pv 0) X.cl mL GL hr bL .nil pass0 (pa_cons (pv 1) pa_nil)))
      (pss_cons (ps_while PassesOwn.never (pt_truth (pv 1) (by intro _; rfl))
        (pss_cons (ps_expr (pe_bm PySem.F.plainAttrs_list PySem.F.slot_list_append PySem.F.type_list_append mt_append (pe_ix ix_list (pv 1) (pe_un un_neg pe_int) (fun _ _ => rfl)) (pa_cons (pv 2) pa_nil)))
        (pss_cons (ps_if (pt_cmpR op_eq (pe_meth0 (pv 0) X.cl mK GK hr bK .nil pass0) pe_str (nomark _))
          (pss_cons (ps_expr (pe_meth (pv 0) X.cl mX GX hr bX .nil pass0 (pa_cons pe_str pa_nil)))
          (pss_cons (ps_set (i := 2) scNextT.nd rfl (.inl rfl) (pe_call GJ hr (by rfl) gJ kJ bJ .nil pass0 (pa_cons (pe_bm0 PySem.F.plainAttrs_list PySem.F.slot_list_pop PySem.F.type_list_pop mt_pop (pv 1)) (pa_cons (pe_tup pa_nil) pa_nil))))
            (pss_one ps_continue))) pss_nil)
        (pss_cons (ps_expr (pe_meth (pv 0) X.cl mX GX hr bX .nil pass0 (pa_cons pe_str pa_nil)))
        (pss_one (ps_if (pt_cmpR op_eq (pe_meth0 (pv 0) X.cl mK GK hr bK .nil pass0) pe_str (nomark _))
          (pss_one (ps_set (i := 2) scNextT.nd rfl (.inl rfl) (pe_call GJ hr (by rfl) gJ kJ bJ .nil pass0 (pa_cons (pe_bm0 PySem.F.plainAttrs_list PySem.F.slot_list_pop PySem.F.type_list_pop mt_pop (pv 1)) (pa_cons (pe_meth0 (pv 0) X.cl mE GE hr bE .nil pass0) pa_nil)))))
          (pss_one (ps_set (i := 2) scNextT.nd rfl (.inl rfl) (pe_meth (pv 0) X.cl mL GL hr bL .nil pass0 (pa_cons (pv 1) pa_nil))))))))))
      (pss_one (ps_ret (pv 2))))), ?_⟩
    refine ⟨Nat.zero_le _, fun L nL => ?_⟩
    have s1 : Same H (upd H L (.lst [])) := same_upd nL
    have R1 := R.same s1
    obtain ⟨dx, hp⟩ := R1.i
    have hll : ∃ xs, H l = some (.lst xs) := ⟨_, R.l⟩
    have hLl : L ≠ l := (ne_of_none R.l nL).symm
    refine ⟨_, rfl, p, dx, _, rfl, hp, nl _, _, rfl, p, l, L, z, ps, k, [], t, rest, rfl, R1, upd_same, hLl, ok, hdr, (by show 0 + t.size ≤ 1000000; omega), fun H2 v2 k2 ns R2 kl2 hL2 hln hnw hnd hne hv2 hdr2 hk2 => ?_⟩
    refine ⟨fun m σ H' => ∃ (k' : Nat) (ls : List Addr) (fs : List (List Tm × Tm)) (u : Tm) (v : V), σ = [some (.ref p), some (.ref L), some v] ∧ m = ps.length - k' ∧ Rt C H H' p L l z ps k' ls fs ∧ IsTm H' v u ∧ ps.drop k' = due fs ++ rest ∧ shut fs u = t,
      ⟨ps.length - k2, k2, ns.reverse, (spine t).map (fun b => ([], b)), leafOf t, v2, rfl, rfl, ⟨R2, fun b o h e => ?_, ?_, ?_, fun n hn => ?_, nL, fun hn => ?_, hll⟩, hv2, ?_, ?_⟩, fun m σ H' hW => ?_⟩
    · exact kl2 _ _ h (ne_of_none e nL) (s1 _ _ e)
    · rw [hL2, List.reverse_reverse]
      rfl
    · have := frs_new (H := H2) (ls := []) (fs := []) .nil ns.reverse (spine t) (by rw [List.length_reverse, hln]) (fun n hn => hne n (List.mem_reverse.mp hn)) (nodup_rev hnd) (fun n _ => List.not_mem_nil) (spine_ok ok)
      rw [List.append_nil, List.append_nil] at this
      exact this
    · exact s1.free (hnw n (List.mem_reverse.mp hn))
    · have := hnw L (List.mem_reverse.mp hn)
      rw [upd_same] at this
      cases this
    · have := due_spine (spine t) []
      rw [List.append_nil] at this
      rw [hdr2, this]
      show _ = (_ ++ []) ++ rest
      rw [List.append_nil]
    · have := shut_spine t []
      rw [List.append_nil] at this
      exact this
    obtain ⟨k', ls, fs, u, v, rfl, rfl, RT, hv, hd, hsh⟩ := hW
    refine ⟨.ref L, rfl, _, .inl ⟨_, .inl (.inl RT.hL), rfl⟩, ?_⟩
    have fr := RT.fr
    cases fr with
    | nil =>
      refine iteF ⟨v, rfl, q H' v k' RT.r RT.kr ?_ hd⟩
      rw [← hsh]
      exact hv
    | @cons l0 ls hs b fs xs h0 ha hn0 okb hfr =>
      have hrev : (l0 :: ls).reverse.map V.ref = ls.reverse.map V.ref ++ [V.ref l0] := by
        rw [List.reverse_cons, List.map_append]
        rfl
      refine ite2 (fun _ => ?_) (fun e => absurd (by rw [hrev]; simp) e)
      refine ⟨fun σ' H'' => ∃ m', m' < ps.length - k' ∧ ∃ (k' : Nat) (ls : List Addr) (fs : List (List Tm × Tm)) (u : Tm) (v : V), σ' = [some (.ref p), some (.ref L), some v] ∧ m' = ps.length - k' ∧ Rt C H H'' p L l z ps k' ls fs ∧ IsTm H'' v u ∧ ps.drop k' = due fs ++ rest ∧ shut fs u = t, fun σ' H'' h => h, ?_⟩
      have hsz : (shut ((hs, b) :: fs) u).size = t.size := by rw [hsh]
      have hs1 := shut_size fs (rejoin (hs ++ [u]) b)
      have hs2 : (shut ((hs, b) :: fs) u).size = (shut fs (rejoin (hs ++ [u]) b)).size := rfl
      have hs3 := rejoin_size (hs ++ [u]) b
      have hs4 := rejoin_mem hs u b
      have hxl : xs.length = hs.length := Paired.length ha
      have hsl : (hs ++ [u]).length = hs.length + 1 := by rw [List.length_append]; rfl
      obtain ⟨RG, hG0, hGa⟩ := RT.grow h0 ha hn0 okb hfr hv
      have hfl := hfr.len
      refine ⟨.ref L, rfl, 1, rfl, L, _, -1, .ref l0, rfl, rfl, .inl (.inl RT.hL), (by rw [hrev]; exact atI_last _ _), .inl ⟨rfl, _, .inl (.inl h0)⟩, v, rfl, l0, xs, v, rfl, rfl, h0, ?_, ?_⟩
      · exact Nat.lt_of_le_of_lt (show xs.length ≤ 100000 by omega) (by decide)
      generalize upd H' l0 (.lst (xs ++ [v])) = H1 at *
      have hd' : ps.drop k' = ptl b ++ (due fs ++ rest) := by
        rw [hd]
        show (ptl b ++ due fs) ++ rest = _
        rw [List.append_assoc]
      obtain ⟨dx1, hp1⟩ := RG.r.i
      by_cases hb : b = .nil
      · subst hb
        rw [show ptl .nil = [[41]] by simp [ptl]] at hd'
        obtain ⟨e1, e2, e3⟩ := drop_app hd'
        refine ⟨_, rfl, p, dx1, _, rfl, hp1, nk _, p, l, z, ps, k', rfl, RG.r, rfl, _, rfl, ite2 (fun _ => ?_) (fun e => absurd (decide_eq_true (congrArg tv e1)) e)⟩
        refine ⟨_, rfl, p, dx1, _, rfl, hp1, nx _, p, l, z, ps, k', [41], rfl, RG.r, e1, fun H3 R3 k3 => ?_⟩
        have RM := RG.move R3 k3
        have h03 := k3 _ _ (ne_of hG0 hp1 (by intro z; cases z)) hG0
        have ha3 := areKeep (krTup RG.r k3) hGa
        have RP := RM.pop
        have h04 : upd H3 L (.lst ((l0 :: ls).reverse.map V.ref).dropLast) l0 = some (.lst (xs ++ [v])) := by
          rw [upd_ne (fun z => RG.nL (by rw [← z]; exact List.mem_cons_self ..))]
          exact h03
        have ha4 := areKeep (tup_upd (o := .lst ((l0 :: ls).reverse.map V.ref).dropLast) RM.hL fun _ => by intro z; cases z) ha3
        refine ⟨.ref L, rfl, .inl ⟨rfl, _, .inl (.inl RM.hL)⟩, L, _, .ref l0, rfl, rfl, RM.hL, (by rw [hrev]; simp), ?_⟩
        generalize upd H3 L (.lst ((l0 :: ls).reverse.map V.ref).dropLast) = H4 at *
        refine ⟨Nat.zero_le _, fun a0 na0 => ?_⟩
        have s5 : Same H4 (upd H4 a0 (.tup [])) := same_upd na0
        refine ⟨l0, _, .ref a0, hs ++ [u], .nil, rfl, .inl (.inl (s5 _ _ h04)), areKeep (sameTup s5) ha4, .nil upd_same, fun H6 z6 s6 hz6 => ?_⟩
        exact ⟨ps.length - (k' + 1), by omega, k' + 1, ls, fs, _, z6, rfl, rfl, RP.same (s5.trans s6), hz6, e2, hsh⟩
      · obtain ⟨r, hr1, hr2⟩ : ∃ r, ptl b = [32] :: r ∧ (∃ c r', r = c :: r') := by
          cases b with
          | nil => exact absurd rfl hb
          | pair a c =>
            obtain ⟨x, y, hxy, _⟩ := pcs_head okb.1
            exact ⟨pcs a ++ ptl c, by simp [ptl], x, y ++ ptl c, by rw [hxy]; rfl⟩
          | int i => exact ⟨_, ptl_atom rfl, _, _, rfl⟩
          | wrd i => exact ⟨_, ptl_atom rfl, _, _, rfl⟩
          | unk i => exact ⟨_, ptl_atom rfl, _, _, rfl⟩
        have hd2 := hd'
        rw [hr1] at hd2
        obtain ⟨e1, e2, e3⟩ := drop_app hd2
        refine ⟨_, rfl, p, dx1, _, rfl, hp1, nk _, p, l, z, ps, k', rfl, RG.r, rfl, _, rfl, ite2 (fun e => absurd (tv_inj (b := [41]) ((congrArg tv e1).symm.trans (of_decide_eq_true e))) (by decide)) (fun _ => ?_)⟩
        refine ⟨_, rfl, p, dx1, _, rfl, hp1, nx _, p, l, z, ps, k', [32], rfl, RG.r, e1, fun H3 R3 k3 => ?_⟩
        have RM := RG.move R3 k3
        have h03 := k3 _ _ (ne_of hG0 hp1 (by intro z; cases z)) hG0
        have ha3 := areKeep (krTup RG.r k3) hGa
        obtain ⟨dx3, hp3⟩ := R3.i
        by_cases hA : isAtom b = true
        · rw [ptl_atom hA] at hr1
          have er : r = [[46], [32], atx b, [41]] := (List.cons.inj hr1).2.symm
          rw [er] at e2
          obtain ⟨f1, f2, f3⟩ := drop_app e2
          obtain ⟨f4, f5, f6⟩ := drop_app f2
          obtain ⟨f7, f8, f9⟩ := drop_app f5
          obtain ⟨f10, f11, f12⟩ := drop_app f8
          refine ⟨_, rfl, p, dx3, _, rfl, hp3, nk _, p, l, z, ps, k' + 1, rfl, R3, rfl, _, rfl, ite2 (fun _ => ?_) (fun e => absurd (decide_eq_true (congrArg tv f1)) e)⟩
          have RP := RM.pop
          have h04 : upd H3 L (.lst ((l0 :: ls).reverse.map V.ref).dropLast) l0 = some (.lst (xs ++ [v])) := by
            rw [upd_ne (fun z => RG.nL (by rw [← z]; exact List.mem_cons_self ..))]
            exact h03
          have ha4 := areKeep (tup_upd (o := .lst ((l0 :: ls).reverse.map V.ref).dropLast) RM.hL fun _ => by intro z; cases z) ha3
          refine ⟨.ref L, rfl, .inl ⟨rfl, _, .inl (.inl RM.hL)⟩, L, _, .ref l0, rfl, rfl, RM.hL, (by rw [hrev]; simp), ?_⟩
          generalize upd H3 L (.lst ((l0 :: ls).reverse.map V.ref).dropLast) = H4 at *
          obtain ⟨dx4, hp4⟩ := RP.r.i
          refine ⟨_, rfl, p, dx4, _, rfl, hp4, ne _, p, l, z, ps, k' + 1, b, rfl, RP.r, okb, hA, f1, f4, f7, f10, fun H5 v5 R5 k5 hv5 => ?_⟩
          have h05 := k5 _ _ (ne_of h04 hp4 (by intro z; cases z)) h04
          refine ⟨l0, _, v5, hs ++ [u], b, rfl, .inl (.inl h05), areKeep (krTup RP.r k5) ha4, hv5, fun H6 z6 s6 hz6 => ?_⟩
          exact ⟨ps.length - (k' + 1 + 4), by omega, k' + 1 + 4, ls, fs, _, z6, rfl, rfl, (RP.move R5 k5).same s6, hz6, f11, hsh⟩
        · cases b with
          | nil => exact absurd rfl hb
          | int i => exact absurd rfl hA
          | wrd i => exact absurd rfl hA
          | unk i => exact absurd rfl hA
          | pair a c =>
            have er : r = pcs a ++ ptl c := by
              have h1 : ptl (.pair a c) = [32] :: (pcs a ++ ptl c) := by simp [ptl]
              rw [h1] at hr1
              exact (List.cons.inj hr1).2.symm
            rw [er] at e2
            obtain ⟨x, y, hxy, x1, x2⟩ := pcs_head okb.1
            have f1 := (drop_get (a := x) (r := (y ++ ptl c) ++ (due fs ++ rest)) (by rw [e2, hxy]; rfl)).1
            refine ⟨_, rfl, p, dx3, _, rfl, hp3, nk _, p, l, z, ps, k' + 1, rfl, R3, rfl, _, rfl, ite2 (fun e => absurd (tv_inj (b := [46]) ((congrArg tv f1).symm.trans (of_decide_eq_true e))) x2) (fun _ => ?_)⟩
            have hsc : (Tm.pair a c).size = a.size + c.size + 1 := rfl
            refine ⟨_, rfl, p, dx3, _, rfl, hp3, nl _, _, rfl, p, l, L, z, ps, k' + 1, _, a, ptl c ++ (due fs ++ rest), rfl, R3, RM.hL, hLl, okb.1, (by rw [e2, List.append_assoc]), ?_, fun H4 v4 k4 ns4 R4 kl4 hL4 hln4 hnw4 hnd4 hne4 hv4 hdr4 hk4 => ?_⟩
            · rw [List.length_map, List.length_reverse, List.length_cons]
              omega
            have nwL : L ∉ ns4 := fun hn => by
              have := hnw4 L hn
              rw [RM.hL] at this
              cases this
            have fr4 : Frs H4 (l0 :: ls) ((hs ++ [u], Tm.pair a c) :: fs) := RM.fr.keep (fun b xs e => kl4 _ _ (ne_of e hp3 (by intro z; cases z)) (ne_of e RM.hL (by intro z; cases z)) e) (fun l' hl' xs' e => kl4 _ _ (ne_of e hp3 (by intro z; cases z)) (fun z => RM.nL (by rw [← z]; exact hl')) e)
            have fr5 : Frs H4 (l0 :: ls) ((hs ++ [u] ++ [a], c) :: fs) → True := fun _ => True.intro
            have k34 : Kr p H H4 := fun b o h e => kl4 _ _ h (ne_of_none e nL) (RM.kr b o h e)
            have nn : ∀ n ∈ ns4, H n = none := fun n hn => by
              cases e : H n with
              | none => rfl
              | some o =>
                by_cases h1 : n = p
                · have := hnw4 n hn
                  rw [h1, hp3] at this
                  cases this
                · have := hnw4 n hn
                  rw [RM.kr n o h1 e] at this
                  cases this
            cases fr4 with
            | @cons _ _ _ _ _ xs4 g0 ga gn gok gfr =>
              refine ⟨ps.length - k4, by omega, k4, ns4.reverse ++ (l0 :: ls), (spine a).map (fun b => ([], b)) ++ (hs ++ [u], c) :: fs, leafOf a, v4, rfl, rfl, ⟨R4, k34, ?_, frs_new (.cons g0 ga gn okb.2 gfr) ns4.reverse (spine a) (by rw [List.length_reverse, hln4]) (fun n hn => hne4 n (List.mem_reverse.mp hn)) (nodup_rev hnd4) (fun n hn z => ?_) (spine_ok okb.1), fun n hn => ?_, nL, fun hn => ?_, hll⟩, hv4, ?_, ?_⟩
              · rw [hL4, List.reverse_append, List.reverse_reverse, List.map_append]
              · obtain ⟨xs', e'⟩ := RM.fr.at n z
                have := hnw4 n (List.mem_reverse.mp hn)
                rw [e'] at this
                cases this
              · rcases List.mem_append.mp hn with hn | hn
                · exact nn n (List.mem_reverse.mp hn)
                · exact RM.nw n hn
              · rcases List.mem_append.mp hn with hn | hn
                · exact nwL (List.mem_reverse.mp hn)
                · exact RM.nL hn
              · rw [due_spine, hdr4, List.append_assoc]
                show _ = ((spine a).map ptl).flatten ++ ((ptl c ++ due fs) ++ rest)
                rw [List.append_assoc]
              · rw [shut_spine]
                rw [← hsh]
                show shut fs (rejoin (hs ++ [u] ++ [a]) c) = shut fs (rejoin (hs ++ [u]) (.pair a c))
                rw [rejoin_pair]
end
end Ksec

set_option Elab.async false
set_option linter.all false
set_option maxRecDepth 100000
set_option maxHeartbeats 4000000
namespace Ksec
open PySem PySem.Spec PyProof.Rows L2
abbrev sShow : Stmt := topS 16
abbrev sShowP : Stmt := topS 17
abbrev sRead : Stmt := topS 18
abbrev sShowF : Stmt := topS 19
theorem scRead : FnScope ["text", "reader", "term"] ["text"] (defScope sRead) := ⟨rfl, rfl, rfl, by decide +kernel, rfl, by decide +kernel, by decide +kernel⟩
theorem scShow : FnScope ["term"] ["term"] (defScope sShow) := ⟨rfl, rfl, rfl, by decide +kernel, rfl, by decide +kernel, by decide +kernel⟩
abbrev nShowP : List Str := ["pair", "heads", "end", "shown", "head"]
theorem scShowP : FnScope nShowP ["pair"] (defScope sShowP) := ⟨rfl, rfl, rfl, by decide +kernel, rfl, by decide +kernel, by decide +kernel⟩
/-! how long -/
theorem numT_len {i : Int} (h : i.natAbs < 10 ^ 41) : (numT i).length ≤ 42 := by
  cases i with
  | ofNat n =>
    have := numL_len41 (n := n) h
    show (TL.numL n).length ≤ 42
    omega
  | negSucc n =>
    have := numL_len41 (n := n + 1) h
    show (TL.numL (n + 1)).length + 1 ≤ 42
    omega
theorem atx_len {t : Tm} (h : t.ok) : (atx t).length ≤ 43 := by
  cases t with
  | int i =>
    have := numT_len (i := i) h
    show (numT i).length ≤ 43
    omega
  | wrd z =>
    have h1 := h.2.1
    have h2 : z.length = z.cps.toList.length := len_strL z
    show z.cps.toList.length ≤ 43
    omega
  | unk n =>
    have := numT_len (i := n) (by have h1 := h.1; have h2 := h.2; omega)
    show (numT n).length + 1 ≤ 43
    omega
  | nil => exact Nat.zero_le _
  | pair a b => exact Nat.zero_le _
theorem len_end {t : Tm} (h : t.ok) (ha : isAtom t = true) : (txt t).length ≤ 50 ∧ (tlx t).length ≤ 50 ∧ (pcs t).length ≤ 6 ∧ (ptl t).length ≤ 6 := by
  have := atx_len h
  rw [txt_atom ha, tlx_atom ha, pcs_atom ha, ptl_atom ha]
  refine ⟨by omega, ?_, by show 1 ≤ 6; decide, by show 5 ≤ 6; decide⟩
  show ((atx t ++ [41]).length + 1 + 1 + 1) ≤ 50
  rw [List.length_append]
  show (atx t).length + 1 + 1 + 1 + 1 ≤ 50
  omega
theorem len_txt : ∀ {t : Tm}, t.ok → (txt t).length ≤ 50 * t.size ∧ (tlx t).length ≤ 50 * t.size ∧ (pcs t).length ≤ 6 * t.size ∧ (ptl t).length ≤ 6 * t.size
  | .int i, h => by
    obtain ⟨h1, h2, h3, h4⟩ := len_end (t := .int i) h rfl
    have e : (Tm.int i).size = 1 := rfl
    exact ⟨by omega, by omega, by omega, by omega⟩
  | .wrd i, h => by
    obtain ⟨h1, h2, h3, h4⟩ := len_end (t := .wrd i) h rfl
    have e : (Tm.wrd i).size = 1 := rfl
    exact ⟨by omega, by omega, by omega, by omega⟩
  | .unk i, h => by
    obtain ⟨h1, h2, h3, h4⟩ := len_end (t := .unk i) h rfl
    have e : (Tm.unk i).size = 1 := rfl
    exact ⟨by omega, by omega, by omega, by omega⟩
  | .nil, h => by
    simp only [txt, tlx, pcs, ptl]
    exact ⟨by decide, by decide, by decide, by decide⟩
  | .pair a b, h => by
    obtain ⟨a1, a2, a3, a4⟩ := len_txt h.1
    obtain ⟨b1, b2, b3, b4⟩ := len_txt h.2
    have e : (Tm.pair a b).size = a.size + b.size + 1 := rfl
    simp only [txt, tlx, pcs, ptl, List.length_cons, List.length_append]
    exact ⟨by omega, by omega, by omega, by omega⟩
section
variable {P : Program} {w : World} {K : PySem.W.Frag} {mg : Str → Option Value} {base : Heap}
def spRead : Sp := fun vs H Q _ => ∃ (t : Tm), vs = [tv (txt t)] ∧ t.ok ∧ t.size ≤ 10000 ∧ ∀ H' v, Same H H' → IsTm H' v t → Q v H'
theorem ok_read {f fI fT fE C : Addr} {fd fdI fdT fdE : FuncData} {j : Nat} (F : Fun K "read_term" "read_term" sRead f fd) (X : RTxt K mg C) (M : Mk K C fI) (GI : FnOk P w K mg base CX0 (j + 1) fI fdI ["self", "text"] (spInit C)) (bI : Binds K fdI ["self", "text"] [])
    (GT : FnOk P w K mg base CX0 (j + 2) fT fdT ["self"] (spNextT C)) (bT : Binds K fdT ["self"] []) (mT : Meth K C "next_term" fT)
    (GE : FnOk P w K mg base CX0 (j + 2) fE fdE ["self"] (spExpEnd C)) (bE : Binds K fdE ["self"] []) (mE : Meth K C "expect_end" fE) (mi : mg "isinstance" = none) (m1 : mg "str" = none) : FnOk P w K mg base CX0 (j + 3) f fd ["text"] spRead := by
  refine F.ok scRead (fun vs H Q E h => ?_) (fun cdv A outer s H vs Q E hr h => ?_)
  · obtain ⟨t, rfl, _⟩ := h
    rfl
  · obtain ⟨t, rfl, ok, hz, q⟩ := h
    refine ⟨_, (pss_cons (ps_set (i := 1) scRead.nd rfl (.inl rfl) (pe_make M GI hr (by rfl) X.mgC bI .nil pass0 (pa_cons (pv 0) pa_nil)))
      (pss_cons (ps_set (i := 2) scRead.nd rfl (.inl rfl) (pe_meth0 (pv 1) X.cl mT GT hr bT .nil pass0))
      (pss_cons (ps_expr (pe_meth0 (pv 1) X.cl mE GE hr bE .nil pass0)) (pss_one (ps_ret (pv 2)))))), ?_⟩
    obtain ⟨l1, l2, l3, l4⟩ := len_txt ok
    refine ⟨_, rfl, fun x dx nx ndx nex => ?_⟩
    refine ⟨x, dx, txt t, rfl, upd_same, by omega, by rw [pieces_txt ok]; omega, fun H2 l k2 nl R2 => ⟨rfl, ?_⟩⟩
    rw [pieces_txt ok] at R2
    have s2 : Same H H2 := fun b o e => by
      refine k2 b o (ne_of_none e nx) ?_
      rw [upd_ne (ne_of_none e nx), upd_ne (ne_of_none e ndx)]
      exact e
    obtain ⟨dx2, hp2⟩ := R2.i
    refine ⟨_, rfl, x, dx2, _, rfl, hp2, rf_no (by decide +kernel) (by decide +kernel) (by decide +kernel) _ _ _, x, l, T (txt t), pcs t, 0, t, [], rfl, R2, ok, by omega, by simp, fun H3 v k3 R3 kr3 hv hd3 => ?_⟩
    obtain ⟨dx3, hp3⟩ := R3.i
    refine ⟨_, rfl, x, dx3, _, rfl, hp3, rf_no (by decide +kernel) (by decide +kernel) (by decide +kernel) _ _ _, x, l, T (txt t), pcs t, k3, rfl, R3, List.drop_eq_nil_iff.mp hd3, ?_⟩
    exact ⟨v, rfl, q H3 v (fun b o e => kr3 b o (ne_of_none e nx) (s2 b o e)) hv⟩
end
/-! texts put together -/
theorem T_app (a b : List Nat) : T a ++ T b = T (a ++ b) := str_eq_of (TL.tl_append _ _)
theorem joinL_jn : ∀ ss : List (List Nat), TL.joinL [32] ss = jn ss
  | [] => rfl
  | [_] => rfl
  | a :: b :: r => by
    show a ++ ([32] ++ TL.joinL [32] (b :: r)) = a ++ (32 :: jn (b :: r))
    rw [joinL_jn (b :: r)]
    rfl
theorem tl_T (ss : List (List Nat)) : (ss.map T).map TL.tl = ss := by
  rw [List.map_map]
  exact List.map_id ss
theorem join_T (ss : List (List Nat)) : Txt.join (" " : Str) (ss.map T) = T (jn ss) := by
  rw [TL.join_eq]
  apply str_eq_of
  have h := TL.tl_join (" " : Str) (ss.map T)
  rw [tl_T] at h
  exact h.trans (joinL_jn ss)
theorem num_T (i : Int) : Str.ofString (toString i) = T (numT i) := str_eq_of (numT_eq i)
theorem log_ok {i : Int} (h : i.natAbs < 10 ^ 41) : i.natAbs.log2 < 1920 := by
  by_cases z : i.natAbs = 0
  · rw [z]
    decide
  · have := (Nat.log2_lt z).mpr (Nat.lt_of_lt_of_le h (show 10 ^ 41 ≤ 2 ^ 140 by decide))
    omega
theorem call_str_any {X : Cx} : CallR X (.type "str") (fun xs H Q => (∃ i, xs = [.int i] ∧ i.natAbs.log2 < 1920 ∧ Q (.str (toString i)) H) ∨ ∃ a, xs = [.str a] ∧ Q (.str a) H) := by
  intro pins s σ H xs us Q I r h
  rcases h with h | h
  · exact call_str_int pins s σ H xs us Q I r h
  · exact SkE.call_str_str pins s σ H xs us Q I r h
theorem heads_size : ∀ {t u : Tm}, u ∈ t.heads → u.size ≤ t.size
  | .int _, u, h => absurd h List.not_mem_nil
  | .wrd _, u, h => absurd h List.not_mem_nil
  | .nil, u, h => absurd h List.not_mem_nil
  | .unk _, u, h => absurd h List.not_mem_nil
  | .pair a b, u, h => by
    have e : (Tm.pair a b).size = a.size + b.size + 1 := rfl
    rcases List.mem_cons.mp h with rfl | h
    · omega
    · have := heads_size h
      omega
theorem last_size : ∀ t : Tm, t.last.size = 1
  | .int _ => rfl
  | .wrd _ => rfl
  | .nil => rfl
  | .unk _ => rfl
  | .pair _ b => last_size b
theorem last_nil : ∀ {t : Tm}, t.last.isPair = false
  | .int _ => rfl
  | .wrd _ => rfl
  | .nil => rfl
  | .unk _ => rfl
  | .pair _ b => last_nil (t := b)
/-- the texts of heads are no longer than the whole -/
theorem heads_sum {t : Tm} (h : t.ok) : ((t.heads.map txt).map List.length).sum ≤ 50 * t.size := by
  induction t with
  | int i => exact Nat.zero_le _
  | wrd i => exact Nat.zero_le _
  | nil => exact Nat.zero_le _
  | unk i => exact Nat.zero_le _
  | pair a b _ ih =>
    have h1 := ih h.2
    have h2 := (len_txt h.1).1
    have e : (Tm.pair a b).size = a.size + b.size + 1 := rfl
    show (txt a).length + ((b.heads.map txt).map List.length).sum ≤ _
    omega
end Ksec

set_option Elab.async false
set_option linter.all false
set_option maxRecDepth 100000
set_option maxHeartbeats 4000000
namespace Ksec
open PySem PySem.Spec PyProof.Rows L2
theorem T_nil : (Str.empty : Str) = T [] := str_eq_of rfl
theorem sumT (ss : List (List Nat)) : ((ss.map T).map (·.length)).sum = (ss.map List.length).sum := by
  rw [List.map_map]
  congr 1
theorem eqv_nil : ∀ t : Tm, PyData.eqv t.data (.tuple []) = nilT t
  | .int _ => by simp [Tm.data, PyData.eqv, nilT]
  | .wrd _ => by simp [Tm.data, PyData.eqv, nilT]
  | .nil => by simp [Tm.data, PyData.eqv, PyData.eqvAll, nilT]
  | .unk _ => by simp [Tm.data, PyData.eqv, PyData.eqvAll, nilT]
  | .pair _ _ => by simp [Tm.data, PyData.eqv, PyData.eqvAll, nilT]
theorem shp_nil : SeqAt.shaped (.tuple []) = true := by decide +kernel
section
variable {P : Program} {w : World} {K : PySem.W.Frag} {mg : Str → Option Value} {base : Heap}
def spShow (n : Nat) : Sp := fun vs H Q _ => ∃ (x : V) (t : Tm), vs = [x] ∧ IsTm H x t ∧ t.ok ∧ t.depth ≤ n ∧ n ≤ 64 ∧ t.size ≤ 10000 ∧ ∀ H', Same H H' → Q (tv (txt t)) H'
def spShowB : Nat → Sp
  | 0 => fun _ _ _ _ => False
  | n + 1 => spShow n
def spShowP (n : Nat) : Sp := fun vs H Q _ => ∃ (x : V) (a b : Tm), vs = [x] ∧ IsTm H x (.pair a b) ∧ (Tm.pair a b).ok ∧ (Tm.pair a b).depth ≤ n ∧ n ≤ 64 ∧ (Tm.pair a b).size ≤ 10000 ∧ ∀ H', Same H H' → Q (tv (txt (.pair a b))) H'
theorem ok_showp {f fD fS : Addr} {fd fdD fdS : FuncData} {k n : Nat} (F : Fun K "show_pair" "show_pair" sShowP f fd) (GD : FnOk P w K mg base CX0 (k + 1) fD fdD ["term"] spParted) (bD : Binds K fdD ["term"] []) (gD : mg "parted" = some (.ref fD)) (kD : PySem.W.keepIn K (.ref fD) = true)
    (GS : FnOk P w K mg base CX0 (k + 1) fS fdS ["term"] (spShowB n)) (bS : Binds K fdS ["term"] []) (gS : mg "show_term" = some (.ref fS)) (kS : PySem.W.keepIn K (.ref fS) = true) : FnOk P w K mg base CX0 (k + 2) f fd ["pair"] (spShowP n) := by
  refine F.ok scShowP (fun vs H Q E h => ?_) (fun cdv A outer s H vs Q E hr h => ?_)
  · obtain ⟨x, a, b, rfl, _⟩ := h
    rfl
  · obtain ⟨x, a, b, rfl, hx, ok, hd, hn, hz, q⟩ := h
    refine ⟨_, pss_cons (ps_asg (pe_call GD hr (by rfl) gD kD bD .nil pass0 (pa_cons (pv 0) pa_nil)) (pg_tup rfl (pgs_cons (pg_name (i := 1) scShowP.nd rfl (.inl rfl)) (pgs_cons (pg_name (i := 2) scShowP.nd rfl (.inl rfl)) pgs_nil))))
      (pss_cons (ps_set (i := 3) scShowP.nd rfl (.inl rfl) (pe_join pe_str
        (pe_lc (own := [("head", 4)]) (g := gName 4) (tt := tYes) rfl scShowP.nd (pi_list (pv 1)) (blkOk_by (own := [("head", 4)]) (N := nShowP) (sc := defScope sShowP) (by decide +kernel))
          (fun _ _ _ _ _ => pg_name (i := 4) scShowP.nd rfl (Or.inl rfl)) (fun _ _ _ _ _ => pts_nil) (fun _ _ _ _ _ => pe_call GS hr (by rfl) gS kS bS .nil pass0 (pa_cons (pv 4) pa_nil)))))
      (pss_cons (ps_if (pt_cmpR (op_eqD hr.units) (pv 2) (pe_tup pa_nil) (nomark _)) (pss_one (ps_ret (pe_joined (.cons pe_str (.cons (pe_fmt (pv 3)) (.cons pe_str .nil)))))) pss_nil)
      (pss_one (ps_ret (pe_joined (.cons pe_str (.cons (pe_fmt (pv 3)) (.cons pe_str (.cons (pe_fmt (pe_call GS hr (by rfl) gS kS bS .nil pass0 (pa_cons (pv 2) pa_nil))) (.cons pe_str .nil)))))))))), ?_⟩
    cases n with
    | zero => exact absurd hd (by show ¬ max a.depth b.depth + 1 ≤ 0; omega)
    | succ m =>
      have hdp : (Tm.pair a b).depth = max a.depth b.depth + 1 := rfl
      have hm1 : 1 ≤ m := by
        have : 1 ≤ a.depth := by cases a <;> simp only [Tm.depth] <;> omega
        omega
      refine ⟨x, rfl, x, .pair a b, rfl, hx, ⟨ok, by omega⟩, by omega, fun H1 p l xs y s1 hp hl hA hy => ?_⟩
      refine ⟨p, _, rfl, .inl (.inl hp), rfl, _, _, rfl, _, _, rfl, rfl, ?_⟩
      have hf := heads_fine ok hd
      have hla := last_fine ok
      have hxl : xs.length = (Tm.pair a b).heads.length := Paired.length hA
      have hhl := heads_len (.pair a b)
      have hsum := heads_sum ok
      refine ⟨⟨_, rfl⟩, _, rfl, l, rfl, ⟨_, .inl (.inl hl)⟩, fun D nD => ?_⟩
      refine lc_list (K := K) (a := l) (xs := xs) (fun i H' => Same H1 H' ∧ H' D = some (.lst (((((Tm.pair a b).heads.take i).map txt).map T).map V.str))) ⟨same_upd nD, upd_same⟩ (fun i H' _ h => .inl (.inl (h.1 _ _ hl))) (fun i x2 H' hx2 h => ?_) (fun H' h => ?_)
      · obtain ⟨s', e'⟩ := h
        obtain ⟨u, hu, hxu⟩ := are_get hA hx2
        have hmem := List.mem_of_getElem? hu
        obtain ⟨uo, ud⟩ := hf u hmem
        have us := heads_size hmem
        refine ⟨rfl, yes ?_⟩
        refine ⟨x2, rfl, x2, u, rfl, hxu.keep (sameTup s'), uo, ud, by omega, by omega, fun H3 s3 => ⟨_, s3 _ _ e', ?_, fun b' o e => ?_, ?_⟩⟩
        · rw [List.length_map, List.length_map, List.length_map, List.length_take]
          exact Nat.lt_of_le_of_lt (show min i _ ≤ 10000 by omega) (by decide)
        · by_cases hb : b' = D
          · rw [hb, nD] at e
            cases e
          · rw [upd_ne hb]
            exact s3 _ _ (s' _ _ e)
        · rw [upd_same, List.take_add_one, hu, List.map_append, List.map_append, List.map_append]
          rfl
      · obtain ⟨s', e'⟩ := h
        rw [hxl, List.take_length] at e'
        refine ⟨(" " : Str), D, _, rfl, rfl, .inl (.inl (.inl e')), ?_, ?_⟩
        · rw [sumT, List.length_map, List.length_map]
          show _ + _ * 1 ≤ _
          omega
        rw [join_T]
        have hth := txt_heads a b
        have hlen := (len_txt ok).1
        have hlen2 : (txt (.pair a b)).length ≤ 500000 := by omega
        rw [hth] at hlen2
        have hj : (jn ((Tm.pair a b).heads.map txt)).length ≤ 500000 := by
          rw [List.length_cons, List.length_append] at hlen2
          omega
        have hy' := hy.keep (sameTup s')
        have fits : ∀ {c : List Nat}, c.length ≤ 1000000 → (T c).length ≤ sizeLine := fun h => by
          rw [T_len]
          exact Nat.le_trans h (by decide)
        refine ⟨y, rfl, Nat.zero_le _, fun a0 na0 => ?_⟩
        have s2 : Same H' (upd H' a0 (.tup [])) := same_upd na0
        refine ⟨_, .tuple [], (hy'.keep (sameTup s2)).dp, .tup (.inl (.inl upd_same)) .nil, Tm.shp hla.1 (by rw [hla.2]; decide), shp_nil, _, rfl, ?_⟩
        have sF := s1.trans (s'.trans s2)
        have elast : (Tm.pair a b).last = b.last := rfl
        rw [eqv_nil, elast]
        rw [elast] at hla hy
        cases hb : nilT b.last with
        | true =>
          refine iteT ?_
          rw [hb, if_pos rfl] at hth
          refine ⟨_, rfl, fits (by show 1 ≤ 1000000; decide), ?_⟩
          refine ⟨_, rfl, .inl ⟨_, rfl, fits (by omega), _, rfl, ?_, _, rfl, ?_, ?_⟩⟩
          · rw [T_nil]
            show ((T [] ++ T [40]) ++ T _).length ≤ _
            rw [T_app, T_app]
            exact fits (by rw [List.length_append]; show 1 + _ ≤ _; omega)
          · rw [T_nil]
            show (((T [] ++ T [40]) ++ T _) ++ T [41]).length ≤ _
            rw [T_app, T_app, T_app]
            exact fits (by rw [List.length_append, List.length_append]; show 1 + _ + 1 ≤ _; omega)
          · have e : ((Str.empty ++ ("(" : Str)) ++ T (jn ((Tm.pair a b).heads.map txt))) ++ (")" : Str) = T (txt (.pair a b)) := by
              rw [T_nil, hth]
              show ((T [] ++ T [40]) ++ T _) ++ T [41] = _
              rw [T_app, T_app, T_app]
              rfl
            show Q (.str (((Str.empty ++ ("(" : Str)) ++ T (jn ((Tm.pair a b).heads.map txt))) ++ (")" : Str))) _
            rw [e]
            exact q _ sF
        | false =>
          refine iteF ?_
          rw [hb, if_neg Bool.false_ne_true] at hth
          have hll := (len_txt hla.1).1
          have hl1 := last_size b
          refine ⟨_, rfl, fits (by show 1 ≤ 1000000; decide), ?_⟩
          refine ⟨_, rfl, .inl ⟨_, rfl, fits (by omega), _, rfl, ?_, _, rfl, ?_, ?_⟩⟩
          · rw [T_nil]
            show ((T [] ++ T [40]) ++ T _).length ≤ _
            rw [T_app, T_app]
            exact fits (by rw [List.length_append]; show 1 + _ ≤ _; omega)
          · rw [T_nil]
            show (((T [] ++ T [40]) ++ T _) ++ T [32, 46, 32]).length ≤ _
            rw [T_app, T_app, T_app]
            exact fits (by rw [List.length_append, List.length_append]; show 1 + _ + 3 ≤ _; omega)
          refine ⟨y, rfl, y, b.last, rfl, hy.keep (sameTup (s'.trans s2)), hla.1, by rw [hla.2]; exact hm1, by omega, by omega, fun H5 s5 => ?_⟩
          refine .inl ⟨_, rfl, fits (by omega), _, rfl, ?_, _, rfl, ?_, ?_⟩
          · rw [T_nil]
            show ((((T [] ++ T [40]) ++ T _) ++ T [32, 46, 32]) ++ T _).length ≤ _
            rw [T_app, T_app, T_app, T_app]
            exact fits (by rw [List.length_append, List.length_append, List.length_append]; show 1 + _ + 3 + _ ≤ _; omega)
          · rw [T_nil]
            show (((((T [] ++ T [40]) ++ T _) ++ T [32, 46, 32]) ++ T _) ++ T [41]).length ≤ _
            rw [T_app, T_app, T_app, T_app, T_app]
            exact fits (by rw [List.length_append, List.length_append, List.length_append, List.length_append]; show 1 + _ + 3 + _ + 1 ≤ _; omega)
          · have e : ((((Str.empty ++ ("(" : Str)) ++ T (jn ((Tm.pair a b).heads.map txt))) ++ (" . " : Str)) ++ T (txt b.last)) ++ (")" : Str) = T (txt (.pair a b)) := by
              rw [T_nil, hth]
              show ((((T [] ++ T [40]) ++ T _) ++ T [32, 46, 32]) ++ T _) ++ T [41] = _
              rw [T_app, T_app, T_app, T_app, T_app]
              congr 1
              simp
            show Q (.str (((((Str.empty ++ ("(" : Str)) ++ T (jn ((Tm.pair a b).heads.map txt))) ++ (" . " : Str)) ++ T (txt b.last)) ++ (")" : Str))) _
            rw [e]
            exact q _ (sF.trans s5)
theorem ok_show1 {f fU fP fS : Addr} {fd fdU fdP fdS : FuncData} {k n : Nat} (F : Fun K "show_term" "show_term" sShow f fd) (GU : FnOk P w K mg base CX0 (k + 1) fU fdU ["thing"] spIsUnk) (bU : Binds K fdU ["thing"] []) (gU : mg "is_marked" = some (.ref fU)) (kU : PySem.W.keepIn K (.ref fU) = true)
    (GP : FnOk P w K mg base CX0 (k + 1) fP fdP ["thing"] spIsPair) (bP : Binds K fdP ["thing"] []) (gP : mg "is_pair" = some (.ref fP)) (kP : PySem.W.keepIn K (.ref fP) = true)
    (GS : FnOk P w K mg base CX0 (k + 1) fS fdS ["pair"] (spShowP n)) (bS : Binds K fdS ["pair"] []) (gS : mg "show_pair" = some (.ref fS)) (kS : PySem.W.keepIn K (.ref fS) = true) (ms : mg "str" = none) : FnOk P w K mg base CX0 (k + 2) f fd ["term"] (spShow n) := by
  refine F.ok scShow (fun vs H Q E h => ?_) (fun cdv A outer s H vs Q E hr h => ?_)
  · obtain ⟨x, t, rfl, _⟩ := h
    rfl
  · obtain ⟨x, t, rfl, hx, ok, hd, hn, hz, q⟩ := h
    refine ⟨_, pss_cons (ps_if (pt_val (pe_call GU hr (by rfl) gU kU bU .nil pass0 (pa_cons (pv 0) pa_nil))) (pss_one (ps_ret (pe_joined (.cons pe_str (.cons (pe_fmt (pe_ix ix_tup (pv 0) pe_int (fun _ _ => rfl))) .nil))))) pss_nil)
      (pss_cons (ps_if (pt_val (pe_call GP hr (by rfl) gP kP bP .nil pass0 (pa_cons (pv 0) pa_nil))) (pss_one (ps_ret (pe_call GS hr (by rfl) gS kS bS .nil pass0 (pa_cons (pv 0) pa_nil)))) pss_nil)
      (pss_one (ps_ret (pe_ifExp (pt_cmpR (op_eqD hr.units) (pv 0) (pe_tup pa_nil) (nomark _)) pe_str (pe_callTy call_str_any (by rfl) ms (by decide +kernel) (pa_cons (pv 0) pa_nil)))))), ?_⟩
    refine ⟨x, rfl, x, t, rfl, hx, ok, by omega, _, rfl, ?_⟩
    have fits : ∀ {c : List Nat}, c.length ≤ 1000000 → (T c).length ≤ sizeLine := fun h => by
      rw [T_len]
      exact Nat.le_trans h (by decide)
    have last : t.isPair = false → t.isUnk = false → spIsPair [x] H (fun v H' => tIfS (tB (tC v)) tNext tNext { nx := fun _ _ => True, rt := fun _ _ => True } [] H') E0 → True := fun _ _ _ => True.intro
    cases hx with
    | @unk a n h0 =>
      have hab : n.natAbs < 10 ^ 41 := by
        have h1 := ok.1
        have h2 := ok.2
        omega
      have hnl := numT_len hab
      refine iteT ⟨_, rfl, fits (by show 1 ≤ 1000000; decide), ?_⟩
      refine ⟨_, rfl, a, _, 1, .int n, rfl, rfl, .inl (.inl h0), atI_nat (j := 1) rfl, .inr ⟨n, rfl, log_ok hab, _, rfl, ?_, ?_⟩⟩
      · rw [T_nil, num_T]
        show ((T [] ++ T [63]) ++ T _).length ≤ _
        rw [T_app, T_app]
        exact fits (by rw [List.length_append]; show 1 + _ ≤ _; omega)
      · have e : (Str.empty ++ ("?" : Str)) ++ Str.ofString (toString n) = T (txt (.unk n)) := by
          rw [T_nil, num_T, txt_atom rfl]
          show (T [] ++ T [63]) ++ T _ = _
          rw [T_app, T_app]
          rfl
        show Q (.str ((Str.empty ++ ("?" : Str)) ++ Str.ofString (toString n))) _
        rw [e]
        exact q _ (Same.refl _)
    | @pair a y z t u h0 h1 h2 =>
      exact iteF ⟨_, rfl, _, .pair t u, rfl, .pair h0 h1 h2, ok, by omega, _, rfl, iteT ⟨_, rfl, _, t, u, rfl, .pair h0 h1 h2, ok, hd, hn, hz, q⟩⟩
    | @nil a h0 =>
      refine iteF ⟨_, rfl, _, .nil, rfl, .nil h0, ok, by omega, _, rfl, iteF ⟨_, rfl, Nat.zero_le _, fun a0 na0 => ?_⟩⟩
      have s2 : Same H (upd H a0 (.tup [])) := same_upd na0
      refine ⟨_, .tuple [], ((IsTm.nil h0).keep (sameTup s2)).dp, .tup (.inl (.inl upd_same)) .nil, Tm.shp ok (by show 1 ≤ 64; decide), shp_nil, _, rfl, ?_⟩
      rw [eqv_nil]
      refine iteT ?_
      have e : T (txt .nil) = ("()" : Str) := str_eq_of (by simp [txt]; rfl)
      have q' := q _ s2
      rw [show tv (txt .nil) = V.str (T (txt .nil)) from rfl, e] at q'
      exact q'
    | int i =>
      refine iteF ⟨_, rfl, _, .int i, rfl, .int i, ok, by omega, _, rfl, iteF ⟨_, rfl, Nat.zero_le _, fun a0 na0 => ?_⟩⟩
      have s2 : Same H (upd H a0 (.tup [])) := same_upd na0
      refine ⟨_, .tuple [], (IsTm.int i).dp, .tup (.inl (.inl upd_same)) .nil, Tm.shp ok (by show 1 ≤ 64; decide), shp_nil, _, rfl, ?_⟩
      rw [eqv_nil]
      refine iteF ⟨_, rfl, .inl ⟨i, rfl, log_ok ok, ?_⟩⟩
      have q' := q _ s2
      rw [txt_atom rfl] at q'
      show Q (.str (Str.ofString (toString i))) _
      rw [num_T]
      exact q'
    | wrd z =>
      refine iteF ⟨_, rfl, _, .wrd z, rfl, .wrd z, ok, by omega, _, rfl, iteF ⟨_, rfl, Nat.zero_le _, fun a0 na0 => ?_⟩⟩
      have s2 : Same H (upd H a0 (.tup [])) := same_upd na0
      refine ⟨_, .tuple [], (IsTm.wrd z).dp, .tup (.inl (.inl upd_same)) .nil, Tm.shp ok (by show 1 ≤ 64; decide), shp_nil, _, rfl, ?_⟩
      rw [eqv_nil]
      refine iteF ⟨_, rfl, .inr ⟨z, rfl, ?_⟩⟩
      have q' := q _ s2
      rw [txt_atom rfl] at q'
      have e : tv (atx (.wrd z)) = V.str z := congrArg V.str (T_of z)
      rw [e] at q'
      exact q'
theorem ok_show {f fU fP fS fD : Addr} {fd fdU fdP fdS fdD : FuncData} {k : Nat} (F : Fun K "show_term" "show_term" sShow f fd) (b : Binds K fd ["term"] []) (g : mg "show_term" = some (.ref f)) (GU : FnOk P w K mg base CX0 (k + 1) fU fdU ["thing"] spIsUnk) (bU : Binds K fdU ["thing"] []) (gU : mg "is_marked" = some (.ref fU)) (kU : PySem.W.keepIn K (.ref fU) = true)
    (GP : FnOk P w K mg base CX0 (k + 1) fP fdP ["thing"] spIsPair) (bP : Binds K fdP ["thing"] []) (gP : mg "is_pair" = some (.ref fP)) (kP : PySem.W.keepIn K (.ref fP) = true)
    (GD : FnOk P w K mg base CX0 (k + 1) fD fdD ["term"] spParted) (bD : Binds K fdD ["term"] []) (gD : mg "parted" = some (.ref fD)) (kD : PySem.W.keepIn K (.ref fD) = true)
    (FS : Fun K "show_pair" "show_pair" sShowP fS fdS) (bS : Binds K fdS ["pair"] []) (gS : mg "show_pair" = some (.ref fS)) (ms : mg "str" = none) : ∀ n, FnOk P w K mg base CX0 (k + 3 + 2 * n) f fd ["term"] (spShow n)
  | 0 => ok_show1 (k := k + 1) (n := 0) F (GU.mono (by omega)) bU gU kU (GP.mono (by omega)) bP gP kP (ok_showp (k := k) (n := 0) FS GD bD gD kD ⟨fun _ _ _ _ h => h.elim, fun _ _ _ _ _ _ _ _ _ _ _ _ _ h => h.elim⟩ b g F.kp) bS gS FS.kp ms
  | n + 1 => ok_show1 (k := k + 3 + 2 * n) (n := n + 1) F (GU.mono (by omega)) bU gU kU (GP.mono (by omega)) bP gP kP
      ((ok_showp (k := k + 2 + 2 * n) (n := n + 1) FS (GD.mono (by omega)) bD gD kD ((ok_show F b g GU bU gU kU GP bP gP kP GD bD gD kD FS bS gS ms n).mono (by omega)) b g F.kp).mono (by omega)) bS gS FS.kp ms
end
end Ksec

set_option Elab.async false
set_option linter.all false
set_option maxRecDepth 100000
set_option maxHeartbeats 4000000
namespace Ksec
open PySem PySem.Spec PyProof.Rows L2
abbrev sShown : Stmt := topS 28
theorem scShown : FnScope ["_law_term_here", "_law_text", "_law_rest"] ["_law_term_here"] (defScope sShown) := ⟨rfl, rfl, rfl, by decide +kernel, rfl, by decide +kernel, by decide +kernel⟩
abbrev nShowF : List Str := ["filling", "number", "term"]
theorem scShowF : FnScope nShowF ["filling"] (defScope sShowF) := ⟨rfl, rfl, rfl, by decide +kernel, rfl, by decide +kernel, by decide +kernel⟩
theorem laterW {c : TT} {tb u : TS} {D : Ends} {σ : L2.St} {H : Hp} (C : L2.St → Hp → Prop) (first : (∀ σ1 H1, C σ1 H1 → u D σ1 H1) → tSeq (tWhile c tb) u D σ H) (second : ∀ σ1 H1, C σ1 H1 → u D σ1 H1) : tSeq (tWhile c tb) u D σ H := first second
theorem fitsT {c : List Nat} (h : c.length ≤ 10000000) : (T c).length ≤ sizeLine := by
  rw [T_len]
  exact Nat.le_trans h (by decide)
theorem addT_len {a b : List Nat} (h : a.length + b.length ≤ 10000000) : (T a).length + (T b).length ≤ sizeLine := by
  rw [T_len, T_len]
  exact Nat.le_trans h (by decide)
theorem depth_pos (t : Tm) : 1 ≤ t.depth := by cases t <;> simp only [Tm.depth] <;> omega
section
variable {P : Program} {w : World} {K : PySem.W.Frag} {mg : Str → Option Value} {base : Heap}
theorem ok_shown1 {f : Addr} {fd : FuncData} {k n : Nat} (F : Fun K "_law_shown" "_law_shown" sShown f fd) (b : Binds K fd ["_law_term_here"] []) (g : mg "_law_shown" = some (.ref f)) (GS : FnOk P w K mg base CX0 (k + 1) f fd ["_law_term_here"] (spShowB n)) (mi : mg "isinstance" = none) (mt : mg "tuple" = none) (ms : mg "str" = none) :
    FnOk P w K mg base CX0 (k + 2) f fd ["_law_term_here"] (spShow n) := by
  refine F.ok scShown (fun vs H Q E h => ?_) (fun cdv A outer s H vs Q E hr h => ?_)
  · obtain ⟨x, t, rfl, _⟩ := h
    rfl
  · obtain ⟨x, t, rfl, hx, ok, hd, hn, hz, q⟩ := h
    refine ⟨_, pss_cons (ps_if (pt_not (pt_val (pe_callB call_isi (by rfl) mi (by decide +kernel) (pa_cons (pv 0) (pa_cons (pe_bltn (v := .ty "tuple") (by rfl) mt (by decide +kernel) rfl) pa_nil))))) (pss_one (ps_ret (pe_callTy call_str_any (by rfl) ms (by decide +kernel) (pa_cons (pv 0) pa_nil)))) pss_nil)
      (pss_cons (ps_if (pt_cmpR (op_eqD hr.units) (pv 0) (pe_tup pa_nil) (nomark _)) (pss_one (ps_ret pe_str)) pss_nil)
      (pss_cons (ps_if (pt_cmpR (op_eqD hr.units) (pe_ix ix_tup (pv 0) pe_int (fun _ _ => rfl)) pe_str (nomark _)) (pss_one (ps_ret (pe_op op_add_str pe_str (pe_callTy call_str_any (by rfl) ms (by decide +kernel) (pa_cons (pe_ix ix_tup (pv 0) pe_int (fun _ _ => rfl)) pa_nil))))) pss_nil)
      (pss_cons (ps_set (i := 1) scShown.nd rfl (.inl rfl) (pe_op op_add_str pe_str (pe_call GS hr (by rfl) g F.kp b .nil pass0 (pa_cons (pe_ix ix_tup (pv 0) pe_int (fun _ _ => rfl)) pa_nil))))
      (pss_cons (ps_set (i := 2) scShown.nd rfl (.inl rfl) (pe_ix ix_tup (pv 0) pe_int (fun _ _ => rfl)))
      (pss_cons (ps_while PassesOwn.never (PW.pt (pw_and (pt_val (pe_callB call_isi (by rfl) mi (by decide +kernel) (pa_cons (pv 2) (pa_cons (pe_bltn (v := .ty "tuple") (by rfl) mt (by decide +kernel) rfl) pa_nil))))
          (pw_and (pt_cmpR (op_neD hr.units) (pv 2) (pe_tup pa_nil) (nomark _)) (pw_and1 (pt_cmpR (op_neD hr.units) (pe_ix ix_tup (pv 2) pe_int (fun _ _ => rfl)) pe_str (nomark _))))))
        (pss_cons (ps_set (i := 1) scShown.nd rfl (.inl rfl) (pe_op op_add_str (pe_op op_add_str (pv 1) pe_str) (pe_call GS hr (by rfl) g F.kp b .nil pass0 (pa_cons (pe_ix ix_tup (pv 2) pe_int (fun _ _ => rfl)) pa_nil))))
          (pss_one (ps_set (i := 2) scShown.nd rfl (.inl rfl) (pe_ix ix_tup (pv 2) pe_int (fun _ _ => rfl))))))
      (pss_cons (ps_if (pt_cmpR (op_neD hr.units) (pv 2) (pe_tup pa_nil) (nomark _)) (pss_one (ps_set (i := 1) scShown.nd rfl (.inl rfl) (pe_op op_add_str (pe_op op_add_str (pv 1) pe_str) (pe_call GS hr (by rfl) g F.kp b .nil pass0 (pa_cons (pv 2) pa_nil))))) pss_nil)
      (pss_one (ps_ret (pe_op op_add_str (pv 1) pe_str))))))))), ?_⟩
    refine ⟨x, rfl, x, .ty "tuple", _, _, _, rfl, .ty _, hx.tyx, kit_ty t.isTup, _, rfl, ?_⟩
    have hlen := (len_txt ok).1
    cases hx with
    | int i =>
      refine iteT ⟨_, rfl, .inl ⟨i, rfl, log_ok ok, ?_⟩⟩
      have q' := q _ (Same.refl _)
      rw [txt_atom rfl] at q'
      show Q (.str (Str.ofString (toString i))) _
      rw [num_T]
      exact q'
    | wrd z =>
      refine iteT ⟨_, rfl, .inr ⟨z, rfl, ?_⟩⟩
      have q' := q _ (Same.refl _)
      rw [txt_atom rfl] at q'
      have e : tv (atx (.wrd z)) = V.str z := congrArg V.str (T_of z)
      rw [e] at q'
      exact q'
    | @nil a h0 =>
      refine iteF ⟨_, rfl, Nat.zero_le _, fun a0 na0 => ?_⟩
      have s2 : Same H (upd H a0 (.tup [])) := same_upd na0
      refine ⟨_, .tuple [], ((IsTm.nil h0).keep (sameTup s2)).dp, .tup (.inl (.inl upd_same)) .nil, Tm.shp ok (by decide), shp_nil, _, rfl, ?_⟩
      rw [eqv_nil]
      refine iteT ?_
      have e : T (txt .nil) = ("()" : Str) := str_eq_of (by simp [txt]; rfl)
      have q' := q _ s2
      rw [show tv (txt .nil) = V.str (T (txt .nil)) from rfl, e] at q'
      exact q'
    | @unk a n h0 =>
      have hab : n.natAbs < 10 ^ 41 := by
        have h1 := ok.1
        have h2 := ok.2
        omega
      have hnl := numT_len hab
      refine iteF ⟨_, rfl, Nat.zero_le _, fun a0 na0 => ?_⟩
      have s2 : Same H (upd H a0 (.tup [])) := same_upd na0
      have h02 := s2 _ _ h0
      refine ⟨_, .tuple [], ((IsTm.unk h0).keep (sameTup s2)).dp, .tup (.inl (.inl upd_same)) .nil, Tm.shp ok (by show 1 ≤ 64; decide), shp_nil, _, rfl, ?_⟩
      rw [eqv_nil]
      refine iteF ⟨_, rfl, a, _, 0, .str "?", rfl, rfl, .inl (.inl h02), atI_nat (j := 0) rfl, .str "?", .str "?", .str _, .str _, shp_q, shp_q, true, ?_, ?_⟩
      · rw [eqv_qq]
      refine iteT ⟨_, rfl, a, _, 1, .int n, rfl, rfl, .inl (.inl h02), atI_nat (j := 1) rfl, .inl ⟨n, rfl, log_ok hab, _, _, rfl, rfl, ?_, ?_⟩⟩
      · rw [num_T]
        show (T [63]).length + (T _).length ≤ _
        exact addT_len (by show 1 + _ ≤ _; omega)
      · have e : ("?" : Str) ++ Str.ofString (toString n) = T (txt (.unk n)) := by
          rw [num_T, txt_atom rfl]
          show T [63] ++ T _ = _
          rw [T_app]
          rfl
        show Q (.str (("?" : Str) ++ Str.ofString (toString n))) _
        rw [e]
        exact q _ s2
    | @pair a y z t1 t2 h0 h1 h2 =>
      refine iteF ⟨_, rfl, Nat.zero_le _, fun a0 na0 => ?_⟩
      have s2 : Same H (upd H a0 (.tup [])) := same_upd na0
      have h02 := s2 _ _ h0
      have h12 := h1.keep (sameTup s2)
      have h22 := h2.keep (sameTup s2)
      have hdp : (Tm.pair t1 t2).depth = max t1.depth t2.depth + 1 := rfl
      have hsz : (Tm.pair t1 t2).size = t1.size + t2.size + 1 := rfl
      have htx : txt (.pair t1 t2) = 40 :: (txt t1 ++ tlx t2) := by simp only [txt]
      refine ⟨_, .tuple [], (IsTm.pair h02 h12 h22).dp, .tup (.inl (.inl upd_same)) .nil, Tm.shp ok (by omega), shp_nil, _, rfl, ?_⟩
      rw [eqv_nil]
      refine iteF ⟨_, rfl, a, _, 0, y, rfl, rfl, .inl (.inl h02), atI_nat (j := 0) rfl, _, .str "?", h12.dp, .str _, Tm.shp ok.1 (by omega), shp_q, false, ?_, ?_⟩
      · rw [Tm.noq ok.1]
      generalize upd H a0 (.tup []) = H2 at *
      cases n with
      | zero => exact absurd hd (by omega)
      | succ m =>
        have hl1 := (len_txt ok.1).1
        refine iteF ⟨_, rfl, a, _, 0, y, rfl, rfl, .inl (.inl h02), atI_nat (j := 0) rfl, y, t1, rfl, h12, ok.1, by omega, by omega, by omega, fun H3 s3 => ?_⟩
        refine ⟨_, _, rfl, rfl, ?_, ?_⟩
        · show (T [40]).length + (T _).length ≤ _
          exact addT_len (by show 1 + _ ≤ _; omega)
        have h03 := s3 _ _ h02
        have s13 := s2.trans s3
        refine ⟨_, rfl, a, _, 1, z, rfl, rfl, .inl (.inl h03), atI_nat (j := 1) rfl, ?_⟩
        have e1 : ("(" : Str) ++ T (txt t1) = T (40 :: txt t1) := by
          show T [40] ++ T _ = _
          rw [T_app]
          rfl
        show tSeq _ _ _ [some (.ref a), some (.str (("(" : Str) ++ T (txt t1))), some z] H3
        rw [e1]
        refine laterW (C := fun σ1 H1 => ∃ (acc : List Nat) (u : Tm) (v : V), σ1 = [some (.ref a), some (tv acc), some v] ∧ u.isPair = false ∧ u.ok ∧ IsTm H1 v u ∧ acc ++ tlx u = txt (.pair t1 t2) ∧ Same H H1) (fun rest => ?_) ?_
        · refine ⟨fun m' σ H' => ∃ (acc : List Nat) (u : Tm) (v : V), σ = [some (.ref a), some (tv acc), some v] ∧ m' = u.size ∧ u.ok ∧ u.depth ≤ m ∧ u.size ≤ 10000 ∧ IsTm H' v u ∧ acc ++ tlx u = txt (.pair t1 t2) ∧ Same H H',
            ⟨t2.size, _, t2, z, rfl, rfl, ok.2, by omega, by omega, h22.keep (sameTup s3), by rw [htx]; rfl, s13⟩, fun m' σ H' hW => ?_⟩
          obtain ⟨acc, u, v, rfl, rfl, uo, ud, us, hv, hacc, sm⟩ := hW
          refine ⟨v, rfl, v, .ty "tuple", _, _, _, rfl, .ty _, hv.tyx, kit_ty u.isTup, _, rfl, ?_⟩
          cases hv with
          | int i => exact iteF (rest _ _ ⟨acc, .int i, _, rfl, rfl, uo, .int i, hacc, sm⟩)
          | wrd i => exact iteF (rest _ _ ⟨acc, .wrd i, _, rfl, rfl, uo, .wrd i, hacc, sm⟩)
          | @nil c g0 =>
            refine iteT ⟨_, rfl, Nat.zero_le _, fun c0 nc0 => ?_⟩
            have s4 : Same H' (upd H' c0 (.tup [])) := same_upd nc0
            refine ⟨_, .tuple [], ((IsTm.nil g0).keep (sameTup s4)).dp, .tup (.inl (.inl upd_same)) .nil, Tm.shp uo (by decide), shp_nil, _, rfl, ?_⟩
            rw [eqv_nil]
            exact iteF (rest _ _ ⟨acc, .nil, _, rfl, rfl, uo, .nil (s4 _ _ g0), hacc, sm.trans s4⟩)
          | @unk c n' g0 =>
            refine iteT ⟨_, rfl, Nat.zero_le _, fun c0 nc0 => ?_⟩
            have s4 : Same H' (upd H' c0 (.tup [])) := same_upd nc0
            have g1 := s4 _ _ g0
            refine ⟨_, .tuple [], ((IsTm.unk g0).keep (sameTup s4)).dp, .tup (.inl (.inl upd_same)) .nil, Tm.shp uo (by show 1 ≤ 64; decide), shp_nil, _, rfl, ?_⟩
            rw [eqv_nil]
            refine iteT ⟨_, rfl, c, _, 0, .str "?", rfl, rfl, .inl (.inl g1), atI_nat (j := 0) rfl, .str "?", .str "?", .str _, .str _, shp_q, shp_q, false, ?_, ?_⟩
            · rw [eqv_qq]
              rfl
            exact iteF (rest _ _ ⟨acc, .unk n', _, rfl, rfl, uo, .unk g1, hacc, sm.trans s4⟩)
          | @pair c y' z' u1 u2 g0 g1 g2 =>
            have udp : (Tm.pair u1 u2).depth = max u1.depth u2.depth + 1 := rfl
            have usz : (Tm.pair u1 u2).size = u1.size + u2.size + 1 := rfl
            refine iteT ⟨_, rfl, Nat.zero_le _, fun c0 nc0 => ?_⟩
            have s4 : Same H' (upd H' c0 (.tup [])) := same_upd nc0
            have g03 := s4 _ _ g0
            have g13 := g1.keep (sameTup s4)
            have g23 := g2.keep (sameTup s4)
            refine ⟨_, .tuple [], (IsTm.pair g03 g13 g23).dp, .tup (.inl (.inl upd_same)) .nil, Tm.shp uo (by omega), shp_nil, _, rfl, ?_⟩
            rw [eqv_nil]
            refine iteT ⟨_, rfl, c, _, 0, y', rfl, rfl, .inl (.inl g03), atI_nat (j := 0) rfl, _, .str "?", g13.dp, .str _, Tm.shp uo.1 (by omega), shp_q, true, ?_, ?_⟩
            · rw [Tm.noq uo.1]
              rfl
            generalize upd H' c0 (.tup []) = H5 at *
            refine iteT ⟨fun σ' H'' => ∃ m', m' < (Tm.pair u1 u2).size ∧ ∃ (acc : List Nat) (u : Tm) (v : V), σ' = [some (.ref a), some (tv acc), some v] ∧ m' = u.size ∧ u.ok ∧ u.depth ≤ m ∧ u.size ≤ 10000 ∧ IsTm H'' v u ∧ acc ++ tlx u = txt (.pair t1 t2) ∧ Same H H'', fun σ' H'' h => h, ?_⟩
            have hal : acc.length ≤ 500000 := by
              have := congrArg List.length hacc
              rw [List.length_append] at this
              omega
            have hul := (len_txt uo.1).1
            refine ⟨_, rfl, _, _, rfl, rfl, ?_, _, rfl, c, _, 0, y', rfl, rfl, .inl (.inl g03), atI_nat (j := 0) rfl, y', u1, rfl, g13, uo.1, by omega, by omega, by omega, fun H6 s6 => ?_⟩
            · show (T acc).length + (T [32]).length ≤ _
              exact addT_len (by show _ + 1 ≤ _; omega)
            have e2 : T acc ++ (" " : Str) = T (acc ++ [32]) := by
              show T acc ++ T [32] = _
              rw [T_app]
            refine ⟨_, _, rfl, rfl, ?_, ?_⟩
            · rw [e2]
              exact addT_len (by rw [List.length_append]; show _ + 1 + _ ≤ _; omega)
            refine ⟨_, rfl, c, _, 1, z', rfl, rfl, .inl (.inl (s6 _ _ g03)), atI_nat (j := 1) rfl, ?_⟩
            refine ⟨u2.size, by omega, (acc ++ [32]) ++ txt u1, u2, z', ?_, rfl, uo.2, by omega, by omega, g23.keep (sameTup s6), ?_, sm.trans (s4.trans s6)⟩
            · show [some (V.ref a), some (.str ((T acc ++ (" " : Str)) ++ T (txt u1))), some z'] = _
              rw [e2, T_app]
            · rw [← hacc, List.append_assoc, List.append_assoc]
              congr 1
        · rintro σ1 H1 ⟨acc, u, v, rfl, up, uo, hv, hacc, sm⟩
          have hal : acc.length ≤ 500000 := by
            have := congrArg List.length hacc
            rw [List.length_append] at this
            omega
          have ud : u.depth = 1 := by
            cases u with
            | pair _ _ => cases up
            | _ => rfl
          have us : u.size = 1 := by
            cases u with
            | pair _ _ => cases up
            | _ => rfl
          have hm1 : 1 ≤ m := by
            have := depth_pos t1
            omega
          refine ⟨v, rfl, Nat.zero_le _, fun c0 nc0 => ?_⟩
          have s4 : Same H1 (upd H1 c0 (.tup [])) := same_upd nc0
          have hv4 := hv.keep (sameTup s4)
          refine ⟨_, .tuple [], hv4.dp, .tup (.inl (.inl upd_same)) .nil, Tm.shp uo (by omega), shp_nil, _, rfl, ?_⟩
          rw [eqv_nil]
          cases hu : nilT u with
          | true =>
            refine iteF ⟨_, rfl, _, _, rfl, rfl, ?_, ?_⟩
            · show (T acc).length + (T [41]).length ≤ _
              exact addT_len (by show _ + 1 ≤ _; omega)
            have e3 : T acc ++ (")" : Str) = T (txt (.pair t1 t2)) := by
              show T acc ++ T [41] = _
              rw [T_app, ← hacc]
              cases u with
              | nil => simp [tlx]
              | _ => cases hu
            show Q (.str (T acc ++ (")" : Str))) _
            rw [e3]
            exact q _ (sm.trans s4)
          | false =>
            have ha : isAtom u = true := by
              cases u with
              | nil => cases hu
              | pair _ _ => cases up
              | _ => rfl
            have hul := (len_txt uo).1
            refine iteT ⟨_, rfl, _, _, rfl, rfl, ?_, v, rfl, v, u, rfl, hv4, uo, by omega, by omega, by omega, fun H6 s6 => ?_⟩
            · show (T acc).length + (T [32, 46, 32]).length ≤ _
              exact addT_len (by show _ + 3 ≤ _; omega)
            have e2 : T acc ++ (" . " : Str) = T (acc ++ [32, 46, 32]) := by
              show T acc ++ T [32, 46, 32] = _
              rw [T_app]
            refine ⟨_, _, rfl, rfl, ?_, ?_⟩
            · rw [e2]
              exact addT_len (by rw [List.length_append]; show _ + 3 + _ ≤ _; omega)
            have e3 : (T acc ++ (" . " : Str)) ++ T (txt u) = T ((acc ++ [32, 46, 32]) ++ txt u) := by rw [e2, T_app]
            refine ⟨_, rfl, _, _, rfl, rfl, ?_, ?_⟩
            · rw [e3]
              show (T _).length + (T [41]).length ≤ _
              exact addT_len (by rw [List.length_append, List.length_append]; show _ + 3 + _ + 1 ≤ _; omega)
            have e4 : ((T acc ++ (" . " : Str)) ++ T (txt u)) ++ (")" : Str) = T (txt (.pair t1 t2)) := by
              rw [e3]
              show T _ ++ T [41] = _
              rw [T_app, ← hacc, tlx_atom ha, txt_atom ha]
              congr 1
              simp
            show Q (.str (((T acc ++ (" . " : Str)) ++ T (txt u)) ++ (")" : Str))) _
            rw [e4]
            exact q _ (sm.trans (s4.trans s6))
theorem ok_shown {f : Addr} {fd : FuncData} {k : Nat} (F : Fun K "_law_shown" "_law_shown" sShown f fd) (b : Binds K fd ["_law_term_here"] []) (g : mg "_law_shown" = some (.ref f)) (mi : mg "isinstance" = none) (mt : mg "tuple" = none) (ms : mg "str" = none) : ∀ n, FnOk P w K mg base CX0 (k + 2 + n) f fd ["_law_term_here"] (spShow n)
  | 0 => ok_shown1 (k := k) (n := 0) F b g ⟨fun _ _ _ _ h => h.elim, fun _ _ _ _ _ _ _ _ _ _ _ _ _ h => h.elim⟩ mi mt ms
  | n + 1 => ok_shown1 (k := k + 1 + n) (n := n + 1) F b g ((ok_shown (k := k) F b g mi mt ms n).mono (by omega)) mi mt ms |>.mono (by omega)
end
end Ksec

set_option Elab.async false
set_option linter.all false
set_option maxRecDepth 100000
set_option maxHeartbeats 4000000
namespace Ksec
open PySem PySem.Spec PyProof.Rows L2
abbrev sGreat : Stmt := topS 29
theorem scGreat : FnScope ["_law_deck_here", "_law_words", "_law_kind", "_law_term_here", "_law_k", "_law_item"] ["_law_deck_here", "_law_words"] (defScope sGreat) := ⟨rfl, rfl, rfl, by decide +kernel, rfl, by decide +kernel, by decide +kernel⟩
/-- the words at wl -/
structure Wds (H : Hp) (d c wl : Addr) (zs : List Str) : Prop where
  w : H wl = some (.lst (zs.map V.str))
  w1 : wl ≠ d
  w2 : wl ≠ c
  wd : ∀ z ∈ zs, Wd z
  zl : zs.length = 3
theorem Wds.keep {H H' : Hp} {d c wl : Addr} {zs : List Str} (S : Wds H d c wl zs) (k : Kp d c H H') : Wds H' d c wl zs := ⟨k _ _ S.w1 S.w2 S.w, S.w1, S.w2, S.wd, S.zl⟩
theorem Wds.src {H : Hp} {d c wl ul : Addr} {zs : List Str} {us : List Int} (S : Wds H d c wl zs) (u : H ul = some (.lst (us.map V.int))) (u1 : ul ≠ d) (u2 : ul ≠ c) (hl : us.length ≤ 100) (hb : ∀ n ∈ us, 0 ≤ n ∧ n ≤ 999) : Src H d c wl ul zs us :=
  ⟨S.w, u, S.w1, S.w2, u1, u2, S.wd, by rw [S.zl]; decide, by rw [S.zl]; decide, hl, hb⟩
section
variable {P : Program} {w : World} {K : PySem.W.Frag} {mg : Str → Option Value} {base : Heap}
def spGreat : Sp := fun vs H Q _ => ∃ (d c wl : Addr) (zs : List Str), vs = [.ref d, .ref wl] ∧ Dk H d c ∧ Wds H d c wl zs ∧ ∀ H' x t, Dk H' d c → Kp d c H H' → IsTm H' x t → t.ok → t.depth ≤ 60 → t.size ≤ 500 → Q x H'
theorem ok_great {f fD fN fR : Addr} {fd fdD fdN fdR : FuncData} {k : Nat} (F : Fun K "_law_great_ground" "_law_great_ground" sGreat f fd) (GD : FnOk P w K mg base CX0 (k + 1) fD fdD ["_law_deck_here", "_law_many"] spDraw) (bD : Binds K fdD ["_law_deck_here", "_law_many"] [])
    (gD : mg "_law_draw" = some (.ref fD)) (kD : PySem.W.keepIn K (.ref fD) = true) (GN : FnOk P w K mg base CX0 (k + 2) fN fdN ["_law_deck_here"] spNumber) (bN : Binds K fdN ["_law_deck_here"] [])
    (gN : mg "_law_number" = some (.ref fN)) (kN : PySem.W.keepIn K (.ref fN) = true) (GR : ∀ n, FnOk P w K mg base CX0 (k + 4 + n) fR fdR psTerm (spTerm n)) (bR : Binds K fdR psTerm []) (gR : mg "_law_term" = some (.ref fR)) (kR : PySem.W.keepIn K (.ref fR) = true)
    (mr : mg "range" = none) : FnOk P w K mg base CX0 (k + 54) f fd ["_law_deck_here", "_law_words"] spGreat := by
  refine F.ok scGreat (fun vs H Q E h => ?_) (fun cdv A outer s H vs Q E hr h => ?_)
  · obtain ⟨d, c, wl, zs, rfl, _⟩ := h
    rfl
  · obtain ⟨d, c, wl, zs, rfl, hD, S, q⟩ := h
    have hr1 := hr.mono (show k + 1 ≤ k + 53 by omega)
    have hr2 := hr.mono (show k + 2 ≤ k + 53 by omega)
    have G49 : FnOk P w K mg base CX0 (k + 53) fR fdR psTerm (spTerm 49) := GR 49
    refine ⟨_, pss_cons (ps_set (i := 2) scGreat.nd rfl (.inl rfl) (pe_call GD hr1 (by rfl) gD kD bD .nil pass0 (pa_cons (pv 0) (pa_cons pe_int pa_nil))))
      (pss_cons (ps_if (pt_cmpR op_eq (pv 2) pe_int (nomark _)) (pss_one (ps_ret (pe_call G49 hr (by rfl) gR kR bR .nil pass0 (pa_cons (pv 0) (pa_cons (pv 1) (pa_cons (pe_lst pa_nil) (pa_cons pe_int (pa_cons (pe_lst (pa_cons pe_int pa_nil)) pa_nil)))))))) pss_nil)
      (pss_cons (ps_set (i := 3) scGreat.nd rfl (.inl rfl) (pe_tup pa_nil))
      (pss_cons (ps_for PassesOwn.never rfl (pi_range1 (by rfl) mr (pa_cons (pe_op op_add pe_int (pe_call GD hr1 (by rfl) gD kD bD .nil pass0 (pa_cons (pv 0) (pa_cons pe_int pa_nil)))) pa_nil)) (pg_name (i := 4) scGreat.nd rfl (Or.inl rfl))
        (pss_cons (ps_set (i := 5) scGreat.nd rfl (.inl rfl) (pe_ix ix_list (pe_lst (pa_cons (pe_call GN hr2 (by rfl) gN kN bN .nil pass0 (pa_cons (pv 0) pa_nil)) (pa_cons (pe_ix ix_list (pv 1) (pe_op op_mod (pv 4) pe_int) (fun _ _ => rfl))
            (pa_cons (pe_tup (pa_cons (pe_ix ix_list (pv 1) pe_int (fun _ _ => rfl)) (pa_cons (pv 4) pa_nil))) pa_nil)))) (pe_call GD hr1 (by rfl) gD kD bD .nil pass0 (pa_cons (pv 0) (pa_cons pe_int pa_nil))) (fun _ _ => rfl)))
          (pss_one (ps_set (i := 3) scGreat.nd rfl (.inl rfl) (pe_ix ix_list (pe_lst (pa_cons (pe_tup (pa_cons (pv 5) (pa_cons (pv 3) pa_nil))) (pa_cons (pe_tup (pa_cons (pv 3) (pa_cons (pv 5) pa_nil))) pa_nil))) (pe_op op_sub (pv 2) pe_int) (fun _ _ => rfl))))))
      (pss_one (ps_ret (pv 3)))))), ?_⟩
    refine ⟨.ref d, rfl, d, c, 3, rfl, hD, by decide, by decide, fun H1 kd hD1 kp1 b0 b1 => ?_⟩
    have S1 := S.keep kp1
    refine ⟨.int kd, rfl, rfl, _, rfl, ite2 (fun _ => ?_) (fun h0 => ?_)⟩
    · refine ⟨.ref d, rfl, .ref wl, rfl, Nat.zero_le _, fun ul nu => ⟨(by show 1 ≤ sizeLine; decide), fun e ne => ?_⟩⟩
      have s2 : Same H1 (upd H1 ul (.lst [])) := same_upd nu
      have s3 : Same (upd H1 ul (.lst [])) (upd (upd H1 ul (.lst [])) e (.lst [.int 298])) := same_upd ne
      have s4 := s2.trans s3
      have hD2 := hD1.same s2
      have S2 : Src _ d c wl ul zs [] := (S1.keep (kpSame s4)).src (s3 _ _ upd_same) (hD1.ne1 nu) (hD1.ne2 nu) (by decide) (fun n h => absurd h List.not_mem_nil)
      have n1 := hD2.ne1 ne
      have n2 := hD2.ne2 ne
      refine ⟨d, c, wl, ul, e, zs, [], 49, 298, rfl, hD1.same s4, S2, upd_same, n1, n2, ne_of_none (s2 _ _ S1.w) ne, ne_of_none (upd_same (H := H1) (a := ul) (o := .lst [])) ne, by decide, by decide, fun H4 x t L4 hD4 kq4 hL4 hx ht => ?_⟩
      obtain ⟨t1, t2, t3, t4⟩ := ht
      exact q H4 x t hD4 (kpBack (kp1.trans (kpSame s4)) e (kpFree (kp1.trans (kpSame s2)) n1 n2 ne) kq4) hx t1 (by omega) (by omega)
    · have hk : kd ≠ 0 := fun z => h0 (by rw [z]; exact decide_eq_true rfl)
      refine ⟨Nat.zero_le _, fun a0 na0 => ?_⟩
      have s2 : Same H1 (upd H1 a0 (.tup [])) := same_upd na0
      refine ⟨.ref d, rfl, d, c, 19, rfl, hD1.same s2, by decide, by decide, fun H3 r hD3 kp3 r0 r1 => ⟨30, r, rfl, rfl, 30 + r, rfl, by omega, by omega, ?_⟩⟩
      refine for_range (lo := 0) (n := (30 + r).toNat) (fun i σ H' => ∃ (y4 y5 : Option V) (x : V) (t : Tm), σ = [some (.ref d), some (.ref wl), some (.int kd), some x, y4, y5] ∧ Dk H' d c ∧ Kp d c H H' ∧ IsTm H' x t ∧ t.ok ∧ t.depth ≤ i + 2 ∧ t.size ≤ 4 * i + 1) ?_ (fun i σ H4 hi h4 => ?_) (fun σ H4 h4 => ?_)
      · exact ⟨none, none, _, .nil, rfl, hD3, kp1.trans ((kpSame s2).trans kp3), .nil (kpTup (hD1.same s2) kp3 _ _ upd_same), True.intro, by show 1 ≤ 2; decide, by show 1 ≤ 1; decide⟩
      · obtain ⟨y4, y5, x, t, rfl, hD4, kp4, hx, t1, t2', t3⟩ := h4
        have S4 := S.keep kp4
        have z3 : (zs.map V.str).length = 3 := by rw [List.length_map, S.zl]
        refine ⟨.ref d, rfl, d, c, rfl, hD4, fun H5 nm hD5 kp5 hnm => ?_⟩
        have S5 := S4.keep kp5
        have m0 := Int.emod_nonneg (0 + (i : Int)) (show (3 : Int) ≠ 0 by decide)
        have m1 := Int.emod_lt_of_pos (0 + (i : Int)) (show (0 : Int) < 3 by decide)
        obtain ⟨v1, hv1, ev1⟩ := item_at (xs := zs.map V.str) m0 (by rw [z3]; exact m1)
        obtain ⟨z1, hz1, rfl⟩ := List.mem_map.mp hv1
        obtain ⟨v0, hv0, ev0⟩ := item_at (xs := zs.map V.str) (i := 0) (by decide) (by rw [z3]; decide)
        obtain ⟨z0, hz0, rfl⟩ := List.mem_map.mp hv0
        refine ⟨.ref wl, rfl, _, rfl, _, 3, rfl, rfl, (by show (0 : Int) < 3; decide), wl, _, _, _, rfl, rfl, .inl (.inl S5.w), ev1, .ref wl, rfl, wl, _, 0, _, rfl, rfl, .inl (.inl S5.w), ev0, _, rfl, (by show 2 ≤ sizeLine; decide), fun p1 np1 => ⟨(by show 3 ≤ sizeLine; decide), fun p2 np2 => ?_⟩⟩
        have s6 : Same H5 (upd H5 p1 (.tup [.str z0, .int (0 + (i : Int))])) := same_upd np1
        have s7 : Same (upd H5 p1 (.tup [.str z0, .int (0 + (i : Int))])) (upd (upd H5 p1 (.tup [.str z0, .int (0 + (i : Int))])) p2 (.lst [.int nm, .str z1, .ref p1])) := same_upd np2
        have hD7 := hD5.same (s6.trans s7)
        have q2 := hD5.same s6
        have e1 := q2.ne1 np2
        have e2 := q2.ne2 np2
        have hp1 := s7 _ _ (upd_same (H := H5) (a := p1) (o := .tup [.str z0, .int (0 + (i : Int))]))
        have hp2 : upd (upd H5 p1 (.tup [.str z0, .int (0 + (i : Int))])) p2 (.lst [.int nm, .str z1, .ref p1]) p2 = some (.lst [.int nm, .str z1, .ref p1]) := upd_same
        have kp7 := kp4.trans (kp5.trans (kpSame (s6.trans s7)))
        have hx7 := (hx.keep (kpTup hD4 kp5)).keep (sameTup (s6.trans s7))
        refine ⟨.ref d, rfl, d, c, 3, rfl, hD7, by decide, by decide, fun H8 r' hD8 kp8 r0' r1' => ?_⟩
        obtain ⟨v, hv, ev⟩ := item_at (xs := [V.int nm, .str z1, .ref p1]) r0' r1'
        have hx8 := hx7.keep (kpTup hD7 kp8)
        have hp1' := kpTup hD7 kp8 _ _ hp1
        have kq8 := kp7.trans kp8
        obtain ⟨u, hu, u1, u2, u3⟩ : ∃ u, IsTm H8 v u ∧ u.ok ∧ u.depth ≤ 2 ∧ u.size ≤ 3 := by
          simp only [List.mem_cons, List.not_mem_nil, or_false] at hv
          rcases hv with rfl | rfl | rfl
          · exact ⟨.int nm, .int nm, Nat.lt_of_le_of_lt hnm (by decide +kernel), by show 1 ≤ 2; decide, by show 1 ≤ 3; decide⟩
          · exact ⟨.wrd z1, .wrd z1, S.wd z1 hz1, by show 1 ≤ 2; decide, by show 1 ≤ 3; decide⟩
          · exact ⟨.pair (.wrd z0) (.int (0 + (i : Int))), .pair hp1' (.wrd z0) (.int _), ⟨S.wd z0 hz0, by show (0 + (i : Int)).natAbs < 10 ^ 41; omega⟩, by show 2 ≤ 2; decide, by show 3 ≤ 3; decide⟩
        refine ⟨p2, _, r', v, rfl, rfl, .inl (.inl (kp8 _ _ e1 e2 hp2)), ev, ?_⟩
        refine ⟨v, rfl, x, rfl, (by show 2 ≤ sizeLine; decide), fun a1 na1 => ?_⟩
        have w1 : Same H8 (upd H8 a1 (.tup [v, x])) := same_upd na1
        refine ⟨x, rfl, v, rfl, (by show 2 ≤ sizeLine; decide), fun a2 na2 => ?_⟩
        have w2 : Same (upd H8 a1 (.tup [v, x])) (upd (upd H8 a1 (.tup [v, x])) a2 (.tup [x, v])) := same_upd na2
        refine ⟨(by show 2 ≤ sizeLine; decide), fun a3 na3 => ?_⟩
        have w3 := same_upd (o := .lst [.ref a1, .ref a2]) na3
        have w4 := w1.trans (w2.trans w3)
        have hx9 := hx8.keep (sameTup w4)
        have hu9 := hu.keep (sameTup w4)
        have g1 : IsTm _ (.ref a1) (.pair u t) := .pair (w3 _ _ (w2 _ _ upd_same)) hu9 hx9
        have g2 : IsTm _ (.ref a2) (.pair t u) := .pair (w3 _ _ upd_same) hx9 hu9
        have hp9 : upd (upd (upd H8 a1 (.tup [v, x])) a2 (.tup [x, v])) a3 (.lst [.ref a1, .ref a2]) a3 = some (.lst [.ref a1, .ref a2]) := upd_same
        have e12 : kd = 1 ∨ kd = 2 := by omega
        rcases e12 with e | e
        · subst e
          refine ⟨.int 1, rfl, 1, 1, rfl, rfl, a3, _, 0, .ref a1, rfl, rfl, .inl (.inl hp9), atI_nat (j := 0) rfl, _, _, _, _, rfl, hD8.same w4, kq8.trans (kpSame w4), g1, ⟨u1, t1⟩, ?_, ?_⟩
          · show max u.depth t.depth + 1 ≤ _
            omega
          · show u.size + t.size + 1 ≤ _
            omega
        · subst e
          refine ⟨.int 2, rfl, 2, 1, rfl, rfl, a3, _, 1, .ref a2, rfl, rfl, .inl (.inl hp9), atI_nat (j := 1) rfl, _, _, _, _, rfl, hD8.same w4, kq8.trans (kpSame w4), g2, ⟨t1, u1⟩, ?_, ?_⟩
          · show max t.depth u.depth + 1 ≤ _
            omega
          · show t.size + u.size + 1 ≤ _
            omega
      · obtain ⟨y4, y5, x, t, rfl, hD4, kp4, hx, t1, t2', t3⟩ := h4
        exact ⟨x, rfl, q H4 x t hD4 kp4 hx t1 (by omega) (by omega)⟩
end
end Ksec

set_option Elab.async false
set_option linter.all false
set_option maxRecDepth 100000
set_option maxHeartbeats 4000000
namespace Ksec
open PySem PySem.Spec PyProof.Rows L2
/-! defs that are called where no repr is under way -/
structure GOk (P : Program) (w : World) (K : PySem.W.Frag) (mg : Str → Option Value) (base : Heap) (k : Nat) (f : Addr) (fd : FuncData) (ps : List Str) (sp : Sp) : Prop where
  len : ∀ vs H Q E, sp vs H Q E → vs.length = ps.length
  run : ∀ (A : Around) (outer : List Env) (s : Shared) (H : Hp) (args : Args) (us : List Value) (vs : List V) (Q : VK) (E : XK), A.guards = some [] → Room k A → Env0 P w K mg base A outer s H → BindsTo s fd args (ps.zip us) → Vals vs us → sp vs H Q E →
    codeAny (model P w) A (.call (.ref f) args) (CR CX0 outer P w H s Q E) s
theorem gok_of {P : Program} {w : World} {K : PySem.W.Frag} {mg : Str → Option Value} {base : Heap} {x qual : Str} {st : Stmt} {f : Addr} {fd : FuncData} {N ps : List Str} {k : Nat} {sp : Sp} (F : Fun K x qual st f fd) (S : FnScope N ps (defScope st))
    (len : ∀ vs H Q E, sp vs H Q E → vs.length = ps.length)
    (hbody : ∀ (cdv : Value) (A : Around) (outer : List Env) (s : Shared) (H : Hp) (vs : List V) (Q : VK) (E : XK), A.guards = some [] → Room k (A.deeper (envOfC qual (defScope st) s.heap.objs.size f cdv)) → sp vs H Q E →
      ∃ t, PSs (cxOf CX0 P w K mg base N qual (defScope st) f cdv A outer s H E).nox (defBody st) t ∧ t { nx := fun _ H' => Q .non H', rt := Q } (start N vs) H) : GOk P w K mg base (k + 1) f fd ps sp := by
  refine ⟨len, fun A outer s H args us vs Q E hg hr e0 hb r hsp => ?_⟩
  obtain ⟨oc, od, kV, doc, pm, an, cdv, ct, osl, rfl, lk, hcd⟩ := F.ex
  have hl := len _ _ _ _ hsp
  have old : ∀ b o, base.get? b = some o → s.heap.get? b = some o := fun b o e => (e0.bs b o e).1
  have kin := e0.mod.kin.keeps old
  have loc : ∀ y ∈ ps.zip us, (defScope st).names.lookup y.1 = some .local ∨ ((defScope st).names.lookup y.1 = some .cell ∧ ((cellsFrom (s.heap.objs.size + 1) (defScope st).names []).lookup y.1).isSome = true) := by
    rintro ⟨n, v⟩ hy
    cases S.par n (List.of_mem_zip hy).1 with
    | inl z => exact .inl z
    | inr z => exact .inr ⟨z, PySem.W.cellsFrom_some _ _ _ (.inl z)⟩
  refine codeAny_call_function hr.depth (kin _ _ lk) rfl S.co S.gen rfl (PySem.W.codeRec_of kin hcd) (hb _ _ _ _ (wpAny_newFunctionEnv_cells S.kind loc fun env he s1 xx => ?_))
  subst he
  refine ⟨(e0.mod.nolimit.keeps old).keeps xx.toInCall.keep, codeAny_func ?_⟩
  obtain ⟨t, ht, hq⟩ := hbody cdv A outer s H vs Q E hg (hr.deeper _) hsp
  have I := inv_start (E := E) (CX := CX0) S hr.hd e0 hl r xx
  have ends : ∀ {σ' : L2.St} {H' : Hp} {v : V} {u : Value} {s' : Shared}, Inv (cxOf CX0 P w K mg base N qual (defScope st) f cdv A outer s H E) [] σ' H' s' → RelV v u → Q v H' → CE outer P w H s Q u s' := fun J rv z => ⟨_, _, J.os, J.bare, J.base, J.hok, rv, z⟩
  refine wpAny_mono (ht.nox.run [] s1 (start N vs) H _ I hq) (fun fl s' hs => ?_) fun _ _ hs => hs
  match fl, hs with
  | .ret u, ⟨v, σ', H', J, rv, z⟩ => exact ends J rv z
  | .next, ⟨σ', H', J, z⟩ => exact ends (v := V.non) (u := Value.none) J rfl z
  | .brk, ⟨_, _, _, z⟩ => exact z.elim
  | .cont, ⟨_, _, _, z⟩ => exact z.elim
theorem pe_gcall {X : Cx} {k : Nat} {f : Addr} {fd : FuncData} {ps : List Str} {sp : Sp} {x : Str} {p pos : Pos} {e : Expr} {es : List Expr} {t : TA} (F : GOk X.prog X.w X.K X.mg X.base k f fd ps sp) (g0 : X.A.guards = some []) (hr : Room k X.A) (hg : Gl X x) (hm : X.mg x = some (.ref f))
    (hk : PySem.W.keepIn X.K (.ref f) = true) (hb : Binds X.K fd ps []) (ha : PA X (e :: es) t) (hdb : (x == ("__debug__" : Str)) = false := by decide) (he : starEach (e :: es) X.env = (false, eval e X.env) :: starEach es X.env := by rfl)
    (hpl : (backTo pos (starEach es X.env)).any (·.1) = false := by rfl) : PE X (.Call (.Name x p) (e :: es) [] pos) (tCall sp [] E0 t) := by
  constructor
  intro pins s σ H Q I h
  apply wpAny_Call_Name_kw
  apply ld_glob I hg hm (hd := hdb)
  refine PySem.W.callWith_K (h₀ := X.base) I.ok.mod.kin hk (thn (ha.run pos pins s σ H _ I h) ?_) he hpl
  rintro us s1 ⟨vs, H1, I1, r, q⟩
  refine ⟨I1.kIn, wpAny_call ?_⟩
  rw [List.append_nil] at q
  have hl : us.length = ps.length := by rw [← r.length]; exact F.len _ _ _ _ q
  have bd := hb s1 us I1.kIn (by rw [List.append_nil]; exact hl)
  rw [List.append_nil] at bd
  refine codeAny_mono (F.run X.A X.stack s1 H1 ⟨us, []⟩ us vs Q E0 g0 hr I1.env0 bd r q) fun rr s' hq => ?_
  match rr, hq with
  | .ok (.ret u), hq => exact I1.after hq
  | .ok .next, hq => exact hq.elim
  | .ok .brk, hq => exact hq.elim
  | .ok .cont, hq => exact hq.elim
  | .error e, hq => exact hq.elim
/-- repr(x) of data -/
theorem call_reprD {X : Cx} (g0 : X.A.guards = some []) (hu : X.A.units + 70 < cLine) : CallR X (.builtin "repr") (fun xs H Q => ∃ v d, xs = [v] ∧ Dp X.K H v d ∧ d.showable = true ∧ d.hasDict = false ∧ d.depth ≤ 64 ∧ d.shown.length ≤ sizeLine ∧ Q (.str d.shown) H) := by
  intro pins s σ H xs us Q I r h
  obtain ⟨v, d, rfl, hd, h1, h2, h3, h4, q⟩ := h
  obtain ⟨u, rfl, rx⟩ := vals1 r
  obtain ⟨as, rd⟩ := Dp.reads I d v u hd rx
  have ref : ∀ a, u = .ref a → wpAny (model X.prog X.w) X.A (call (.builtin "repr") [u]) (EP X pins σ Q) X.xe s := fun a ea => by
    subst ea
    exact repr_of_reads' rd h1 (fun z => by rw [h2] at z; cases z) g0 (by omega) (fun _ _ e => e) (fun h' t tk hk => ⟨.str d.shown, H, I.kept hk, ⟨t, rfl⟩, q⟩) h4
  cases hd with
  | non =>
    cases rx
    exact PySem.P.repr_of_none ⟨.str _, H, I.tok _, ⟨_, rfl⟩, q⟩
  | bl b =>
    cases rx
    exact PySem.P.repr_of_bool ⟨.str _, H, I.tok _, ⟨_, rfl⟩, q⟩
  | int i =>
    obtain ⟨t, rfl⟩ := rx
    exact PySem.P.repr_of_int (of_decide_eq_true h1) ⟨.str _, H, I.tok _, ⟨_, rfl⟩, q⟩
  | str x =>
    obtain ⟨t, rfl⟩ := rx
    exact PySem.P.repr_of_str ⟨.str _, H, I.tok _, ⟨_, rfl⟩, q⟩ h4
  | lst _ _ => exact ref _ rx
  | tup _ _ => exact ref _ rx
/-- the law's own call, where no repr is under way -/
theorem glaw {P : Program} {w : World} {K : PySem.W.Frag} {mg mb : Str → Option Value} {k : Nat} {fa a : Addr} {fd : FuncData} {x : Str} {sp : Sp} {s₁ : Shared} {vs : List Value} {ns : List Int} (KX : K.In s₁.heap) (hns : s₁.heap.Ns mainGlobals mg)
    (hb : s₁.heap.Ns builtinsNs mb) (hbb : ∀ x : Str, x ≠ "__name__" → mb x = bootBuiltins x) (hlim : s₁.heap.NoLimit) (hg : s₁.gens = #[]) (ha : s₁.heap.get? a = some { cls := .type "list", data := .seq vs.toArray }) (hi : IntsAre vs ns) (hl : ns.length ≤ sizeLine) (hr : Room k callerA)
    (F : ∀ base : Heap, K.In base → base.Ns mainGlobals mg → GOk P w K mg base k fa fd [x] sp) (hbind : ∀ (s : Shared) (u : Value), BindsTo s fd ⟨[u], []⟩ [(x, u)])
    (hsp : ∀ H : Hp, SqL K H a (ns.map V.int) → sp [.ref a] H (fun v _ => v = .bl true) fun _ _ _ => False) :
    codeAny (model P w) callerA (.call (.ref fa) ⟨[.ref a], []⟩) (fun r s' => r = .ok (.ret (.bool true)) ∧ OldK s₁.heap s'.heap ∧ s'.os = s₁.os ∧ AllBare s'.gens) s₁ := by
  have rv := vals_ints hi
  have from_ : ∀ H : Hp, Only H → SqL K H a (ns.map V.int) → HOk P w H s₁.heap → (∀ b u, H b = some u → b = a ∧ K.lookup a = none) → codeAny (model P w) callerA (.call (.ref fa) ⟨[.ref a], []⟩) (fun r s' => r = .ok (.ret (.bool true)) ∧ OldK s₁.heap s'.heap ∧ s'.os = s₁.os ∧ AllBare s'.gens) s₁ := by
    intro H hO hS hok hA
    have free : ∀ {b : Addr} {o : Obj}, s₁.heap.get? b = some o → (b = a → K.lookup a = none → False) → H b = none := fun {b o} e no => by
      cases z : H b with
      | none => rfl
      | some u => exact (no (hA b u z).1 (hA b u z).2).elim
    have nsK : ∀ {b : Addr} {m : Str → Option Value}, s₁.heap.Ns b m → (hidT s₁.heap H).Ns b m := by
      rintro b m ⟨o, es, ep, e, d, r⟩
      refine ⟨o, es, ep, hidT_get e (free e fun z _ => ?_), d, r⟩
      subst z
      rw [ha] at e
      cases e
      cases d
    have hKb : K.In (hidT s₁.heap H) := fun b o e => hidT_get (KX b o e) (free (KX b o e) fun z n => by
      subst z
      rw [e] at n
      cases n)
    have e0 : Env0 P w K mg (hidT s₁.heap H) callerA [] s₁ H :=
      ⟨rfl, ⟨hKb, nsK hns, ⟨mb, nsK hb, hbb⟩, hlim.elim fun mc h => ⟨mc, nsK h.1, h.2⟩⟩, fun _ _ e => of_hidT e, Nat.le_of_eq (hidT_size _ _), True.intro, fun b (z : b ∈ ([] : List Addr)) => absurd z List.not_mem_nil, hok, .of_eq hg⟩
    refine codeAny_mono ((F _ hKb (nsK hns)).run callerA [] s₁ H ⟨[.ref a], []⟩ [.ref a] [.ref a] _ _ rfl hr e0 (hbind s₁ (.ref a)) (.cons rfl .nil) (hsp H hS)) ?_
    intro r s' h
    match r, h with
    | .error e, h => exact h.elim
    | .ok .next, h => exact h.elim
    | .ok .brk, h => exact h.elim
    | .ok .cont, h => exact h.elim
    | .ok (.ret u), ⟨v, H', os, bare, un, hok', r', q⟩ =>
      cases (show v = .bl true from q)
      cases (show u = Value.bool true from r')
      refine ⟨rfl, OldK.of_keep fun b o e => ?_, os, bare⟩
      rcases hO b with z | ⟨ob, xs, z⟩
      · exact un.keep b o e z (fun (z : b ∈ ([] : List Addr)) => absurd z List.not_mem_nil) (fun (z : b ∈ ([] : List Addr)) => absurd z List.not_mem_nil)
      · have z1 := (hok b _ z).1
        have z2 := (hok' b _ (un.frzs b ob _ z)).1
        rw [e] at z1
        cases z1
        exact z2
  cases hk : K.lookup a with
  | some o =>
    have e := KX a o hk
    rw [ha] at e
    cases e
    exact from_ (fun _ => none) (fun _ => .inl rfl) (.inr ⟨_, vs.toArray, _, hk, rfl, rfl, rfl, by rw [List.size_toArray, hi.length]; exact hl, by simpa using rv⟩) (fun b u z => nomatch (show (none : Option HO) = some u from z)) (fun b u z => nomatch (show (none : Option HO) = some u from z))
  | none =>
    refine from_ (upd (fun _ => none) a (.frz { cls := .type "list", data := .seq vs.toArray } (.lst (ns.map V.int)))) (fun b => ?_) (.inl (.inr ⟨_, upd_same⟩)) (fun b u z => ?_) (fun b u z => ?_)
    all_goals by_cases hb' : b = a
    · exact .inr ⟨_, _, by rw [hb']; exact upd_same⟩
    · exact .inl (upd_ne hb')
    · subst hb'
      rw [upd_same] at z
      cases z
      exact ⟨ha, by rw [List.length_map]; exact hl, vs, _, rv, ha⟩
    · rw [upd_ne hb'] at z
      cases z
    · exact ⟨hb', hk⟩
    · rw [upd_ne hb'] at z
      cases z
theorem gwalk {l : PySem.W.OpenLaw} {n k : Nat} {q : Program} {loose : List Str} {XP : (Str → Option Value) → Heap → Prop} {YP : World → Heap → Prop} {d : DefRec} {K : Params → PySem.W.Frag} {sp : PySem.W.Frag → Sp} {x : Str} (hn : l.most = some n) (hn2 : n ≤ sizeLine) (hdf : d.params.defaults = [])
    (hr : Room k callerA) (hY : ∀ (w : World) (h : Heap), YP w h → (K w.params).In h)
    (F : ∀ (w : World) (mg : Str → Option Value) (fa : Addr) (h : Heap), (K w.params).In h → h.Ns mainGlobals mg → mg d.name = some (.ref fa) → ∃ fd : FuncData, (∀ (s : Shared) (u : Value), BindsTo s fd ⟨[u], []⟩ [(x, u)]) ∧
      ∀ base : Heap, (K w.params).In base → base.Ns mainGlobals mg → GOk l.prog w (K w.params) mg base k fa fd [x] (sp (K w.params)))
    (hsp : ∀ (K : PySem.W.Frag) (H : Hp) (a : Addr) (ns : List Int), ns.length ≤ n → SqL K H a (ns.map V.int) → sp K [.ref a] H (fun v _ => v = .bl true) fun _ _ _ => False) :
    PySem.W.WalkO q loose XP YP l.row.toRowW d [] (fun f vs => PySem.call f vs) := by
  refine Att.attach_call hn hdf fun w s₀ s₁ mg mb fa o pm cd doc a vs ns G Y ho hd hcd hmg hobj hints hlen hg => ?_
  obtain ⟨fd, bd, hF⟩ := F w mg fa _ (hY w _ Y) G.T.g hmg
  exact glaw (hY w _ Y) G.T.g G.T.b G.T.builtins G.T.nolimit hg hobj hints (Nat.le_trans hlen hn2) hr hF bd fun H hS => hsp _ H a ns hlen hS
end Ksec

set_option Elab.async false
set_option linter.all false
set_option maxRecDepth 100000
set_option maxHeartbeats 4000000
namespace Ksec
open PySem PySem.Spec PyProof.Rows L2
abbrev sLong : Stmt := topS 30
abbrev sFar : Stmt := topS 31
abbrev sRight : Stmt := topS 32
theorem scLong : FnScope ["_law_deck_here", "_law_words", "_law_text", "_law_k"] ["_law_deck_here", "_law_words"] (defScope sLong) := ⟨rfl, rfl, rfl, by decide +kernel, rfl, by decide +kernel, by decide +kernel⟩
theorem scFar : FnScope ["_law_deck_here", "_law_found", "_law_k"] ["_law_deck_here"] (defScope sFar) := ⟨rfl, rfl, rfl, by decide +kernel, rfl, by decide +kernel, by decide +kernel⟩
theorem scRight : FnScope ["_law_term_here", "_law_text", "_law_found"] ["_law_term_here"] (defScope sRight) := ⟨rfl, rfl, rfl, by decide +kernel, rfl, by decide +kernel, by decide +kernel⟩
theorem room70 {k : Nat} {A : Around} (r : Room k A) : A.units + 70 < cLine := by
  have := r.un
  omega
/-! a term's data is small -/
theorem int_short {n : Int} (h : n.natAbs < 10 ^ 41) : (PyData.int n).leavesShort 43 = true := by
  show decide ((PyData.shown (.int n)).length ≤ 43) = true
  apply decide_eq_true
  show (Str.ofString (toString n)).length ≤ 43
  rw [num_T, T_len]
  have := numT_len h
  omega
theorem str_short {z : Str} (h : ∀ c ∈ z.cps.toList, c ≤ 122) : (PyData.str z).leavesShort 43 = true := by
  show (z.cps.toList.all fun c => decide (c < 16 ^ 8)) = true
  rw [List.all_eq_true]
  intro c hc
  have := h c hc
  exact decide_eq_true (by omega)
theorem q_short : (PyData.str "?").leavesShort 43 = true := str_short (by decide)
theorem tm_sm : ∀ {t : Tm}, t.ok → t.data.showable = true ∧ t.data.hasDict = false ∧ t.data.leavesShort 43 = true ∧ t.data.bulk ≤ 10 * t.size
  | .int i, h => ⟨decide_eq_true (log_ok h), rfl, int_short h, Nat.zero_le _⟩
  | .wrd z, h => by
    refine ⟨rfl, rfl, str_short fun c hc => (h.2.2 c hc).2, ?_⟩
    have := h.2.1
    show z.cps.size ≤ 10
    have e : z.length = z.cps.size := rfl
    omega
  | .nil, _ => ⟨rfl, rfl, rfl, Nat.zero_le _⟩
  | .unk n, h => by
    have hn : n.natAbs < 10 ^ 41 := by
      have h1 := h.1
      have h2 := h.2
      omega
    have sh : (PyData.int n).showable = true := decide_eq_true (log_ok hn)
    refine ⟨?_, rfl, ?_, ?_⟩
    · show (true && ((PyData.int n).showable && true)) = true
      rw [sh]
      rfl
    · show ((PyData.str "?").leavesShort 43 && ((PyData.int n).leavesShort 43 && true)) = true
      rw [int_short hn, q_short]
      rfl
    · show (1 + 1 + (0 + 1 + 0) : Nat) ≤ 10
      decide
  | .pair a b, h => by
    obtain ⟨a1, a2, a3, a4⟩ := tm_sm h.1
    obtain ⟨b1, b2, b3, b4⟩ := tm_sm h.2
    refine ⟨?_, ?_, ?_, ?_⟩
    · show (a.data.showable && (b.data.showable && true)) = true
      rw [a1, b1]
      rfl
    · show (a.data.hasDict || (b.data.hasDict || false)) = false
      rw [a2, b2]
      rfl
    · show (a.data.leavesShort 43 && (b.data.leavesShort 43 && true)) = true
      rw [a3, b3]
      rfl
    · show a.data.bulk + 1 + (b.data.bulk + 1 + 0) ≤ 10 * (a.size + b.size + 1)
      omega
theorem tm_fit {t : Tm} (h : t.ok) (hz : t.size ≤ 10000) : t.data.shown.length ≤ sizeLine := by
  obtain ⟨h1, h2, h3, h4⟩ := tm_sm h
  have h7 := PyData.shown_le_bulk 43 (by decide) t.data h3
  rw [sizeLine_eq]
  omega
section
variable {P : Program} {w : World} {K : PySem.W.Frag} {mg : Str → Option Value} {base : Heap}
def spRight : Sp := fun vs H Q _ => ∃ (x : V) (t : Tm), vs = [x] ∧ IsTm H x t ∧ t.ok ∧ t.depth ≤ 62 ∧ t.size ≤ 1000 ∧ ∀ H', Same H H' → Q (.bl true) H'
theorem ok_right {f fL fS fR : Addr} {fd fdL fdS fdR : FuncData} (F : Fun K "_law_right" "_law_right" sRight f fd) (GL : FnOk P w K mg base CX0 140 fL fdL ["_law_term_here"] (spShow 62)) (bL : Binds K fdL ["_law_term_here"] []) (gL : mg "_law_shown" = some (.ref fL)) (kL : PySem.W.keepIn K (.ref fL) = true)
    (GS : FnOk P w K mg base CX0 140 fS fdS ["term"] (spShow 62)) (bS : Binds K fdS ["term"] []) (gS : mg "show_term" = some (.ref fS)) (kS : PySem.W.keepIn K (.ref fS) = true)
    (GR : FnOk P w K mg base CX0 140 fR fdR ["text"] spRead) (bR : Binds K fdR ["text"] []) (gR : mg "read_term" = some (.ref fR)) (kR : PySem.W.keepIn K (.ref fR) = true) (mr : mg "repr" = none) (mi : mg "isinstance" = none) (ms : mg "str" = none) : GOk P w K mg base 141 f fd ["_law_term_here"] spRight := by
  refine gok_of F scRight (fun vs H Q E h => ?_) (fun cdv A outer s H vs Q E g0 hr h => ?_)
  · obtain ⟨x, t, rfl, _⟩ := h
    rfl
  · obtain ⟨x, t, rfl, hx, ok, hd, hz, q⟩ := h
    refine ⟨_, pss_cons (ps_set (i := 1) scRight.nd rfl (.inl rfl) (pe_call GL hr (by rfl) gL kL bL .nil pass0 (pa_cons (pv 0) pa_nil)))
      (pss_cons (ps_set (i := 2) scRight.nd rfl (.inl rfl) (pe_call GS hr (by rfl) gS kS bS .nil pass0 (pa_cons (pv 0) pa_nil)))
      (pss_one (ps_ret (pe_and (pe_callB call_isi (by rfl) mi (by decide +kernel) (pa_cons (pv 2) (pa_cons (pe_bltn (v := .ty "str") (by rfl) ms (by decide +kernel) rfl) pa_nil)))
        (pe_and (pe_cmpR op_eq (pv 2) (pv 1) (nomark _)) (pe_one (pe_cmpR op_eq (pe_callB (call_reprD g0 (room70 hr)) (by rfl) mr (by decide +kernel) (pa_cons (pe_call GR hr (by rfl) gR kR bR .nil pass0 (pa_cons (pv 1) pa_nil)) pa_nil))
          (pe_callB (call_reprD g0 (room70 hr)) (by rfl) mr (by decide +kernel) (pa_cons (pv 0) pa_nil)) (nomark _)))))))), ?_⟩
    obtain ⟨m1, m2, m3, m4⟩ := tm_sm ok
    have fit := tm_fit ok (by omega)
    have dd := t.data_depth
    refine ⟨x, rfl, x, t, rfl, hx, ok, hd, by decide, by omega, fun H1 s1 => ?_⟩
    refine ⟨x, rfl, x, t, rfl, hx.keep (sameTup s1), ok, hd, by decide, by omega, fun H2 s2 => ?_⟩
    refine ⟨_, rfl, tv (txt t), .ty "str", _, _, true, rfl, .ty _, .base (.str _), kit_ty (by decide +kernel), true, rfl, iteT ?_⟩
    refine ⟨_, rfl, _, rfl, rfl, true, congrArg V.bl (decide_eq_true rfl), iteT ?_⟩
    refine ⟨_, rfl, t, rfl, ok, by omega, fun H3 v s3 hv => ?_⟩
    have hx3 := hx.keep (sameTup (s1.trans (s2.trans s3)))
    refine ⟨v, _, rfl, hv.dp, m1, m2, by omega, fit, x, rfl, x, _, rfl, hx3.dp, m1, m2, by omega, fit, rfl, ?_⟩
    have e : decide (V.str t.data.shown = V.str t.data.shown) = true := decide_eq_true rfl
    show Q (.bl (decide (V.str t.data.shown = V.str t.data.shown))) H3
    rw [e]
    exact q _ (s1.trans (s2.trans s3))
/-! numbers of up to forty figures -/
def spFar : Sp := fun vs H Q _ => ∃ (d c : Addr), vs = [.ref d] ∧ Dk H d c ∧ ∀ H' i, Dk H' d c → Kp d c H H' → 1 ≤ i → i < 10 ^ 40 → Q (.int i) H'
theorem ok_far {f fD : Addr} {fd fdD : FuncData} {k : Nat} (F : Fun K "_law_far" "_law_far" sFar f fd) (GD : FnOk P w K mg base CX0 (k + 1) fD fdD ["_law_deck_here", "_law_many"] spDraw) (bD : Binds K fdD ["_law_deck_here", "_law_many"] [])
    (gD : mg "_law_draw" = some (.ref fD)) (kD : PySem.W.keepIn K (.ref fD) = true) (mr : mg "range" = none) : FnOk P w K mg base CX0 (k + 2) f fd ["_law_deck_here"] spFar := by
  refine F.ok scFar (fun vs H Q E h => ?_) (fun cdv A outer s H vs Q E hr h => ?_)
  · obtain ⟨d, c, rfl, _⟩ := h
    rfl
  · obtain ⟨d, c, rfl, hD, q⟩ := h
    refine ⟨_, pss_cons (ps_set (i := 1) scFar.nd rfl (.inl rfl) (pe_op op_add pe_int (pe_call GD hr (by rfl) gD kD bD .nil pass0 (pa_cons (pv 0) (pa_cons pe_int pa_nil)))))
      (pss_cons (ps_for PassesOwn.never rfl (pi_range1 (by rfl) mr (pa_cons pe_int pa_nil)) (pg_name (i := 2) scFar.nd rfl (Or.inl rfl))
        (pss_one (ps_set (i := 1) scFar.nd rfl (.inl rfl) (pe_op op_add (pe_op op_mul (pv 1) (pe_op op_pow pe_int pe_int)) (pe_call GD hr (by rfl) gD kD bD .nil pass0 (pa_cons (pv 0) (pa_cons (pe_op op_pow pe_int pe_int) pa_nil)))))))
      (pss_one (ps_ret (pe_ix ix_list (pe_lst (pa_cons (pe_op op_sub (pe_op op_pow pe_int pe_int) pe_int) (pa_cons (pe_op op_pow pe_int pe_int) (pa_cons (pv 1) (pa_cons (pe_op op_add (pe_op op_mod (pv 1) (pe_op op_pow pe_int pe_int)) (pe_op op_pow pe_int pe_int)) pa_nil)))))
        (pe_call GD hr (by rfl) gD kD bD .nil pass0 (pa_cons (pv 0) (pa_cons pe_int pa_nil))) (fun _ _ => rfl))))), ?_⟩
    refine ⟨.ref d, rfl, d, c, 9, rfl, hD, by decide, by decide, fun H1 a hD1 kp1 a0 a1 => ⟨1, a, rfl, rfl, ?_⟩⟩
    refine ⟨6, rfl, by decide, by decide, ?_⟩
    refine for_range (lo := 0) (n := 6) (fun i σ H' => ∃ (y2 : Option V) (n : Int), σ = [some (.ref d), some (.int n), y2] ∧ Dk H' d c ∧ Kp d c H H' ∧ 1 ≤ n ∧ n < 10 ^ (1 + 6 * i)) ?_ (fun i σ H2 hi h2 => ?_) (fun σ H2 h2 => ?_)
    · exact ⟨none, 1 + a, rfl, hD1, kp1, by omega, by show 1 + a < 10; omega⟩
    · obtain ⟨y2, n, rfl, hD2, kp2, n1, n2⟩ := h2
      refine ⟨_, rfl, 10, 6, rfl, rfl, ⟨by decide, by decide, by decide⟩, n, _, rfl, rfl, .inr ⟨by decide, by decide⟩, ?_⟩
      refine ⟨.ref d, rfl, 10, 6, rfl, rfl, ⟨by decide, by decide, by decide⟩, d, c, _, rfl, hD2, by decide, by decide, fun H3 r hD3 kp3 r0 r1 => ⟨_, r, rfl, rfl, ?_⟩⟩
      have e6 : (10 : Int) ^ (6 : Int).toNat = 1000000 := rfl
      rw [e6] at r1
      refine ⟨_, n * 10 ^ (6 : Int).toNat + r, rfl, hD3, kp2.trans kp3, ?_, ?_⟩
      · rw [e6]
        omega
      · rw [e6, show 1 + 6 * (i + 1) = (1 + 6 * i) + 6 by omega, Int.pow_add]
        show _ < (10 : Int) ^ (1 + 6 * i) * 1000000
        generalize (10 : Int) ^ (1 + 6 * i) = B at *
        omega
    · obtain ⟨y2, n, rfl, hD2, kp2, n1, n2⟩ := h2
      have n3 : n < 10 ^ 37 := n2
      refine ⟨10, 40, rfl, rfl, ⟨by decide, by decide, by decide⟩, _, 1, rfl, rfl, 10, 39, rfl, rfl, ⟨by decide, by decide, by decide⟩, _, rfl, _, rfl, 10, 33, rfl, rfl, ⟨by decide, by decide, by decide⟩, n, _, rfl, rfl, (by show (0 : Int) < 10 ^ (33 : Int).toNat; decide), 10, 32, rfl, rfl, ⟨by decide, by decide, by decide⟩, _, _, rfl, rfl, (by show 4 ≤ sizeLine; decide), fun p np => ?_⟩
      have e1 := hD2.ne1 np
      have e2 := hD2.ne2 np
      refine ⟨.ref d, rfl, d, c, 4, rfl, hD2.same (same_upd np), by decide, by decide, fun H3 r hD3 kp3 r0 r1 => ?_⟩
      obtain ⟨v, hv, ev⟩ := item_at (xs := ([10 ^ (40 : Int).toNat - 1, 10 ^ (39 : Int).toNat, n, n % 10 ^ (33 : Int).toNat + 10 ^ (32 : Int).toNat] : List Int).map V.int) r0 r1
      obtain ⟨i, hi, rfl⟩ := List.mem_map.mp hv
      have hp : H3 p = some (.lst (([10 ^ (40 : Int).toNat - 1, 10 ^ (39 : Int).toNat, n, n % 10 ^ (33 : Int).toNat + 10 ^ (32 : Int).toNat] : List Int).map V.int)) := kp3 _ _ e1 e2 upd_same
      refine ⟨p, _, r, _, rfl, rfl, .inl (.inl hp), ev, ?_⟩
      have kq := kp2.trans ((kpSame (same_upd np)).trans kp3)
      have f1 : (10 : Int) ^ (40 : Int).toNat = 10 ^ 40 := rfl
      have f2 : (10 : Int) ^ (39 : Int).toNat = 10 ^ 39 := rfl
      have f3 : (10 : Int) ^ (33 : Int).toNat = 10 ^ 33 := rfl
      have f4 : (10 : Int) ^ (32 : Int).toNat = 10 ^ 32 := rfl
      rw [f1, f2, f3, f4] at hi
      have m0 := Int.emod_nonneg n (show (10 : Int) ^ 33 ≠ 0 by decide)
      have m1 := Int.emod_lt_of_pos n (show (0 : Int) < 10 ^ 33 by decide)
      simp only [List.mem_cons, List.not_mem_nil, or_false] at hi
      refine q H3 i hD3 kq ?_ ?_
      · rcases hi with h | h | h | h <;> omega
      · rcases hi with h | h | h | h <;> omega
end
end Ksec

set_option Elab.async false
set_option linter.all false
set_option maxRecDepth 100000
set_option maxHeartbeats 4000000
namespace Ksec
open PySem PySem.Spec PyProof.Rows L2
/-! rows of fillings -/
abbrev Row := Int × Tm
def rowT (r : Row) : List Nat := 63 :: (numT r.1 ++ ([32, 61, 32] ++ txt r.2))
def IsRow (H : Hp) (x : V) (r : Row) : Prop := ∃ p y, x = .ref p ∧ H p = some (.tup [.int r.1, y]) ∧ IsTm H y r.2
abbrev AreRow (H : Hp) : List V → List Row → Prop := Paired (IsRow H)
theorem IsRow.keep {H H' : Hp} (k : Tup H H') {x : V} {r : Row} (h : IsRow H x r) : IsRow H' x r := by
  obtain ⟨p, y, rfl, h1, h2⟩ := h
  exact ⟨p, y, rfl, k _ _ h1, h2.keep k⟩
theorem rowsKeep {H H' : Hp} (k : Tup H H') : ∀ {xs : List V} {rs : List Row}, AreRow H xs rs → AreRow H' xs rs
  | _, _, .nil => .nil
  | _, _, .cons h t => .cons (h.keep k) (rowsKeep k t)
theorem rows_app {H : Hp} : ∀ {xs ys : List V} {ts us : List Row}, AreRow H xs ts → AreRow H ys us → AreRow H (xs ++ ys) (ts ++ us)
  | _, _, _, _, .nil, h => h
  | _, _, _, _, .cons h t, r => .cons h (rows_app t r)
theorem rows_get {H : Hp} : ∀ {xs : List V} {ts : List Row} {i : Nat} {x : V}, AreRow H xs ts → xs[i]? = some x → ∃ t, ts[i]? = some t ∧ IsRow H x t
  | _, _, i, _, .nil, e => by simp at e
  | _, _, 0, _, .cons h _, e => ⟨_, rfl, (Option.some.inj e) ▸ h⟩
  | _, _, i + 1, _, .cons _ t, e => rows_get (i := i) t e
def RowOk (r : Row) : Prop := r.1.natAbs < 10 ^ 41 ∧ r.2.ok ∧ r.2.depth ≤ 62 ∧ r.2.size ≤ 100
def fTxt (rs : List Row) : List Nat := TL.joinL [44, 32] (rs.map rowT)
theorem joinc_T (ss : List (List Nat)) : Txt.join (", " : Str) (ss.map T) = T (TL.joinL [44, 32] ss) := by
  rw [TL.join_eq]
  apply str_eq_of
  have h := TL.tl_join (", " : Str) (ss.map T)
  rw [tl_T] at h
  exact h
theorem row_len {r : Row} (h : RowOk r) : (rowT r).length ≤ 5100 := by
  obtain ⟨h1, h2, h3, h4⟩ := h
  have a := numT_len h1
  have b := (len_txt h2).1
  show (numT r.1 ++ ([32, 61, 32] ++ txt r.2)).length + 1 ≤ 5100
  rw [List.length_append, List.length_append]
  show (numT r.1).length + (3 + (txt r.2).length) + 1 ≤ 5100
  omega
theorem rows_sum : ∀ {rs : List Row}, (∀ r ∈ rs, RowOk r) → ((rs.map rowT).map List.length).sum ≤ 5100 * rs.length
  | [], _ => Nat.zero_le _
  | r :: rs, h => by
    have h1 := rows_sum (rs := rs) fun x hx => h x (List.mem_cons_of_mem _ hx)
    have h2 := row_len (h r (List.mem_cons_self ..))
    show (rowT r).length + ((rs.map rowT).map List.length).sum ≤ 5100 * (rs.length + 1)
    omega
section
variable {P : Program} {w : World} {K : PySem.W.Frag} {mg : Str → Option Value} {base : Heap}
def spShowF (K : PySem.W.Frag) : Sp := fun vs H Q _ => ∃ (a : Addr) (xs : List V) (rs : List Row), vs = [.ref a] ∧ SqT K H a xs ∧ AreRow H xs rs ∧ (∀ r ∈ rs, RowOk r) ∧ rs.length ≤ 100 ∧ ∀ H', Same H H' → Q (tv (fTxt rs)) H'
theorem ok_showf {f fS : Addr} {fd fdS : FuncData} {k : Nat} (F : Fun K "show_filling" "show_filling" sShowF f fd) (GS : FnOk P w K mg base CX0 (k + 1) fS fdS ["term"] (spShow 62)) (bS : Binds K fdS ["term"] []) (gS : mg "show_term" = some (.ref fS)) (kS : PySem.W.keepIn K (.ref fS) = true) :
    FnOk P w K mg base CX0 (k + 2) f fd ["filling"] (spShowF K) := by
  refine F.ok scShowF (fun vs H Q E h => ?_) (fun cdv A outer s H vs Q E hr h => ?_)
  · obtain ⟨x, _, _, rfl, _⟩ := h
    rfl
  · obtain ⟨a, xs, rs, rfl, hS, hR, hok, hl, q⟩ := h
    refine ⟨_, pss_one (ps_ret (pe_join pe_str
        (pe_lc (own := [("number", 1), ("term", 2)]) (g := gTup K 2 (gCons (gName 1) (gCons (gName 2) gNil))) (tt := tYes) rfl scShowF.nd (pi_tup (pv 0)) (blkOk_by (own := [("number", 1), ("term", 2)]) (N := nShowF) (sc := defScope sShowF) (by decide +kernel))
          (fun _ _ _ _ _ => pg_tup rfl (pgs_cons (pg_name (i := 1) scShowF.nd rfl (Or.inl rfl)) (pgs_cons (pg_name (i := 2) scShowF.nd rfl (Or.inl rfl)) pgs_nil))) (fun _ _ _ _ _ => pts_nil)
          (fun _ _ _ _ _ => pe_joined (.cons pe_str (.cons (pe_fmt (pv 1)) (.cons pe_str (.cons (pe_fmt (pe_call GS hr (by rfl) gS kS bS .nil pass0 (pa_cons (pv 2) pa_nil))) .nil)))))))), ?_⟩
    refine ⟨⟨_, rfl⟩, _, rfl, a, rfl, ⟨_, hS⟩, fun D nD => ?_⟩
    have sqk : ∀ {H' : Hp}, Same H H' → SqT K H' a xs := fun s => by
      rcases hS with (h | ⟨o, h⟩) | h
      · exact .inl (.inl (s _ _ h))
      · exact .inl (.inr ⟨o, s _ _ h⟩)
      · exact .inr h
    have hxl : xs.length = rs.length := Paired.length hR
    refine lc_tup (K := K) (a := a) (xs := xs) (g := gTup K 2 (gCons (gName 1) (gCons (gName 2) gNil))) (tt := tYes) (te := fun σ H Q => tJs [tC (.str "?"), tFmt (tVar 1), tC (.str " = "), tFmt (tCall (spShow 62) [] E0 (tCons (tVar 2) tNil))] Str.empty σ H fun out H1 => Q (.str out) H1) (fun i H' => Same H H' ∧ H' D = some (.lst ((((rs.take i).map rowT).map T).map V.str))) ⟨same_upd nD, upd_same⟩ (fun i H' _ h => sqk h.1) (fun i x2 H' hx2 h => ?_) (fun H' h => ?_)
    · obtain ⟨s', e'⟩ := h
      obtain ⟨r, hr', hxr⟩ := rows_get hR hx2
      have hro := hok r (List.mem_of_getElem? hr')
      obtain ⟨p, y, rfl, hp, hy⟩ := hxr
      obtain ⟨r1, r2, r3, r4⟩ := hro
      have hn := numT_len r1
      have ht := (len_txt r2).1
      refine ⟨p, _, rfl, .inl (.inl (s' _ _ hp)), rfl, _, _, rfl, _, _, rfl, rfl, rfl, yes ?_⟩
      refine ⟨_, rfl, fitsT (c := [63]) (by decide), ?_⟩
      have e1 : (Str.empty ++ ("?" : Str)) ++ Str.ofString (toString r.1) = T (63 :: numT r.1) := by
        rw [T_nil, num_T]
        show (T [] ++ T [63]) ++ T _ = _
        rw [T_app, T_app]
        rfl
      have e2 : ((Str.empty ++ ("?" : Str)) ++ Str.ofString (toString r.1)) ++ (" = " : Str) = T ((63 :: numT r.1) ++ [32, 61, 32]) := by
        rw [e1]
        show T _ ++ T [32, 61, 32] = _
        rw [T_app]
      have e3 : (((Str.empty ++ ("?" : Str)) ++ Str.ofString (toString r.1)) ++ (" = " : Str)) ++ T (txt r.2) = T (rowT r) := by
        rw [e2, T_app]
        congr 1
        simp [rowT]
      refine ⟨_, rfl, .inr ⟨r.1, rfl, log_ok r1, _, rfl, ?_, _, rfl, ?_, ?_⟩⟩
      · show ((Str.empty ++ ("?" : Str)) ++ Str.ofString (toString r.1)).length ≤ _
        rw [e1]
        exact fitsT (by show (numT r.1).length + 1 ≤ _; omega)
      · show (((Str.empty ++ ("?" : Str)) ++ Str.ofString (toString r.1)) ++ (" = " : Str)).length ≤ _
        rw [e2]
        exact fitsT (by rw [List.length_append]; show (numT r.1).length + 1 + 3 ≤ _; omega)
      refine ⟨y, rfl, y, r.2, rfl, hy.keep (sameTup s'), r2, r3, by decide, by omega, fun H3 s3 => .inl ⟨_, rfl, fitsT (by omega), _, rfl, ?_, ?_⟩⟩
      · show ((((Str.empty ++ ("?" : Str)) ++ Str.ofString (toString r.1)) ++ (" = " : Str)) ++ T (txt r.2)).length ≤ _
        rw [e3]
        have := row_len ⟨r1, r2, r3, r4⟩
        exact fitsT (by omega)
      show ∃ acc, H3 D = some (.lst acc) ∧ acc.length < sizeLine ∧ _ ∧ upd H3 D (.lst (acc ++ [.str ((((Str.empty ++ ("?" : Str)) ++ Str.ofString (toString r.1)) ++ (" = " : Str)) ++ T (txt r.2))])) D = _
      rw [e3]
      refine ⟨_, s3 _ _ e', ?_, fun b' o e => ?_, ?_⟩
      · rw [List.length_map, List.length_map, List.length_map, List.length_take]
        exact Nat.lt_of_le_of_lt (show min i _ ≤ 100 by omega) (by decide)
      · by_cases hb : b' = D
        · rw [hb, nD] at e
          cases e
        · show upd H3 D _ b' = some o
          rw [upd_ne hb]
          exact s3 _ _ (s' _ _ e)
      · rw [upd_same, List.take_add_one, hr', List.map_append, List.map_append, List.map_append]
        rfl
    · obtain ⟨s', e'⟩ := h
      rw [hxl, List.take_length] at e'
      have hsum := rows_sum hok
      refine ⟨(", " : Str), D, _, rfl, rfl, .inl (.inl (.inl e')), ?_, ?_⟩
      · rw [sumT, List.length_map, List.length_map]
        show _ + _ * 2 ≤ _
        omega
      rw [joinc_T]
      exact q _ s'
end
/-! a long list's text -/
def itemsT (hs : List Tm) (s : List Nat) : List Nat := (hs.map fun h => txt h ++ [32]).flatten ++ s
theorem items_cons (h : Tm) (hs : List Tm) (s : List Nat) : itemsT (h :: hs) s = txt h ++ (32 :: itemsT hs s) := by
  unfold itemsT
  rw [List.map_cons, List.flatten_cons, List.append_assoc, List.append_assoc]
  rfl
theorem items_tl {e : Tm} {s : List Nat} (he : 32 :: s = tlx e) : ∀ hs : List Tm, 32 :: itemsT hs s = tlx (rejoin hs e)
  | [] => he
  | h :: hs => by
    rw [items_cons, items_tl he hs]
    show _ = tlx (.pair h (rejoin hs e))
    simp only [tlx]
theorem items_txt {e : Tm} {s : List Nat} (he : 32 :: s = tlx e) {hs : List Tm} (hn : hs ≠ []) : 40 :: itemsT hs s = txt (rejoin hs e) := by
  cases hs with
  | nil => exact absurd rfl hn
  | cons h hs =>
    rw [items_cons, items_tl he hs]
    show _ = txt (.pair h (rejoin hs e))
    simp only [txt]
theorem items_step (hs : List Tm) (h : Tm) : itemsT (hs ++ [h]) [] = itemsT hs [] ++ (txt h ++ [32]) := by
  unfold itemsT
  rw [List.map_append, List.flatten_append, List.append_nil, List.append_nil]
  simp
theorem items_end (hs : List Tm) (s : List Nat) : itemsT hs s = itemsT hs [] ++ s := by
  unfold itemsT
  rw [List.append_nil]
def ItemOk (h : Tm) : Prop := h.ok ∧ h.depth ≤ 2 ∧ h.size ≤ 3
theorem rejoin_fine : ∀ {hs : List Tm} {e : Tm}, (∀ h ∈ hs, ItemOk h) → e.ok → e.depth ≤ 2 → e.size ≤ 3 → (rejoin hs e).ok ∧ (rejoin hs e).depth ≤ hs.length + 2 ∧ (rejoin hs e).size ≤ 4 * hs.length + 3
  | [], e, _, h1, h2, h3 => ⟨h1, by show e.depth ≤ 0 + 2; omega, by show e.size ≤ 3; omega⟩
  | h :: hs, e, hh, h1, h2, h3 => by
    obtain ⟨a1, a2, a3⟩ := hh h (List.mem_cons_self ..)
    obtain ⟨b1, b2, b3⟩ := rejoin_fine (hs := hs) (fun x hx => hh x (List.mem_cons_of_mem _ hx)) h1 h2 h3
    refine ⟨⟨a1, b1⟩, ?_, ?_⟩
    · show max h.depth (rejoin hs e).depth + 1 ≤ hs.length + 1 + 2
      omega
    · show h.size + (rejoin hs e).size + 1 ≤ 4 * (hs.length + 1) + 3
      omega
theorem items_len : ∀ {hs : List Tm}, (∀ h ∈ hs, ItemOk h) → (itemsT hs []).length ≤ 200 * hs.length
  | [], _ => Nat.zero_le _
  | h :: hs, hh => by
    obtain ⟨a1, a2, a3⟩ := hh h (List.mem_cons_self ..)
    have b := items_len (hs := hs) (fun x hx => hh x (List.mem_cons_of_mem _ hx))
    have c := (len_txt a1).1
    rw [items_cons, List.length_append, List.length_cons]
    show _ ≤ 200 * (hs.length + 1)
    omega
section
variable {P : Program} {w : World} {K : PySem.W.Frag} {mg : Str → Option Value} {base : Heap}
def spLong : Sp := fun vs H Q _ => ∃ (d c wl : Addr) (zs : List Str), vs = [.ref d, .ref wl] ∧ Dk H d c ∧ Wds H d c wl zs ∧ ∀ H', Dk H' d c → Kp d c H H' → Q (.bl true) H'
theorem ok_long {f fD fS fR : Addr} {fd fdD fdS fdR : FuncData} {k : Nat} (F : Fun K "_law_long_right" "_law_long_right" sLong f fd) (GD : FnOk P w K mg base CX0 (k + 1) fD fdD ["_law_deck_here", "_law_many"] spDraw) (bD : Binds K fdD ["_law_deck_here", "_law_many"] [])
    (gD : mg "_law_draw" = some (.ref fD)) (kD : PySem.W.keepIn K (.ref fD) = true) (GS : FnOk P w K mg base CX0 (k + 1) fS fdS ["term"] (spShow 62)) (bS : Binds K fdS ["term"] []) (gS : mg "show_term" = some (.ref fS)) (kS : PySem.W.keepIn K (.ref fS) = true)
    (GR : FnOk P w K mg base CX0 (k + 1) fR fdR ["text"] spRead) (bR : Binds K fdR ["text"] []) (gR : mg "read_term" = some (.ref fR)) (kR : PySem.W.keepIn K (.ref fR) = true) (mr : mg "range" = none) (ms : mg "str" = none) : FnOk P w K mg base CX0 (k + 2) f fd ["_law_deck_here", "_law_words"] spLong := by
  refine F.ok scLong (fun vs H Q E h => ?_) (fun cdv A outer s H vs Q E hr h => ?_)
  · obtain ⟨d, c, wl, zs, rfl, _⟩ := h
    rfl
  · obtain ⟨d, c, wl, zs, rfl, hD, S, q⟩ := h
    refine ⟨_, pss_cons (ps_set (i := 2) scLong.nd rfl (.inl rfl) pe_str)
      (pss_cons (ps_for PassesOwn.never rfl (pi_range1 (by rfl) mr (pa_cons (pe_op op_add pe_int (pe_call GD hr (by rfl) gD kD bD .nil pass0 (pa_cons (pv 0) (pa_cons pe_int pa_nil)))) pa_nil)) (pg_name (i := 3) scLong.nd rfl (Or.inl rfl))
        (pss_one (ps_set (i := 2) scLong.nd rfl (.inl rfl) (pe_op op_add_str (pe_op op_add_str (pv 2) (pe_ix ix_list (pe_lst (pa_cons (pe_ix ix_list (pv 1) pe_int (fun _ _ => rfl)) (pa_cons (pe_op op_add_str pe_str (pe_callTy call_str_int (by rfl) ms (by decide +kernel) (pa_cons (pv 3) pa_nil))) (pa_cons pe_str (pa_cons pe_str (pa_cons pe_str pa_nil))))))
          (pe_call GD hr (by rfl) gD kD bD .nil pass0 (pa_cons (pv 0) (pa_cons pe_int pa_nil))) (fun _ _ => rfl))) pe_str))))
      (pss_cons (ps_set (i := 2) scLong.nd rfl (.inl rfl) (pe_op op_add_str (pv 2) (pe_ix ix_list (pe_lst (pa_cons pe_str (pa_cons pe_str (pa_cons (pe_op op_add_str (pe_op op_add_str pe_str (pe_ix ix_list (pv 1) pe_int (fun _ _ => rfl))) pe_str) pa_nil))))
          (pe_call GD hr (by rfl) gD kD bD .nil pass0 (pa_cons (pv 0) (pa_cons pe_int pa_nil))) (fun _ _ => rfl))))
      (pss_one (ps_ret (pe_cmpR op_eq (pe_call GS hr (by rfl) gS kS bS .nil pass0 (pa_cons (pe_call GR hr (by rfl) gR kR bR .nil pass0 (pa_cons (pv 2) pa_nil)) pa_nil)) (pv 2) (nomark _)))))), ?_⟩
    have z3 : (zs.map V.str).length = 3 := by rw [List.length_map, S.zl]
    obtain ⟨v0, hv0, ev0⟩ := item_at (xs := zs.map V.str) (i := 0) (by decide) (by rw [z3]; decide)
    obtain ⟨z0, hz0, rfl⟩ := List.mem_map.mp hv0
    obtain ⟨v1, hv1, ev1⟩ := item_at (xs := zs.map V.str) (i := 1) (by decide) (by rw [z3]; decide)
    obtain ⟨z1, hz1, rfl⟩ := List.mem_map.mp hv1
    have wz0 := S.wd z0 hz0
    have wz1 := S.wd z1 hz1
    refine ⟨.ref d, rfl, d, c, 18, rfl, hD, by decide, by decide, fun H1 r hD1 kp1 r0 r1 => ⟨40, r, rfl, rfl, 40 + r, rfl, by omega, by omega, ?_⟩⟩
    refine for_range (lo := 0) (n := (40 + r).toNat) (fun i σ H' => ∃ (y3 : Option V) (hs : List Tm), σ = [some (.ref d), some (.ref wl), some (tv (40 :: itemsT hs [])), y3] ∧ hs.length = i ∧ (∀ h ∈ hs, ItemOk h) ∧ Dk H' d c ∧ Kp d c H H') ?_ (fun i σ H2 hi h2 => ?_) (fun σ H2 h2 => ?_)
    · exact ⟨none, [], rfl, rfl, fun h hh => absurd hh List.not_mem_nil, hD1, kp1⟩
    · obtain ⟨y3, hs, rfl, hl, hok, hD2, kp2⟩ := h2
      have S2 := S.keep kp2
      have hil := items_len hok
      have hab : (0 + (i : Int)).natAbs < 10 ^ 41 := by omega
      have hnl := numT_len hab
      have e1 : ("?" : Str) ++ Str.ofString (toString (0 + (i : Int))) = T (txt (.unk (0 + (i : Int)))) := by
        rw [num_T, txt_atom rfl]
        show T [63] ++ T _ = _
        rw [T_app]
        rfl
      refine ⟨_, rfl, .ref wl, rfl, wl, _, 0, _, rfl, rfl, .inl (.inl S2.w), ev0, _, rfl, _, rfl, log_ok hab, _, _, rfl, rfl, ?_, (by show 5 ≤ sizeLine; decide), fun p np => ?_⟩
      · show (T [63]).length + (Str.ofString (toString (0 + (i : Int)))).length ≤ _
        rw [num_T]
        exact addT_len (by show 1 + _ ≤ _; omega)
      have n1 := hD2.ne1 np
      have n2 := hD2.ne2 np
      refine ⟨.ref d, rfl, d, c, 5, rfl, hD2.same (same_upd np), by decide, by decide, fun H3 r' hD3 kp3 r0' r1' => ?_⟩
      have hp : H3 p = some (.lst ([z0, ("?" : Str) ++ Str.ofString (toString (0 + (i : Int))), "()", "-1", "(2 . ?0)"].map V.str)) := kp3 _ _ n1 n2 upd_same
      obtain ⟨v, hv, ev⟩ := item_at (xs := [z0, ("?" : Str) ++ Str.ofString (toString (0 + (i : Int))), "()", "-1", "(2 . ?0)"].map V.str) r0' r1'
      obtain ⟨y, hy, rfl⟩ := List.mem_map.mp hv
      obtain ⟨u, hu, hyu⟩ : ∃ u, ItemOk u ∧ y = T (txt u) := by
        simp only [List.mem_cons, List.not_mem_nil, or_false] at hy
        rcases hy with rfl | rfl | rfl | rfl | rfl
        · exact ⟨.wrd y, ⟨wz0, by show 1 ≤ 2; decide, by show 1 ≤ 3; decide⟩, by rw [txt_atom rfl]; exact (T_of y).symm⟩
        · exact ⟨.unk (0 + (i : Int)), ⟨⟨by omega, by omega⟩, by show 1 ≤ 2; decide, by show 1 ≤ 3; decide⟩, e1⟩
        · exact ⟨.nil, ⟨True.intro, by show 1 ≤ 2; decide, by show 1 ≤ 3; decide⟩, str_eq_of (by simp [txt]; rfl)⟩
        · exact ⟨.int (-1), ⟨by show (1 : Nat) < 10 ^ 41; decide, by show 1 ≤ 2; decide, by show 1 ≤ 3; decide⟩, by rw [txt_atom rfl]; exact str_eq_of (by decide +kernel)⟩
        · exact ⟨.pair (.int 2) (.unk 0), ⟨⟨by show (2 : Nat) < 10 ^ 41; decide, by decide, by decide⟩, by show 2 ≤ 2; decide, by show 3 ≤ 3; decide⟩, str_eq_of (by simp only [txt, tlx]; decide +kernel)⟩
      have hul := (len_txt hu.1).1
      have hus := hu.2.2
      refine ⟨p, _, r', _, rfl, rfl, .inl (.inl hp), ev, ?_⟩
      rw [hyu]
      have e2 : T (40 :: itemsT hs []) ++ T (txt u) = T ((40 :: itemsT hs []) ++ txt u) := T_app _ _
      have e3 : (T (40 :: itemsT hs []) ++ T (txt u)) ++ (" " : Str) = T (40 :: itemsT (hs ++ [u]) []) := by
        rw [e2]
        show T _ ++ T [32] = _
        rw [T_app, items_step]
        congr 1
        simp
      refine ⟨_, _, rfl, rfl, ?_, _, _, rfl, rfl, ?_, ?_⟩
      · exact addT_len (by show (itemsT hs []).length + 1 + _ ≤ _; omega)
      · show (T (40 :: itemsT hs []) ++ T (txt u)).length + (T [32]).length ≤ _
        rw [e2]
        exact addT_len (by rw [List.length_append]; show (itemsT hs []).length + 1 + _ + 1 ≤ _; omega)
      refine ⟨some (.int (0 + (i : Int))), hs ++ [u], ?_, by rw [List.length_append, hl]; rfl, fun h hh => ?_, hD3, kp2.trans ((kpSame (same_upd np)).trans kp3)⟩
      · show [some (V.ref d), some (.ref wl), some (.str ((T (40 :: itemsT hs []) ++ T (txt u)) ++ (" " : Str))), some (.int (0 + (i : Int)))] = _
        rw [e3]
      · rcases List.mem_append.mp hh with h | h
        · exact hok _ h
        · rw [List.mem_singleton.mp h]
          exact hu
    · obtain ⟨y3, hs, rfl, hl, hok, hD2, kp2⟩ := h2
      have S2 := S.keep kp2
      have hil := items_len hok
      have hz1l := wz1.2.1
      have e1 : (". " : Str) ++ z1 = T (46 :: 32 :: z1.cps.toList) := by
        apply str_eq_of
        exact TL.tl_append _ _
      have e2 : ((". " : Str) ++ z1) ++ (")" : Str) = T (46 :: 32 :: (z1.cps.toList ++ [41])) := by
        rw [e1]
        show T _ ++ T [41] = _
        rw [T_app]
        rfl
      have lz : z1.length = z1.cps.toList.length := len_strL z1
      refine ⟨_, rfl, .ref wl, rfl, wl, _, 1, _, rfl, rfl, .inl (.inl S2.w), ev1, _, _, rfl, rfl, ?_, _, _, rfl, rfl, ?_, (by show 3 ≤ sizeLine; decide), fun p np => ?_⟩
      · show 2 + z1.length ≤ _
        exact Nat.le_trans (show 2 + z1.length ≤ 100 by omega) (by decide)
      · show ((". " : Str) ++ z1).length + (T [41]).length ≤ _
        rw [e1]
        exact addT_len (by show z1.cps.toList.length + 1 + 1 + 1 ≤ _; omega)
      have n1 := hD2.ne1 np
      have n2 := hD2.ne2 np
      refine ⟨.ref d, rfl, d, c, 3, rfl, hD2.same (same_upd np), by decide, by decide, fun H3 r' hD3 kp3 r0' r1' => ?_⟩
      have hp : H3 p = some (.lst (([". ?1)", "9)", ((". " : Str) ++ z1) ++ (")" : Str)] : List Str).map V.str)) := kp3 _ _ n1 n2 upd_same
      obtain ⟨v, hv, ev⟩ := item_at (xs := ([". ?1)", "9)", ((". " : Str) ++ z1) ++ (")" : Str)] : List Str).map V.str) r0' r1'
      obtain ⟨y, hy, rfl⟩ := List.mem_map.mp hv
      obtain ⟨e, se, hye, he, o1, o2, o3, o4⟩ : ∃ (e : Tm) (se : List Nat), y = T se ∧ 32 :: se = tlx e ∧ e.ok ∧ e.depth ≤ 2 ∧ e.size ≤ 3 ∧ se.length ≤ 100 := by
        simp only [List.mem_cons, List.not_mem_nil, or_false] at hy
        rcases hy with rfl | rfl | rfl
        · exact ⟨.unk 1, [46, 32, 63, 49, 41], str_eq_of (by decide +kernel), by rw [tlx_atom rfl]; decide +kernel, ⟨by decide, by decide⟩, by show 1 ≤ 2; decide, by show 1 ≤ 3; decide, by decide⟩
        · exact ⟨.pair (.int 9) .nil, [57, 41], str_eq_of (by decide +kernel), by simp only [tlx, txt]; decide +kernel, ⟨by show (9 : Nat) < 10 ^ 41; decide, True.intro⟩, by show 2 ≤ 2; decide, by show 3 ≤ 3; decide, by decide⟩
        · exact ⟨.wrd z1, 46 :: 32 :: (z1.cps.toList ++ [41]), e2, by rw [tlx_atom rfl]; rfl, wz1, by show 1 ≤ 2; decide, by show 1 ≤ 3; decide, by rw [List.length_cons, List.length_cons, List.length_append]; show _ + 1 + 1 + 1 ≤ 100; omega⟩
      refine ⟨p, _, r', _, rfl, rfl, .inl (.inl hp), ev, ?_⟩
      rw [hye]
      have hn : hs ≠ [] := fun z => by
        rw [z] at hl
        have : (0 : Nat) = (40 + r).toNat := hl
        omega
      have e4 : T (40 :: itemsT hs []) ++ T se = T (txt (rejoin hs e)) := by
        rw [T_app, ← items_txt he hn, items_end hs se]
        rfl
      refine ⟨_, _, rfl, rfl, ?_, ?_⟩
      · exact addT_len (by show (itemsT hs []).length + 1 + _ ≤ _; omega)
      rw [e4]
      obtain ⟨j1, j2, j3⟩ := rejoin_fine hok o1 o2 o3
      have kq := kp2.trans ((kpSame (same_upd np)).trans kp3)
      refine ⟨_, rfl, rejoin hs e, rfl, j1, by omega, fun H4 v s4 hv => ?_⟩
      refine ⟨v, rejoin hs e, rfl, hv, j1, by omega, by decide, by omega, fun H5 s5 => ⟨_, rfl, rfl, ?_⟩⟩
      have s45 := s4.trans s5
      have ed : decide (tv (txt (rejoin hs e)) = tv (txt (rejoin hs e))) = true := decide_eq_true rfl
      show Q (.bl (decide (tv (txt (rejoin hs e)) = tv (txt (rejoin hs e))))) H5
      rw [ed]
      exact q _ (hD3.same s45) (kq.trans (kpSame s45))
end
end Ksec

set_option Elab.async false
set_option linter.all false
set_option maxRecDepth 100000
set_option maxHeartbeats 8000000
namespace Ksec
open PySem PySem.Spec PyProof.Rows L2
abbrev sLaw : Stmt := topS 33
abbrev nLaw : List Str := ["_law_script", "_law_deck_here", "_law_words", "_law_unknowns", "_law_turn", "_law_term_here", "_law_rows", "_law_k", "_law_other", "_law_text", "_law_far_here", "_law_row", "_law_number_here"]
theorem scLaw : FnScope nLaw ["_law_script"] (defScope sLaw) := ⟨rfl, rfl, rfl, by decide +kernel, rfl, by decide +kernel, by decide +kernel⟩
theorem Src.same {H H' : Hp} {d c wl ul : Addr} {zs : List Str} {us : List Int} (S : Src H d c wl ul zs us) (k : Same H H') : Src H' d c wl ul zs us := S.keep (kpSame k)
theorem Wds.same {H H' : Hp} {d c wl : Addr} {zs : List Str} (S : Wds H d c wl zs) (k : Same H H') : Wds H' d c wl zs := S.keep (kpSame k)
/-! the signs of texts -/
theorem atx_le {t : Tm} (h : t.ok) : ∀ c ∈ atx t, c ≤ 122 := fun c hc => by
  have := atx_sign h c hc
  omega
theorem txt_le : ∀ {t : Tm}, t.ok → (∀ c ∈ txt t, c ≤ 122) ∧ ∀ c ∈ tlx t, c ≤ 122
  | .nil, _ => by simp [txt, tlx]
  | .int i, h => by
    have a := atx_le (t := .int i) h
    rw [txt_atom rfl, tlx_atom rfl]
    refine ⟨a, fun c hc => ?_⟩
    simp only [List.mem_cons, List.mem_append, List.not_mem_nil, or_false] at hc
    rcases hc with h | h | h | h | h
    · omega
    · omega
    · omega
    · exact a c h
    · omega
  | .wrd i, h => by
    have a := atx_le (t := .wrd i) h
    rw [txt_atom rfl, tlx_atom rfl]
    refine ⟨a, fun c hc => ?_⟩
    simp only [List.mem_cons, List.mem_append, List.not_mem_nil, or_false] at hc
    rcases hc with h | h | h | h | h
    · omega
    · omega
    · omega
    · exact a c h
    · omega
  | .unk i, h => by
    have a := atx_le (t := .unk i) h
    rw [txt_atom rfl, tlx_atom rfl]
    refine ⟨a, fun c hc => ?_⟩
    simp only [List.mem_cons, List.mem_append, List.not_mem_nil, or_false] at hc
    rcases hc with h | h | h | h | h
    · omega
    · omega
    · omega
    · exact a c h
    · omega
  | .pair a b, h => by
    obtain ⟨a1, a2⟩ := txt_le h.1
    obtain ⟨b1, b2⟩ := txt_le h.2
    simp only [txt, tlx]
    refine ⟨fun c hc => ?_, fun c hc => ?_⟩
    all_goals
      rcases List.mem_cons.mp hc with h | h
      · omega
      rcases List.mem_append.mp h with h | h
      · exact a1 c h
      · exact b2 c h
theorem row_le {r : Row} (h : RowOk r) : ∀ c ∈ rowT r, c ≤ 122 := fun c hc => by
  unfold rowT at hc
  rcases List.mem_cons.mp hc with h1 | h1
  · omega
  rcases List.mem_append.mp h1 with h1 | h1
  · have := numT_dl h1
    omega
  rcases List.mem_append.mp h1 with h1 | h1
  · simp at h1
    omega
  · exact (txt_le h.2.1).1 c h1
theorem join_le : ∀ {ss : List (List Nat)}, (∀ s ∈ ss, ∀ c ∈ s, c ≤ 122) → ∀ c ∈ TL.joinL [44, 32] ss, c ≤ 122
  | [], _, c, hc => absurd hc List.not_mem_nil
  | [s], h, c, hc => h s (List.mem_cons_self ..) c hc
  | s :: q :: r, h, c, hc => by
    rcases List.mem_append.mp hc with h1 | h1
    · exact h s (List.mem_cons_self ..) c h1
    rcases List.mem_append.mp h1 with h1 | h1
    · simp at h1
      omega
    · exact join_le (ss := q :: r) (fun s hs => h s (List.mem_cons_of_mem _ hs)) c h1
theorem join_len2 : ∀ ss : List (List Nat), (TL.joinL [44, 32] ss).length ≤ (ss.map List.length).sum + 2 * ss.length
  | [] => Nat.zero_le _
  | [s] => by show s.length ≤ s.length + 0 + 2; omega
  | s :: q :: r => by
    have := join_len2 (q :: r)
    show (s ++ ([44, 32] ++ TL.joinL [44, 32] (q :: r))).length ≤ s.length + ((q :: r).map List.length).sum + 2 * ((q :: r).length + 1)
    rw [List.length_append, List.length_append]
    show s.length + (2 + _) ≤ _
    omega
theorem fTxt_len {rs : List Row} (h : ∀ r ∈ rs, RowOk r) : (fTxt rs).length ≤ 5102 * rs.length := by
  have h1 := join_len2 (rs.map rowT)
  have h2 := rows_sum h
  rw [List.length_map] at h1
  unfold fTxt
  omega
theorem fTxt_fit {rs : List Row} (h : ∀ r ∈ rs, RowOk r) (hl : rs.length ≤ 10) : (PyData.shown (.str (T (fTxt rs)))).length ≤ sizeLine := by
  have h1 : (PyData.str (T (fTxt rs))).leavesShort 43 = true := str_short fun c hc => by
    refine join_le (ss := rs.map rowT) (fun s hs => ?_) c hc
    obtain ⟨r, hr, rfl⟩ := List.mem_map.mp hs
    exact row_le (h r hr)
  have h2 := PyData.shown_le_bulk 43 (by decide) _ h1
  have h3 := fTxt_len h
  have h4 : (PyData.str (T (fTxt rs))).bulk = (fTxt rs).length := rfl
  rw [h4] at h2
  rw [sizeLine_eq]
  omega
section
variable {P : Program} {w : World} {K : PySem.W.Frag} {mg : Str → Option Value} {base : Heap}
def spLaw (K : PySem.W.Frag) : Sp := fun vs H Q _ => ∃ (a : Addr) (ns : List Int), vs = [.ref a] ∧ SqL K H a (ns.map V.int) ∧ ∀ H', Q (.bl true) H'
theorem ok_law {f f1 f2 f3 f4 f5 f6 f7 f8 f9 f10 f11 : Addr} {fd d1 d2 d3 d4 d5 d6 d7 d8 d9 d10 d11 : FuncData} (F : Fun K "law" "law" sLaw f fd)
    (G1 : FnOk P w K mg base CX0 141 f1 d1 ["_law_script"] (spDeck K)) (b1 : Binds K d1 ["_law_script"] []) (g1 : mg "_law_deck" = some (.ref f1)) (k1 : PySem.W.keepIn K (.ref f1) = true)
    (G2 : FnOk P w K mg base CX0 141 f2 d2 ["_law_deck_here", "_law_many"] spNames) (b2 : Binds K d2 ["_law_deck_here", "_law_many"] []) (g2 : mg "_law_names" = some (.ref f2)) (k2 : PySem.W.keepIn K (.ref f2) = true)
    (G3 : FnOk P w K mg base CX0 141 f3 d3 ["_law_deck_here", "_law_many"] spDraw) (b3 : Binds K d3 ["_law_deck_here", "_law_many"] []) (g3 : mg "_law_draw" = some (.ref f3)) (k3 : PySem.W.keepIn K (.ref f3) = true)
    (G4 : FnOk P w K mg base CX0 141 f4 d4 ["_law_deck_here", "_law_words", "_law_unknowns"] spAny) (b4 : Binds K d4 ["_law_deck_here", "_law_words", "_law_unknowns"] []) (g4 : mg "_law_any_term" = some (.ref f4)) (k4 : PySem.W.keepIn K (.ref f4) = true)
    (G5 : GOk P w K mg base 141 f5 d5 ["_law_term_here"] spRight) (b5 : Binds K d5 ["_law_term_here"] []) (g5 : mg "_law_right" = some (.ref f5)) (k5 : PySem.W.keepIn K (.ref f5) = true)
    (G6 : FnOk P w K mg base CX0 141 f6 d6 psTerm (spTerm 3)) (b6 : Binds K d6 psTerm []) (g6 : mg "_law_term" = some (.ref f6)) (k6 : PySem.W.keepIn K (.ref f6) = true)
    (G7 : FnOk P w K mg base CX0 141 f7 d7 ["_law_term_here"] (spShow 62)) (b7 : Binds K d7 ["_law_term_here"] []) (g7 : mg "_law_shown" = some (.ref f7)) (k7 : PySem.W.keepIn K (.ref f7) = true)
    (G8 : FnOk P w K mg base CX0 141 f8 d8 ["filling"] (spShowF K)) (b8 : Binds K d8 ["filling"] []) (g8 : mg "show_filling" = some (.ref f8)) (k8 : PySem.W.keepIn K (.ref f8) = true)
    (G9 : FnOk P w K mg base CX0 141 f9 d9 ["_law_deck_here", "_law_words"] spGreat) (b9 : Binds K d9 ["_law_deck_here", "_law_words"] []) (g9 : mg "_law_great_ground" = some (.ref f9)) (k9 : PySem.W.keepIn K (.ref f9) = true)
    (G10 : FnOk P w K mg base CX0 141 f10 d10 ["_law_deck_here", "_law_words"] spLong) (b10 : Binds K d10 ["_law_deck_here", "_law_words"] []) (g10 : mg "_law_long_right" = some (.ref f10)) (k10 : PySem.W.keepIn K (.ref f10) = true)
    (G11 : FnOk P w K mg base CX0 141 f11 d11 ["_law_deck_here"] spFar) (b11 : Binds K d11 ["_law_deck_here"] []) (g11 : mg "_law_far" = some (.ref f11)) (k11 : PySem.W.keepIn K (.ref f11) = true)
    (mr : mg "range" = none) (mp : mg "repr" = none) (mt : mg "tuple" = none) (ms : mg "str" = none) : GOk P w K mg base 142 f fd ["_law_script"] (spLaw K) := by
  refine gok_of F scLaw (fun vs H Q E h => ?_) (fun cdv A outer s H vs Q E g0 hr h => ?_)
  · obtain ⟨a, ns, rfl, _⟩ := h
    rfl
  · obtain ⟨a, ns, rfl, hS, q⟩ := h
    refine ⟨_, pss_cons (ps_set (i := 1) scLaw.nd rfl (.inl rfl) (pe_call G1 hr (by rfl) g1 k1 b1 .nil pass0 (pa_cons (pv 0) pa_nil)))
      (pss_cons (ps_set (i := 2) scLaw.nd rfl (.inl rfl) (pe_call G2 hr (by rfl) g2 k2 b2 .nil pass0 (pa_cons (pv 1) (pa_cons pe_int pa_nil))))
      (pss_cons (ps_set (i := 3) scLaw.nd rfl (.inl rfl) (pe_ix ix_list (pe_lst (pa_cons (pe_lst (pa_cons pe_int (pa_cons pe_int (pa_cons pe_int pa_nil)))) (pa_cons (pe_lst (pa_cons pe_int (pa_cons pe_int (pa_cons pe_int (pa_cons pe_int (pa_cons pe_int (pa_cons pe_int pa_nil)))))))
            (pa_cons (pe_lst pa_nil) pa_nil)))) (pe_call G3 hr (by rfl) g3 k3 b3 .nil pass0 (pa_cons (pv 1) (pa_cons pe_int pa_nil))) (fun _ _ => rfl)))
      (pss_cons (ps_for PassesOwn.never rfl (pi_range1 (by rfl) mr (pa_cons pe_int pa_nil)) (pg_name (i := 4) scLaw.nd rfl (Or.inl rfl))
        (pss_cons (ps_set (i := 5) scLaw.nd rfl (.inl rfl) (pe_call G4 hr (by rfl) g4 k4 b4 .nil pass0 (pa_cons (pv 1) (pa_cons (pv 2) (pa_cons (pv 3) pa_nil)))))
        (pss_cons (ps_if (PW.pt (pw_or (pt_not (pt_val (pe_gcall G5 g0 hr (by rfl) g5 k5 b5 (pa_cons (pv 5) pa_nil))))
            (pw_or (pt_not (pt_val (pe_gcall G5 g0 hr (by rfl) g5 k5 b5 (pa_cons (pe_tup (pa_cons (pv 5) (pa_cons (pe_ix ix_list (pv 2) pe_int (fun _ _ => rfl)) pa_nil))) pa_nil))))
            (pw_or1 (pt_not (pt_val (pe_gcall G5 g0 hr (by rfl) g5 k5 b5 (pa_cons (pe_tup (pa_cons pe_int (pa_cons (pv 5) pa_nil))) pa_nil)))))))) (pss_one (ps_ret pe_bl)) pss_nil)
        (pss_cons (ps_set (i := 6) scLaw.nd rfl (.inl rfl) (pe_lst pa_nil))
        (pss_cons (ps_for PassesOwn.never rfl (pi_range1 (by rfl) mr (pa_cons (pe_call G3 hr (by rfl) g3 k3 b3 .nil pass0 (pa_cons (pv 1) (pa_cons pe_int pa_nil))) pa_nil)) (pg_name (i := 7) scLaw.nd rfl (Or.inl rfl))
          (pss_one (ps_expr (pe_bm PySem.F.plainAttrs_list PySem.F.slot_list_append PySem.F.type_list_append mt_append (pv 6) (pa_cons (pe_tup (pa_cons (pe_op op_add (pe_op op_add pe_int (pe_op op_mul pe_int (pv 7))) (pe_call G3 hr (by rfl) g3 k3 b3 .nil pass0 (pa_cons (pv 1) (pa_cons pe_int pa_nil))))
            (pa_cons (pe_call G6 hr (by rfl) g6 k6 b6 .nil pass0 (pa_cons (pv 1) (pa_cons (pv 2) (pa_cons (pe_lst (pa_cons pe_int (pa_cons pe_int (pa_cons pe_int pa_nil)))) (pa_cons pe_int (pa_cons (pe_lst (pa_cons pe_int pa_nil)) pa_nil)))))) pa_nil))) pa_nil)))))
        (pss_cons (ps_set (i := 9) scLaw.nd rfl (.inl rfl) (pe_join pe_str
          (pe_lc (own := [("_law_number_here", 12), ("_law_other", 8)]) (g := gTup K 2 (gCons (gName 12) (gCons (gName 8) gNil))) (tt := tYes) rfl scLaw.nd (pi_list (pv 6)) (blkOk_by (own := [("_law_number_here", 12), ("_law_other", 8)]) (N := nLaw) (sc := defScope sLaw) (by decide +kernel))
            (fun _ _ _ _ _ => pg_tup rfl (pgs_cons (pg_name (i := 12) scLaw.nd rfl (Or.inl rfl)) (pgs_cons (pg_name (i := 8) scLaw.nd rfl (Or.inl rfl)) pgs_nil))) (fun _ _ _ _ _ => pts_nil)
            (fun _ _ _ _ _ => pe_op op_add_str (pe_op op_add_str (pe_op op_add_str pe_str (pe_callTy call_str_int (by rfl) ms (by decide +kernel) (pa_cons (pv 12) pa_nil))) pe_str) (pe_call G7 hr (by rfl) g7 k7 b7 .nil pass0 (pa_cons (pv 8) pa_nil))))))
        (pss_one (ps_if (pt_cmpR op_ne (pe_callB (call_reprD g0 (room70 hr)) (by rfl) mp (by decide +kernel) (pa_cons (pe_call G8 hr (by rfl) g8 k8 b8 .nil pass0 (pa_cons (pe_callTy call_tuple_of (by rfl) mt (by decide +kernel) (pa_cons (pv 6) pa_nil)) pa_nil)) pa_nil))
          (pe_callB (call_reprD g0 (room70 hr)) (by rfl) mp (by decide +kernel) (pa_cons (pv 9) pa_nil)) (nomark _)) (pss_one (ps_ret pe_bl)) pss_nil))))))))
      (pss_cons (ps_for PassesOwn.never rfl (pi_range1 (by rfl) mr (pa_cons pe_int pa_nil)) (pg_name (i := 4) scLaw.nd rfl (Or.inl rfl))
        (pss_one (ps_if (PW.pt (pw_or (pt_not (pt_val (pe_gcall G5 g0 hr (by rfl) g5 k5 b5 (pa_cons (pe_call G9 hr (by rfl) g9 k9 b9 .nil pass0 (pa_cons (pv 1) (pa_cons (pv 2) pa_nil))) pa_nil))))
          (pw_or1 (pt_not (pt_val (pe_call G10 hr (by rfl) g10 k10 b10 .nil pass0 (pa_cons (pv 1) (pa_cons (pv 2) pa_nil)))))))) (pss_one (ps_ret pe_bl)) pss_nil)))
      (pss_cons (ps_for PassesOwn.never rfl (pi_range1 (by rfl) mr (pa_cons pe_int pa_nil)) (pg_name (i := 4) scLaw.nd rfl (Or.inl rfl))
        (pss_cons (ps_par (i := 10) (j := 8) (by rfl) scLaw.nd rfl rfl (by decide) rfl rfl (pa_cons (pe_call G11 hr (by rfl) g11 k11 b11 .nil pass0 (pa_cons (pv 1) pa_nil)) (pa_cons (pe_call G11 hr (by rfl) g11 k11 b11 .nil pass0 (pa_cons (pv 1) pa_nil)) pa_nil)) (by rfl))
        (pss_cons (ps_set (i := 11) scLaw.nd rfl (.inl rfl) (pe_tup (pa_cons (pe_tup (pa_cons pe_int (pa_cons (pe_tup (pa_cons (pv 10) (pa_cons (pe_tup (pa_cons pe_str (pa_cons (pe_op op_sub (pv 8) pe_int) pa_nil))) pa_nil))) pa_nil)))
          (pa_cons (pe_tup (pa_cons (pe_op op_pow pe_int pe_int) (pa_cons (pe_ix ix_list (pv 2) pe_int (fun _ _ => rfl)) pa_nil))) pa_nil))))
        (pss_cons (ps_set (i := 9) scLaw.nd rfl (.inl rfl) (pe_op op_add_str (pe_op op_add_str (pe_op op_add_str (pe_op op_add_str (pe_op op_add_str pe_str (pe_call G7 hr (by rfl) g7 k7 b7 .nil pass0 (pa_cons (pe_ix ix_tup (pe_ix ix_tup (pv 11) pe_int (fun _ _ => rfl)) pe_int (fun _ _ => rfl)) pa_nil))) pe_str)
          (pe_callTy call_str_int (by rfl) ms (by decide +kernel) (pa_cons (pe_op op_pow pe_int pe_int) pa_nil))) pe_str) (pe_ix ix_list (pv 2) pe_int (fun _ _ => rfl))))
        (pss_one (ps_if (PW.pt (pw_or (pt_not (pt_val (pe_gcall G5 g0 hr (by rfl) g5 k5 b5 (pa_cons (pe_tup (pa_cons (pv 10) (pa_cons (pe_tup (pa_cons (pe_tup (pa_cons pe_str (pa_cons (pv 8) pa_nil))) (pa_cons (pe_tup (pa_cons (pe_op op_sub pe_int (pv 8)) (pa_cons (pe_ix ix_list (pv 2) pe_int (fun _ _ => rfl)) pa_nil))) pa_nil))) pa_nil))) pa_nil))))
          (pw_or1 (pt_cmpR op_ne (pe_call G8 hr (by rfl) g8 k8 b8 .nil pass0 (pa_cons (pv 11) pa_nil)) (pv 9) (nomark _))))) (pss_one (ps_ret pe_bl)) pss_nil))))))
      (pss_one (ps_ret (pe_and (pe_cmpR op_eq (pe_call G8 hr (by rfl) g8 k8 b8 .nil pass0 (pa_cons (pe_tup pa_nil) pa_nil)) pe_str (nomark _)) (pe_and (pe_gcall G5 g0 hr (by rfl) g5 k5 b5 (pa_cons (pe_tup pa_nil) pa_nil))
        (pe_one (pe_gcall G5 g0 hr (by rfl) g5 k5 b5 (pa_cons (pe_tup (pa_cons (pe_tup pa_nil) (pa_cons (pe_tup pa_nil) pa_nil))) pa_nil)))))))))))), ?_⟩
    refine ⟨.ref a, rfl, a, ns, rfl, hS, fun H1 d c s1 nd nc hD => ?_⟩
    refine ⟨.ref d, rfl, d, c, 3, rfl, hD, by decide, fun H2 wl zs hD2 kp2 nw w1 w2 hw zl zw => ?_⟩
    have W2 : Wds H2 d c wl zs := ⟨hw, w1, w2, zw, zl⟩
    refine ⟨(by show 3 ≤ sizeLine; decide), fun l1 n1 => ⟨(by show 6 ≤ sizeLine; decide), fun l2 n2 => ⟨Nat.zero_le _, fun l3 n3 => ⟨(by show 3 ≤ sizeLine; decide), fun l5 n5 => ?_⟩⟩⟩⟩
    have t1 := same_upd (o := .lst (([0, 1, 2] : List Int).map V.int)) n1
    have t2 := same_upd (o := .lst (([3, 0, 99, 10, 999, 100] : List Int).map V.int)) n2
    have t3 := same_upd (o := .lst (([] : List Int).map V.int)) n3
    have t5 := same_upd (o := .lst [.ref l1, .ref l2, .ref l3]) n5
    have t35 := t3.trans t5
    have t25 := t2.trans t35
    have t15 := t1.trans t25
    have u1 := t25 _ _ (upd_same (a := l1))
    have u2 := t35 _ _ (upd_same (a := l2))
    have u3 := t5 _ _ (upd_same (a := l3))
    have a1 := hD2.ne1 n1
    have a2 := hD2.ne2 n1
    have b1 := (hD2.same t1).ne1 n2
    have b2 := (hD2.same t1).ne2 n2
    have c1 := (hD2.same (t1.trans t2)).ne1 n3
    have c2 := (hD2.same (t1.trans t2)).ne2 n3
    have f1 := (hD2.same (t1.trans (t2.trans t3))).ne1 n5
    have f2 := (hD2.same (t1.trans (t2.trans t3))).ne2 n5
    refine ⟨.ref d, rfl, d, c, 3, rfl, hD2.same t15, by decide, by decide, fun H4 r hD4 kp4 r0 r1 => ?_⟩
    obtain ⟨v, hv, ev⟩ := item_at (xs := [V.ref l1, .ref l2, .ref l3]) r0 r1
    have v1 := kp4 _ _ a1 a2 u1
    have v2 := kp4 _ _ b1 b2 u2
    have v3 := kp4 _ _ c1 c2 u3
    have W4 := (W2.same t15).keep kp4
    obtain ⟨ul, us, rfl, S4⟩ : ∃ ul us, v = .ref ul ∧ Src H4 d c wl ul zs us := by
      simp only [List.mem_cons, List.not_mem_nil, or_false] at hv
      rcases hv with rfl | rfl | rfl
      · exact ⟨l1, [0, 1, 2], rfl, W4.src (us := [0, 1, 2]) v1 a1 a2 (by decide) (by decide)⟩
      · exact ⟨l2, [3, 0, 99, 10, 999, 100], rfl, W4.src (us := [3, 0, 99, 10, 999, 100]) v2 b1 b2 (by decide) (by decide)⟩
      · exact ⟨l3, [], rfl, W4.src (us := []) v3 c1 c2 (by decide) (by decide)⟩
    refine ⟨l5, _, r, _, rfl, rfl, .inl (.inl (kp4 _ _ f1 f2 upd_same)), ev, ?_⟩
    clear u1 u2 u3 v1 v2 v3 t1 t2 t3 t5 t35 t25 t15
    have wds : ∀ {H' : Hp}, Src H' d c wl ul zs us → Wds H' d c wl zs := fun S => ⟨S.w, w1, w2, zw, zl⟩
    have z3 : (zs.map V.str).length = 3 := by rw [List.length_map, zl]
    obtain ⟨v0, hv0, ev0⟩ := item_at (xs := zs.map V.str) (i := 0) (by decide) (by rw [z3]; decide)
    obtain ⟨z0, hz0, rfl⟩ := List.mem_map.mp hv0
    have wz := zw z0 hz0
    refine ⟨8, rfl, by decide, by decide, ?_⟩
    refine for_range (lo := 0) (n := 8) (fun i σ H' => ∃ (y4 y5 y6 y7 y8 y9 y10 y11 y12 : Option V), σ = [some (.ref a), some (.ref d), some (.ref wl), some (.ref ul), y4, y5, y6, y7, y8, y9, y10, y11, y12] ∧ Dk H' d c ∧ Src H' d c wl ul zs us) ⟨none, none, none, none, none, none, none, none, none, rfl, hD4, S4⟩ (fun i σ H5 hi h5 => ?_) (fun σ H5 h5 => ?_)
    · obtain ⟨y4, y5, y6, y7, y8, y9, y10, y11, y12, rfl, hD5, S5⟩ := h5
      refine ⟨.ref d, rfl, .ref wl, rfl, .ref ul, rfl, d, c, wl, ul, zs, us, rfl, hD5, S5, fun H6 x t hD6 kp6 hx ok dp sz => ?_⟩
      have S6 := S5.keep kp6
      refine ⟨x, rfl, x, t, rfl, hx, ok, by omega, by omega, fun H7 s7 => ⟨true, rfl, iteF ?_⟩⟩
      have S7 := S6.same s7
      refine ⟨x, rfl, .ref wl, rfl, wl, _, 0, _, rfl, rfl, .inl (.inl S7.w), ev0, (by show 2 ≤ sizeLine; decide), fun q1 nq1 => ?_⟩
      have s8 : Same H7 (upd H7 q1 (.tup [x, .str z0])) := same_upd nq1
      have dpos := depth_pos t
      refine ⟨.ref q1, .pair t (.wrd z0), rfl, .pair upd_same ((hx.keep (sameTup s7)).keep (sameTup s8)) (.wrd z0), ⟨ok, wz⟩, ?_, ?_, fun H9 s9 => ⟨true, rfl, iteF ?_⟩⟩
      · show max t.depth 1 + 1 ≤ 62
        omega
      · show t.size + 1 + 1 ≤ 1000
        omega
      have s79 := s7.trans (s8.trans s9)
      refine ⟨x, rfl, (by show 2 ≤ sizeLine; decide), fun q2 nq2 => ?_⟩
      have s10 : Same H9 (upd H9 q2 (.tup [.int 1, x])) := same_upd nq2
      refine ⟨.ref q2, .pair (.int 1) t, rfl, .pair upd_same (.int 1) (hx.keep (sameTup (s79.trans s10))), ⟨by show (1 : Nat) < 10 ^ 41; decide, ok⟩, ?_, ?_, fun H11 s11 => ⟨true, rfl, iteF ?_⟩⟩
      · show max 1 t.depth + 1 ≤ 62
        omega
      · show 1 + t.size + 1 ≤ 1000
        omega
      have s611 := s79.trans (s10.trans s11)
      have hD11 := hD6.same s611
      have S11 := S6.same s611
      refine ⟨Nat.zero_le _, fun rl nrl => ?_⟩
      have rd := hD11.ne1 nrl
      have rc := hD11.ne2 nrl
      have wr : wl ≠ rl := ne_of_none S11.w nrl
      have ur : ul ≠ rl := ne_of_none S11.u nrl
      have s12 : Same H11 (upd H11 rl (.lst [])) := same_upd nrl
      have hr12 : upd H11 rl (.lst []) rl = some (.lst []) := upd_same
      have hD12 := hD11.same s12
      have S12 := S11.same s12
      generalize upd H11 rl (.lst []) = H12 at *
      refine ⟨.ref d, rfl, d, c, 5, rfl, hD12, by decide, by decide, fun H13 m hD13 kp13 m0 m1 => ⟨m, rfl, by omega, by omega, ?_⟩⟩
      refine for_range (lo := 0) (n := m.toNat) (fun j σ H' => ∃ (y7 : Option V) (xs : List V) (rs : List Row), σ = [some (.ref a), some (.ref d), some (.ref wl), some (.ref ul), some (.int (0 + (i : Int))), some x, some (.ref rl), y7, y8, y9, y10, y11, y12] ∧ Dk H' d c ∧ Src H' d c wl ul zs us ∧ H' rl = some (.lst xs) ∧ AreRow H' xs rs ∧ (∀ r ∈ rs, RowOk r) ∧ rs.length = j)
        ⟨_, [], [], rfl, hD13, S12.keep kp13, kp13 _ _ rd rc hr12, .nil, fun r h => absurd h List.not_mem_nil, rfl⟩ (fun j σ H14 hj h14 => ?_) (fun σ H14 h14 => ?_)
      · obtain ⟨y7, xs, rs, rfl, hD14, S14, hr14, hA14, hok14, hl14⟩ := h14
        have hxl : xs.length = rs.length := Paired.length hA14
        have hj4 : j < 5 := by omega
        refine ⟨.ref rl, rfl, .inl ⟨rfl, _, .inl (.inl hr14)⟩, _, rfl, 100, _, rfl, rfl, .inl ⟨by decide, by decide⟩, 500, _, rfl, rfl, ?_⟩
        refine ⟨.ref d, rfl, d, c, 99, rfl, hD14, by decide, by decide, fun H15 b hD15 kp15 b0 b1 => ⟨_, b, rfl, rfl, ?_⟩⟩
        have S15 := S14.keep kp15
        have hr15 := kp15 _ _ rd rc hr14
        have hA15 := rowsKeep (kpTup hD14 kp15) hA14
        refine ⟨.ref d, rfl, .ref wl, rfl, (by show 3 ≤ sizeLine; decide), fun ul2 nul2 => ⟨(by show 1 ≤ sizeLine; decide), fun e ne => ?_⟩⟩
        have s16 : Same H15 (upd H15 ul2 (.lst [.int 3, .int 0, .int 99])) := same_upd nul2
        have e1 := (hD15.same s16).ne1 ne
        have e2 := (hD15.same s16).ne2 ne
        have g1 := hD15.ne1 nul2
        have g2 := hD15.ne2 nul2
        have hu16 : upd H15 ul2 (.lst [.int 3, .int 0, .int 99]) ul2 = some (.lst (([3, 0, 99] : List Int).map V.int)) := upd_same
        have S16 := S15.same s16
        have hr16 := s16 _ _ hr15
        have hA16 := rowsKeep (sameTup s16) hA15
        have hD16 := hD15.same s16
        generalize upd H15 ul2 (.lst [.int 3, .int 0, .int 99]) = H16 at *
        have s17 : Same H16 (upd H16 e (.lst [.int 4])) := same_upd ne
        have ue : ul2 ≠ e := ne_of_none hu16 ne
        have we : wl ≠ e := ne_of_none S16.w ne
        have uue : ul ≠ e := ne_of_none S16.u ne
        have re : rl ≠ e := ne_of_none hr16 ne
        have hu17 := s17 _ _ hu16
        have S17 := S16.same s17
        have hr17 := s17 _ _ hr16
        have hA17 := rowsKeep (sameTup s17) hA16
        have hD17 := hD16.same s17
        have he17 : upd H16 e (.lst [.int 4]) e = some (.lst [.int 4]) := upd_same
        generalize upd H16 e (.lst [.int 4]) = H17 at *
        refine ⟨d, c, wl, ul2, e, zs, [3, 0, 99], 3, 4, rfl, hD17, (wds S17).src hu17 g1 g2 (by decide) (by decide), he17, e1, e2, we, ue, by decide, by decide, fun H18 x18 t18 L18 hD18 kq18 hL18 hx18 ht18 => ?_⟩
        obtain ⟨o1, o2, o3, o4⟩ := ht18
        have S18 : Src H18 d c wl ul zs us := S17.keepq we uue kq18
        have hr18 := kq18 _ _ rd rc re hr17
        have hA18 := rowsKeep (kqTup hD17 he17 kq18) hA17
        refine ⟨(by show 2 ≤ sizeLine; decide), fun p np => ?_⟩
        have s19 := same_upd (o := .tup [.int (500 + 100 * (0 + (j : Int)) + b), x18]) np
        have hr19 := s19 _ _ hr18
        have hA19 := rowsKeep (sameTup s19) hA18
        have hp19 : upd H18 p (.tup [.int (500 + 100 * (0 + (j : Int)) + b), x18]) p = some (.tup [.int (500 + 100 * (0 + (j : Int)) + b), x18]) := upd_same
        have hx19 := hx18.keep (sameTup s19)
        have S19 := S18.same s19
        have hD19 := hD18.same s19
        generalize upd H18 p (.tup [.int (500 + 100 * (0 + (j : Int)) + b), x18]) = H19 at *
        refine ⟨rl, _, .ref p, rfl, rfl, hr19, ?_, ?_⟩
        · exact Nat.lt_of_le_of_lt (show xs.length ≤ 100 by omega) (by decide)
        have tu : Tup H19 (upd H19 rl (.lst (xs ++ [.ref p]))) := tup_upd hr19 fun _ => by intro z; cases z
        refine ⟨_, xs ++ [.ref p], rs ++ [(500 + 100 * (0 + (j : Int)) + b, t18)], rfl, ?_, ?_, upd_same, rows_app (rowsKeep tu hA19) (.cons ⟨p, x18, rfl, tu _ _ hp19, hx19.keep tu⟩ .nil), fun r' h' => ?_, by rw [List.length_append, hl14]; rfl⟩
        · obtain ⟨ns', s', n', q1, q2, q3⟩ := hD19
          exact ⟨ns', s', n', by rw [upd_ne rd.symm]; exact q1, by rw [upd_ne rc.symm]; exact q2, q3⟩
        · exact ⟨by rw [upd_ne wr]; exact S19.w, by rw [upd_ne ur]; exact S19.u, S19.w1, S19.w2, S19.u1, S19.u2, S19.wd, S19.zn, S19.zl, S19.ul, S19.ub⟩
        · rcases List.mem_append.mp h' with h | h
          · exact hok14 r' h
          · rw [List.mem_singleton.mp h]
            have b2 : b < 99 := b1
            refine ⟨?_, o1, ?_, ?_⟩
            · show (500 + 100 * (0 + (j : Int)) + b).natAbs < 10 ^ 41
              omega
            · show t18.depth ≤ 62
              omega
            · show t18.size ≤ 100
              omega
      · obtain ⟨y7, xs, rs, rfl, hD14, S14, hr14, hA14, hok14, hl14⟩ := h14
        have hxl : xs.length = rs.length := Paired.length hA14
        have hl4 : rs.length ≤ 4 := by
          have : rs.length = m.toNat := hl14
          omega
        refine ⟨⟨_, rfl⟩, _, rfl, rl, rfl, ⟨_, .inl (.inl hr14)⟩, fun D nD => ?_⟩
        refine lc_list (K := K) (a := rl) (xs := xs) (g := gTup K 2 (gCons (gName 12) (gCons (gName 8) gNil))) (tt := tYes) (fun j H' => Same H14 H' ∧ H' D = some (.lst ((((rs.take j).map rowT).map T).map V.str))) ⟨same_upd nD, upd_same⟩ (fun j H' _ h => .inl (.inl (h.1 _ _ hr14))) (fun j x2 H' hx2 h => ?_) (fun H' h => ?_)
        · obtain ⟨s', e'⟩ := h
          obtain ⟨r', hr', hxr⟩ := rows_get hA14 hx2
          have hro := hok14 r' (List.mem_of_getElem? hr')
          obtain ⟨p, y, rfl, hp, hy⟩ := hxr
          have hrl := row_len hro
          obtain ⟨r1, r2, r3, r4⟩ := hro
          have hn := numT_len r1
          have ht := (len_txt r2).1
          have e1 : ("?" : Str) ++ Str.ofString (toString r'.1) = T (63 :: numT r'.1) := by
            rw [num_T]
            show T [63] ++ T _ = _
            rw [T_app]
            rfl
          have e2 : (("?" : Str) ++ Str.ofString (toString r'.1)) ++ (" = " : Str) = T ((63 :: numT r'.1) ++ [32, 61, 32]) := by
            rw [e1]
            show T _ ++ T [32, 61, 32] = _
            rw [T_app]
          have e3 : ((("?" : Str) ++ Str.ofString (toString r'.1)) ++ (" = " : Str)) ++ T (txt r'.2) = T (rowT r') := by
            rw [e2, T_app]
            congr 1
            simp [rowT]
          refine ⟨p, _, rfl, .inl (.inl (s' _ _ hp)), rfl, _, _, rfl, _, _, rfl, rfl, rfl, yes ?_⟩
          refine ⟨_, rfl, r'.1, rfl, log_ok r1, _, _, rfl, rfl, ?_, _, _, rfl, rfl, ?_, ?_⟩
          · show (T [63]).length + (Str.ofString (toString r'.1)).length ≤ _
            rw [num_T]
            exact addT_len (by show 1 + _ ≤ _; omega)
          · show (("?" : Str) ++ Str.ofString (toString r'.1)).length + (T [32, 61, 32]).length ≤ _
            rw [e1]
            exact addT_len (by show (numT r'.1).length + 1 + 3 ≤ _; omega)
          refine ⟨y, rfl, y, r'.2, rfl, hy.keep (sameTup s'), r2, r3, by decide, by omega, fun H3 s3 => ⟨_, _, rfl, rfl, ?_, ?_⟩⟩
          · show ((("?" : Str) ++ Str.ofString (toString r'.1)) ++ (" = " : Str)).length + (T (txt r'.2)).length ≤ _
            rw [e2]
            exact addT_len (by rw [List.length_append]; show (numT r'.1).length + 1 + 3 + _ ≤ _; omega)
          show ∃ acc, H3 D = some (.lst acc) ∧ acc.length < sizeLine ∧ _ ∧ upd H3 D (.lst (acc ++ [.str (((("?" : Str) ++ Str.ofString (toString r'.1)) ++ (" = " : Str)) ++ T (txt r'.2))])) D = _
          rw [e3]
          refine ⟨_, s3 _ _ e', ?_, fun b' o e => ?_, ?_⟩
          · rw [List.length_map, List.length_map, List.length_map, List.length_take]
            exact Nat.lt_of_le_of_lt (show min j _ ≤ 100 by omega) (by decide)
          · by_cases hb : b' = D
            · rw [hb, nD] at e
              cases e
            · show upd H3 D _ b' = some o
              rw [upd_ne hb]
              exact s3 _ _ (s' _ _ e)
          · rw [upd_same, List.take_add_one, hr', List.map_append, List.map_append, List.map_append]
            rfl
        · obtain ⟨s', e'⟩ := h
          rw [hxl, List.take_length] at e'
          have hsum := rows_sum hok14
          refine ⟨(", " : Str), D, _, rfl, rfl, .inl (.inl (.inl e')), ?_, ?_⟩
          · rw [sumT, List.length_map, List.length_map]
            show _ + _ * 2 ≤ _
            omega
          rw [joinc_T]
          have hr15 := s' _ _ hr14
          refine ⟨.ref rl, rfl, rl, _, rfl, .inl ⟨.inl (.inl hr15), fun p np => ?_⟩⟩
          have s16 : Same H' (upd H' p (.tup xs)) := same_upd np
          have fit := fTxt_fit hok14 (by omega)
          refine ⟨p, xs, rs, rfl, .inl (.inl upd_same), rowsKeep (sameTup (s'.trans s16)) hA14, hok14, by omega, fun H17 s17 => ?_⟩
          refine ⟨_, .str (T (fTxt rs)), rfl, .str _, rfl, rfl, Nat.zero_le _, fit, _, rfl, _, .str (T (fTxt rs)), rfl, .str _, rfl, rfl, Nat.zero_le _, fit, rfl, _, rfl, ?_⟩
          refine iteNS rfl ?_
          have s1417 := s'.trans (s16.trans s17)
          exact ⟨_, _, _, _, _, _, _, _, _, rfl, hD14.same s1417, S14.same s1417⟩
    · obtain ⟨y4, y5, y6, y7, y8, y9, y10, y11, y12, rfl, hD5, S5⟩ := h5
      refine ⟨2, rfl, by decide, by decide, ?_⟩
      refine for_range (lo := 0) (n := 2) (fun i σ H' => ∃ (y4 y5 y6 y7 y8 y9 y10 y11 y12 : Option V), σ = [some (.ref a), some (.ref d), some (.ref wl), some (.ref ul), y4, y5, y6, y7, y8, y9, y10, y11, y12] ∧ Dk H' d c ∧ Wds H' d c wl zs) ⟨_, _, _, _, _, _, _, _, _, rfl, hD5, wds S5⟩ (fun i σ H6 hi h6 => ?_) (fun σ H6 h6 => ?_)
      · obtain ⟨y4, y5, y6, y7, y8, y9, y10, y11, y12, rfl, hD6, W6⟩ := h6
        refine ⟨.ref d, rfl, .ref wl, rfl, d, c, wl, zs, rfl, hD6, W6, fun H7 x t hD7 kp7 hx ok dp sz => ?_⟩
        refine ⟨x, t, rfl, hx, ok, by omega, by omega, fun H8 s8 => ⟨true, rfl, iteF ?_⟩⟩
        have hD8 := hD7.same s8
        have W8 := (W6.keep kp7).same s8
        refine ⟨.ref d, rfl, .ref wl, rfl, d, c, wl, zs, rfl, hD8, W8, fun H9 hD9 kp9 => ⟨true, rfl, iteF ?_⟩⟩
        exact ⟨_, _, _, _, _, _, _, _, _, rfl, hD9, W8.keep kp9⟩
      · obtain ⟨y4, y5, y6, y7, y8, y9, y10, y11, y12, rfl, hD6, W6⟩ := h6
        refine ⟨2, rfl, by decide, by decide, ?_⟩
        refine for_range (lo := 0) (n := 2) (fun i σ H' => ∃ (y4 y5 y6 y7 y8 y9 y10 y11 y12 : Option V), σ = [some (.ref a), some (.ref d), some (.ref wl), some (.ref ul), y4, y5, y6, y7, y8, y9, y10, y11, y12] ∧ Dk H' d c ∧ Wds H' d c wl zs) ⟨_, _, _, _, _, _, _, _, _, rfl, hD6, W6⟩ (fun i σ H7 hi h7 => ?_) (fun σ H7 h7 => ?_)
        · obtain ⟨y4, y5, y6, y7, y8, y9, y10, y11, y12, rfl, hD7, W7⟩ := h7
          refine ⟨.ref d, rfl, d, c, rfl, hD7, fun H8 fa hD8 kp8 fa1 fa2 => ?_⟩
          refine ⟨.ref d, rfl, d, c, rfl, hD8, fun H9 ot hD9 kp9 ot1 ot2 => ⟨_, _, rfl, ?_⟩⟩
          have W9 := (W7.keep kp8).keep kp9
          have fok : (Tm.int fa).ok := by
            show fa.natAbs < 10 ^ 41
            omega
          have rok : ∀ {n : Int}, 0 ≤ n → n < 10 ^ 40 → (Tm.unk n).ok := fun h1 h2 => ⟨h1, by omega⟩
          refine ⟨_, rfl, _, rfl, ot, 1, rfl, rfl, (by show 2 ≤ sizeLine; decide), fun p1 np1 => ⟨(by show 2 ≤ sizeLine; decide), fun p2 np2 => ⟨(by show 2 ≤ sizeLine; decide), fun p3 np3 => ?_⟩⟩⟩
          refine ⟨10, 39, rfl, rfl, ⟨by decide, by decide, by decide⟩, .ref wl, rfl, wl, _, 0, _, rfl, rfl, ?_, ev0, (by show 2 ≤ sizeLine; decide), fun p4 np4 => ⟨(by show 2 ≤ sizeLine; decide), fun p5 np5 => ?_⟩⟩
          · exact .inl (.inl (same_upd np3 _ _ (same_upd np2 _ _ (same_upd np1 _ _ W9.w))))
          have s1 := same_upd (o := .tup [.str "?", .int (ot - 1)]) np1
          have s2 := same_upd (o := .tup [.int fa, .ref p1]) np2
          have s3 := same_upd (o := .tup [.int 3, .ref p2]) np3
          have s4 := same_upd (o := .tup [.int (10 ^ (39 : Int).toNat), .str z0]) np4
          have s5 := same_upd (o := .tup [.ref p3, .ref p4]) np5
          have s35 := s3.trans (s4.trans s5)
          have s15 := s1.trans (s2.trans s35)
          have h1 := (s2.trans s35) _ _ (upd_same (a := p1))
          have h2 := s35 _ _ (upd_same (a := p2))
          have h3 := (s4.trans s5) _ _ (upd_same (a := p3))
          have h4 : _ = some (HO.tup [V.int (10 ^ (39 : Int).toNat), .str z0]) := s5 _ _ (upd_same (a := p4))
          have h5 : upd (upd (upd (upd (upd H9 p1 (.tup [.str "?", .int (ot - 1)])) p2 (.tup [.int fa, .ref p1])) p3 (.tup [.int 3, .ref p2])) p4 (.tup [.int (10 ^ (39 : Int).toNat), .str z0])) p5 (.tup [.ref p3, .ref p4]) p5 = some (.tup [.ref p3, .ref p4]) := upd_same
          have hD10 := hD9.same s15
          have W10 := W9.same s15
          clear s1 s2 s3 s4 s5 s35
          generalize upd (upd (upd (upd (upd H9 p1 (.tup [.str "?", .int (ot - 1)])) p2 (.tup [.int fa, .ref p1])) p3 (.tup [.int 3, .ref p2])) p4 (.tup [.int (10 ^ (39 : Int).toNat), .str z0])) p5 (.tup [.ref p3, .ref p4]) = H10 at *
          have tA : IsTm H10 (.ref p2) (.pair (.int fa) (.unk (ot - 1))) := .pair h2 (.int fa) (.unk h1)
          have okA : (Tm.pair (.int fa) (.unk (ot - 1))).ok := ⟨fok, rok (by omega) (by omega)⟩
          have dA : (Tm.pair (.int fa) (.unk (ot - 1))).depth = 2 := rfl
          have zA : (Tm.pair (.int fa) (.unk (ot - 1))).size = 3 := rfl
          generalize hTA : Tm.pair (.int fa) (.unk (ot - 1)) = TA at *
          have lA := (len_txt okA).1
          have e39 : ((10 : Int) ^ (39 : Int).toNat).natAbs < 10 ^ 41 := by decide
          have l39 := numT_len e39
          generalize h39 : (10 : Int) ^ (39 : Int).toNat = N39 at *
          have wzl := wz.2.1
          have lz : z0.length = z0.cps.toList.length := len_strL z0
          have q1 : ("?3 = " : Str) ++ T (txt TA) = T ([63, 51, 32, 61, 32] ++ txt TA) := by
            show T [63, 51, 32, 61, 32] ++ T _ = _
            rw [T_app]
          have q2 : (("?3 = " : Str) ++ T (txt TA)) ++ (", ?" : Str) = T (([63, 51, 32, 61, 32] ++ txt TA) ++ [44, 32, 63]) := by
            rw [q1]
            show T _ ++ T [44, 32, 63] = _
            rw [T_app]
          have q3 : ((("?3 = " : Str) ++ T (txt TA)) ++ (", ?" : Str)) ++ Str.ofString (toString N39) = T ((([63, 51, 32, 61, 32] ++ txt TA) ++ [44, 32, 63]) ++ numT N39) := by
            rw [q2, num_T, T_app]
          have q4 : (((("?3 = " : Str) ++ T (txt TA)) ++ (", ?" : Str)) ++ Str.ofString (toString N39)) ++ (" = " : Str) = T (((([63, 51, 32, 61, 32] ++ txt TA) ++ [44, 32, 63]) ++ numT N39) ++ [32, 61, 32]) := by
            rw [q3]
            show T _ ++ T [32, 61, 32] = _
            rw [T_app]
          have q5 : ((((("?3 = " : Str) ++ T (txt TA)) ++ (", ?" : Str)) ++ Str.ofString (toString N39)) ++ (" = " : Str)) ++ z0 = T (fTxt [(3, TA), (N39, .wrd z0)]) := by
            rw [q4]
            have ez : z0 = T z0.cps.toList := (T_of z0).symm
            rw [ez, T_app]
            congr 1
            have n3 : numT 3 = [51] := by decide +kernel
            show _ = rowT (3, TA) ++ ([44, 32] ++ rowT (N39, .wrd (T z0.cps.toList)))
            simp only [rowT]
            rw [n3, txt_atom (t := .wrd (T z0.cps.toList)) rfl]
            simp [atx]
          refine ⟨_, rfl, p5, _, 0, _, rfl, rfl, .inl (.inl h5), atI_nat (j := 0) rfl, p3, _, 1, _, rfl, rfl, .inl (.inl h3), atI_nat (j := 1) rfl, .ref p2, TA, rfl, tA, okA, by omega, by decide, by omega, fun H11 s11 => ?_⟩
          refine ⟨_, _, rfl, rfl, ?_, _, _, rfl, rfl, ?_, 10, 39, rfl, rfl, ⟨by decide, by decide, by decide⟩, _, rfl, ?_, _, _, rfl, rfl, ?_, _, _, rfl, rfl, ?_, ?_⟩
          · show (T [63, 51, 32, 61, 32]).length + _ ≤ _
            exact addT_len (by show 5 + _ ≤ _; omega)
          · show (("?3 = " : Str) ++ T (txt TA)).length + (T [44, 32, 63]).length ≤ _
            rw [q1]
            exact addT_len (by rw [List.length_append]; show 5 + _ + 3 ≤ _; omega)
          · rw [h39]
            exact log_ok e39
          · rw [h39]
            show ((("?3 = " : Str) ++ T (txt TA)) ++ (", ?" : Str)).length + (Str.ofString (toString N39)).length ≤ _
            rw [q2, num_T]
            exact addT_len (by rw [List.length_append, List.length_append]; show 5 + _ + 3 + _ ≤ _; omega)
          · rw [h39]
            show (((("?3 = " : Str) ++ T (txt TA)) ++ (", ?" : Str)) ++ Str.ofString (toString N39)).length + (T [32, 61, 32]).length ≤ _
            rw [q3]
            exact addT_len (by rw [List.length_append, List.length_append, List.length_append]; show 5 + _ + 3 + _ + 3 ≤ _; omega)
          have W11 := W10.same s11
          have hD11 := hD10.same s11
          refine ⟨.ref wl, rfl, wl, _, 0, _, rfl, rfl, .inl (.inl W11.w), ev0, _, _, rfl, rfl, ?_, ?_⟩
          · rw [h39]
            show ((((("?3 = " : Str) ++ T (txt TA)) ++ (", ?" : Str)) ++ Str.ofString (toString N39)) ++ (" = " : Str)).length + z0.length ≤ _
            rw [q4, T_len]
            refine Nat.le_trans (?_ : _ ≤ 100000) (by decide)
            rw [List.length_append, List.length_append, List.length_append, List.length_append]
            show 5 + _ + 3 + _ + 3 + _ ≤ _
            omega
          rw [h39]
          rw [show ((((("?3 = " : Str) ++ T (txt TA)) ++ (", ?" : Str)) ++ Str.ofString (toString N39)) ++ (" = " : Str)) ++ z0 = T (fTxt [(3, TA), (N39, .wrd z0)]) from q5]
          refine ⟨_, rfl, _, rfl, (by show 2 ≤ sizeLine; decide), fun m1 nm1 => ⟨_, rfl, 0, ot, rfl, rfl, .ref wl, rfl, wl, _, 0, _, rfl, rfl, ?_, ev0, (by show 2 ≤ sizeLine; decide), fun m2 nm2 => ⟨(by show 2 ≤ sizeLine; decide), fun m3 nm3 => ⟨(by show 2 ≤ sizeLine; decide), fun m4 nm4 => ?_⟩⟩⟩⟩
          · exact .inl (.inl (same_upd nm1 _ _ W11.w))
          have v1 := same_upd (o := .tup [.str "?", .int ot]) nm1
          have v2 := same_upd (o := .tup [.int (0 - ot), .str z0]) nm2
          have v3 := same_upd (o := .tup [.ref m1, .ref m2]) nm3
          have v4 := same_upd (o := .tup [.int fa, .ref m3]) nm4
          have v14 := v1.trans (v2.trans (v3.trans v4))
          have i1 := (v2.trans (v3.trans v4)) _ _ (upd_same (a := m1))
          have i2 := (v3.trans v4) _ _ (upd_same (a := m2))
          have i3 := v4 _ _ (upd_same (a := m3))
          have i4 : upd (upd (upd (upd H11 m1 (.tup [.str "?", .int ot])) m2 (.tup [.int (0 - ot), .str z0])) m3 (.tup [.ref m1, .ref m2])) m4 (.tup [.int fa, .ref m3]) m4 = some (.tup [.int fa, .ref m3]) := upd_same
          have ho : (Tm.int (0 - ot)).ok := by
            show (0 - ot).natAbs < 10 ^ 41
            omega
          refine ⟨.ref m4, .pair (.int fa) (.pair (.unk ot) (.pair (.int (0 - ot)) (.wrd z0))), rfl, .pair i4 (.int fa) (.pair i3 (.unk i1) (.pair i2 (.int _) (.wrd z0))), ⟨fok, rok (by omega) ot2, ho, wz⟩, by show 4 ≤ 62; decide, by show 7 ≤ 1000; decide, fun H13 s13 => ⟨true, rfl, iteF ?_⟩⟩
          have s1113 := v14.trans s13
          have s1013 := s11.trans s1113
          refine ⟨_, rfl, p5, _, [(3, TA), (N39, .wrd z0)], rfl, .inl (.inl (s1013 _ _ h5)), .cons ⟨p3, _, rfl, s1013 _ _ h3, tA.keep (sameTup s1013)⟩ (.cons ⟨p4, _, rfl, s1013 _ _ h4, .wrd z0⟩ .nil), fun r' h' => ?_, by show 2 ≤ 100; decide, fun H14 s14 => ?_⟩
          · simp only [List.mem_cons, List.not_mem_nil, or_false] at h'
            rcases h' with rfl | rfl
            · exact ⟨by show (3 : Nat) < 10 ^ 41; decide, okA, by show TA.depth ≤ 62; omega, by show TA.size ≤ 100; omega⟩
            · exact ⟨e39, wz, by show 1 ≤ 62; decide, by show 1 ≤ 100; decide⟩
          refine ⟨_, rfl, rfl, _, rfl, ?_⟩
          refine iteNS rfl ?_
          have sF := s1113.trans s14
          exact ⟨_, _, _, _, _, _, _, _, _, rfl, hD11.same sF, W11.same sF⟩
        · refine ⟨Nat.zero_le _, fun p1 np1 => ?_⟩
          refine ⟨p1, [], [], rfl, .inl (.inl upd_same), .nil, fun r' h' => absurd h' List.not_mem_nil, by decide, fun H8 s8 => ⟨rfl, true, ?_, iteT ?_⟩⟩
          · show V.bl (decide (tv (fTxt []) = V.str ("" : Str))) = _
            rw [decide_eq_true (show tv (fTxt []) = V.str ("" : Str) from congrArg V.str (str_eq_of rfl))]
          refine ⟨Nat.zero_le _, fun p2 np2 => ?_⟩
          refine ⟨.ref p2, .nil, rfl, .nil upd_same, True.intro, by show 1 ≤ 62; decide, by show 1 ≤ 1000; decide, fun H9 s9 => ⟨true, rfl, iteT ?_⟩⟩
          refine ⟨Nat.zero_le _, fun p3 np3 => ⟨Nat.zero_le _, fun p4 np4 => ⟨(by show 2 ≤ sizeLine; decide), fun p5 np5 => ?_⟩⟩⟩
          have v1 := same_upd (o := .tup []) np3
          have v2 := same_upd (o := .tup []) np4
          have v3 := same_upd (o := .tup [.ref p3, .ref p4]) np5
          refine ⟨.ref p5, .pair .nil .nil, rfl, .pair upd_same (.nil ((v2.trans v3) _ _ upd_same)) (.nil (v3 _ _ upd_same)), ⟨True.intro, True.intro⟩, by show 2 ≤ 62; decide, by show 3 ≤ 1000; decide, fun H10 s10 => ?_⟩
          exact q H10
end
end Ksec

set_option Elab.async false
set_option linter.all false
set_option maxRecDepth 100000
set_option maxHeartbeats 8000000
namespace Ksec
open PySem PySem.Spec PyProof.Rows L2
theorem all_mk {l : PySem.W.OpenLaw} {w : World} {K : PySem.W.Frag} {h : Heap} {mg : Str → Option Value} {fa : Addr} (X : K.In h) (G : h.Ns mainGlobals mg) (hfa : mg "law" = some (.ref fa))
    {f1 : Addr} {od1 an1 : Option Addr} {sl1 : Array (Option Value)} {oc1 kV1 dc1 pm1 cd1 ct1 : Value} (a1 : PySem.W.nsIn K mainGlobals "is_word" = some (some (.ref f1)))
    (l1 : K.lookup f1 = some ⟨oc1, od1, .func (PySem.W.fnOf "is_word" "is_word" (defArgs sWord) (defBody sWord) (defScope sWord) .none kV1 dc1 pm1 an1 cd1 ct1), sl1⟩) (c1 : PySem.W.codeIn K cd1 "is_word" = true) (k1 : PySem.W.keepIn K (.ref f1) = true)
    {f2 : Addr} {od2 an2 : Option Addr} {sl2 : Array (Option Value)} {oc2 kV2 dc2 pm2 cd2 ct2 : Value} (a2 : PySem.W.nsIn K mainGlobals "is_marked" = some (some (.ref f2)))
    (l2 : K.lookup f2 = some ⟨oc2, od2, .func (PySem.W.fnOf "is_marked" "is_marked" (defArgs sIsUnk) (defBody sIsUnk) (defScope sIsUnk) .none kV2 dc2 pm2 an2 cd2 ct2), sl2⟩) (c2 : PySem.W.codeIn K cd2 "is_marked" = true) (k2 : PySem.W.keepIn K (.ref f2) = true)
    {f3 : Addr} {od3 an3 : Option Addr} {sl3 : Array (Option Value)} {oc3 kV3 dc3 pm3 cd3 ct3 : Value} (a3 : PySem.W.nsIn K mainGlobals "is_pair" = some (some (.ref f3)))
    (l3 : K.lookup f3 = some ⟨oc3, od3, .func (PySem.W.fnOf "is_pair" "is_pair" (defArgs sIsPair) (defBody sIsPair) (defScope sIsPair) .none kV3 dc3 pm3 an3 cd3 ct3), sl3⟩) (c3 : PySem.W.codeIn K cd3 "is_pair" = true) (k3 : PySem.W.keepIn K (.ref f3) = true)
    {f4 : Addr} {od4 an4 : Option Addr} {sl4 : Array (Option Value)} {oc4 kV4 dc4 pm4 cd4 ct4 : Value} (a4 : PySem.W.nsIn K mainGlobals "parted" = some (some (.ref f4)))
    (l4 : K.lookup f4 = some ⟨oc4, od4, .func (PySem.W.fnOf "parted" "parted" (defArgs sParted) (defBody sParted) (defScope sParted) .none kV4 dc4 pm4 an4 cd4 ct4), sl4⟩) (c4 : PySem.W.codeIn K cd4 "parted" = true) (k4 : PySem.W.keepIn K (.ref f4) = true)
    {f5 : Addr} {od5 an5 : Option Addr} {sl5 : Array (Option Value)} {oc5 kV5 dc5 pm5 cd5 ct5 : Value} (a5 : PySem.W.nsIn K mainGlobals "joined" = some (some (.ref f5)))
    (l5 : K.lookup f5 = some ⟨oc5, od5, .func (PySem.W.fnOf "joined" "joined" (defArgs sJoined) (defBody sJoined) (defScope sJoined) .none kV5 dc5 pm5 an5 cd5 ct5), sl5⟩) (c5 : PySem.W.codeIn K cd5 "joined" = true) (k5 : PySem.W.keepIn K (.ref f5) = true)
    {f6 : Addr} {od6 an6 : Option Addr} {sl6 : Array (Option Value)} {oc6 kV6 dc6 pm6 cd6 ct6 : Value} (a6 : PySem.W.nsIn K mainGlobals "pieces_of" = some (some (.ref f6)))
    (l6 : K.lookup f6 = some ⟨oc6, od6, .func (PySem.W.fnOf "pieces_of" "pieces_of" (defArgs sPieces) (defBody sPieces) (defScope sPieces) .none kV6 dc6 pm6 an6 cd6 ct6), sl6⟩) (c6 : PySem.W.codeIn K cd6 "pieces_of" = true) (k6 : PySem.W.keepIn K (.ref f6) = true)
    {f7 : Addr} {od7 an7 : Option Addr} {sl7 : Array (Option Value)} {oc7 kV7 dc7 pm7 cd7 ct7 : Value} (a7 : PySem.W.nsIn K mainGlobals "are_figures" = some (some (.ref f7)))
    (l7 : K.lookup f7 = some ⟨oc7, od7, .func (PySem.W.fnOf "are_figures" "are_figures" (defArgs sFigs) (defBody sFigs) (defScope sFigs) .none kV7 dc7 pm7 an7 cd7 ct7), sl7⟩) (c7 : PySem.W.codeIn K cd7 "are_figures" = true) (k7 : PySem.W.keepIn K (.ref f7) = true)
    {f8 : Addr} {od8 an8 : Option Addr} {sl8 : Array (Option Value)} {oc8 kV8 dc8 pm8 cd8 ct8 : Value} (a8 : PySem.W.nsIn K mainGlobals "atom_of" = some (some (.ref f8)))
    (l8 : K.lookup f8 = some ⟨oc8, od8, .func (PySem.W.fnOf "atom_of" "atom_of" (defArgs sAtom) (defBody sAtom) (defScope sAtom) .none kV8 dc8 pm8 an8 cd8 ct8), sl8⟩) (c8 : PySem.W.codeIn K cd8 "atom_of" = true) (k8 : PySem.W.keepIn K (.ref f8) = true)
    {f9 : Addr} {od9 an9 : Option Addr} {sl9 : Array (Option Value)} {oc9 kV9 dc9 pm9 cd9 ct9 : Value} (a9 : PySem.W.nsIn K mainGlobals "show_term" = some (some (.ref f9)))
    (l9 : K.lookup f9 = some ⟨oc9, od9, .func (PySem.W.fnOf "show_term" "show_term" (defArgs sShow) (defBody sShow) (defScope sShow) .none kV9 dc9 pm9 an9 cd9 ct9), sl9⟩) (c9 : PySem.W.codeIn K cd9 "show_term" = true) (k9 : PySem.W.keepIn K (.ref f9) = true)
    {f10 : Addr} {od10 an10 : Option Addr} {sl10 : Array (Option Value)} {oc10 kV10 dc10 pm10 cd10 ct10 : Value} (a10 : PySem.W.nsIn K mainGlobals "show_pair" = some (some (.ref f10)))
    (l10 : K.lookup f10 = some ⟨oc10, od10, .func (PySem.W.fnOf "show_pair" "show_pair" (defArgs sShowP) (defBody sShowP) (defScope sShowP) .none kV10 dc10 pm10 an10 cd10 ct10), sl10⟩) (c10 : PySem.W.codeIn K cd10 "show_pair" = true) (k10 : PySem.W.keepIn K (.ref f10) = true)
    {f11 : Addr} {od11 an11 : Option Addr} {sl11 : Array (Option Value)} {oc11 kV11 dc11 pm11 cd11 ct11 : Value} (a11 : PySem.W.nsIn K mainGlobals "read_term" = some (some (.ref f11)))
    (l11 : K.lookup f11 = some ⟨oc11, od11, .func (PySem.W.fnOf "read_term" "read_term" (defArgs sRead) (defBody sRead) (defScope sRead) .none kV11 dc11 pm11 an11 cd11 ct11), sl11⟩) (c11 : PySem.W.codeIn K cd11 "read_term" = true) (k11 : PySem.W.keepIn K (.ref f11) = true)
    {f12 : Addr} {od12 an12 : Option Addr} {sl12 : Array (Option Value)} {oc12 kV12 dc12 pm12 cd12 ct12 : Value} (a12 : PySem.W.nsIn K mainGlobals "show_filling" = some (some (.ref f12)))
    (l12 : K.lookup f12 = some ⟨oc12, od12, .func (PySem.W.fnOf "show_filling" "show_filling" (defArgs sShowF) (defBody sShowF) (defScope sShowF) .none kV12 dc12 pm12 an12 cd12 ct12), sl12⟩) (c12 : PySem.W.codeIn K cd12 "show_filling" = true) (k12 : PySem.W.keepIn K (.ref f12) = true)
    {f13 : Addr} {od13 an13 : Option Addr} {sl13 : Array (Option Value)} {oc13 kV13 dc13 pm13 cd13 ct13 : Value} (a13 : PySem.W.nsIn K mainGlobals "_law_deck" = some (some (.ref f13)))
    (l13 : K.lookup f13 = some ⟨oc13, od13, .func (PySem.W.fnOf "_law_deck" "_law_deck" (defArgs sDeck) (defBody sDeck) (defScope sDeck) .none kV13 dc13 pm13 an13 cd13 ct13), sl13⟩) (c13 : PySem.W.codeIn K cd13 "_law_deck" = true) (k13 : PySem.W.keepIn K (.ref f13) = true)
    {f14 : Addr} {od14 an14 : Option Addr} {sl14 : Array (Option Value)} {oc14 kV14 dc14 pm14 cd14 ct14 : Value} (a14 : PySem.W.nsIn K mainGlobals "_law_draw" = some (some (.ref f14)))
    (l14 : K.lookup f14 = some ⟨oc14, od14, .func (PySem.W.fnOf "_law_draw" "_law_draw" (defArgs sDraw) (defBody sDraw) (defScope sDraw) .none kV14 dc14 pm14 an14 cd14 ct14), sl14⟩) (c14 : PySem.W.codeIn K cd14 "_law_draw" = true) (k14 : PySem.W.keepIn K (.ref f14) = true)
    {f15 : Addr} {od15 an15 : Option Addr} {sl15 : Array (Option Value)} {oc15 kV15 dc15 pm15 cd15 ct15 : Value} (a15 : PySem.W.nsIn K mainGlobals "_law_names" = some (some (.ref f15)))
    (l15 : K.lookup f15 = some ⟨oc15, od15, .func (PySem.W.fnOf "_law_names" "_law_names" (defArgs sNames) (defBody sNames) (defScope sNames) .none kV15 dc15 pm15 an15 cd15 ct15), sl15⟩) (c15 : PySem.W.codeIn K cd15 "_law_names" = true) (k15 : PySem.W.keepIn K (.ref f15) = true)
    {f16 : Addr} {od16 an16 : Option Addr} {sl16 : Array (Option Value)} {oc16 kV16 dc16 pm16 cd16 ct16 : Value} (a16 : PySem.W.nsIn K mainGlobals "_law_number" = some (some (.ref f16)))
    (l16 : K.lookup f16 = some ⟨oc16, od16, .func (PySem.W.fnOf "_law_number" "_law_number" (defArgs sNumber) (defBody sNumber) (defScope sNumber) .none kV16 dc16 pm16 an16 cd16 ct16), sl16⟩) (c16 : PySem.W.codeIn K cd16 "_law_number" = true) (k16 : PySem.W.keepIn K (.ref f16) = true)
    {f17 : Addr} {od17 an17 : Option Addr} {sl17 : Array (Option Value)} {oc17 kV17 dc17 pm17 cd17 ct17 : Value} (a17 : PySem.W.nsIn K mainGlobals "_law_tip" = some (some (.ref f17)))
    (l17 : K.lookup f17 = some ⟨oc17, od17, .func (PySem.W.fnOf "_law_tip" "_law_tip" (defArgs sTip) (defBody sTip) (defScope sTip) .none kV17 dc17 pm17 an17 cd17 ct17), sl17⟩) (c17 : PySem.W.codeIn K cd17 "_law_tip" = true) (k17 : PySem.W.keepIn K (.ref f17) = true)
    {f18 : Addr} {od18 an18 : Option Addr} {sl18 : Array (Option Value)} {oc18 kV18 dc18 pm18 cd18 ct18 : Value} (a18 : PySem.W.nsIn K mainGlobals "_law_term" = some (some (.ref f18)))
    (l18 : K.lookup f18 = some ⟨oc18, od18, .func (PySem.W.fnOf "_law_term" "_law_term" (defArgs sTerm) (defBody sTerm) (defScope sTerm) .none kV18 dc18 pm18 an18 cd18 ct18), sl18⟩) (c18 : PySem.W.codeIn K cd18 "_law_term" = true) (k18 : PySem.W.keepIn K (.ref f18) = true)
    {f19 : Addr} {od19 an19 : Option Addr} {sl19 : Array (Option Value)} {oc19 kV19 dc19 pm19 cd19 ct19 : Value} (a19 : PySem.W.nsIn K mainGlobals "_law_any_term" = some (some (.ref f19)))
    (l19 : K.lookup f19 = some ⟨oc19, od19, .func (PySem.W.fnOf "_law_any_term" "_law_any_term" (defArgs sAny) (defBody sAny) (defScope sAny) .none kV19 dc19 pm19 an19 cd19 ct19), sl19⟩) (c19 : PySem.W.codeIn K cd19 "_law_any_term" = true) (k19 : PySem.W.keepIn K (.ref f19) = true)
    {f20 : Addr} {od20 an20 : Option Addr} {sl20 : Array (Option Value)} {oc20 kV20 dc20 pm20 cd20 ct20 : Value} (a20 : PySem.W.nsIn K mainGlobals "_law_shown" = some (some (.ref f20)))
    (l20 : K.lookup f20 = some ⟨oc20, od20, .func (PySem.W.fnOf "_law_shown" "_law_shown" (defArgs sShown) (defBody sShown) (defScope sShown) .none kV20 dc20 pm20 an20 cd20 ct20), sl20⟩) (c20 : PySem.W.codeIn K cd20 "_law_shown" = true) (k20 : PySem.W.keepIn K (.ref f20) = true)
    {f21 : Addr} {od21 an21 : Option Addr} {sl21 : Array (Option Value)} {oc21 kV21 dc21 pm21 cd21 ct21 : Value} (a21 : PySem.W.nsIn K mainGlobals "_law_great_ground" = some (some (.ref f21)))
    (l21 : K.lookup f21 = some ⟨oc21, od21, .func (PySem.W.fnOf "_law_great_ground" "_law_great_ground" (defArgs sGreat) (defBody sGreat) (defScope sGreat) .none kV21 dc21 pm21 an21 cd21 ct21), sl21⟩) (c21 : PySem.W.codeIn K cd21 "_law_great_ground" = true) (k21 : PySem.W.keepIn K (.ref f21) = true)
    {f22 : Addr} {od22 an22 : Option Addr} {sl22 : Array (Option Value)} {oc22 kV22 dc22 pm22 cd22 ct22 : Value} (a22 : PySem.W.nsIn K mainGlobals "_law_long_right" = some (some (.ref f22)))
    (l22 : K.lookup f22 = some ⟨oc22, od22, .func (PySem.W.fnOf "_law_long_right" "_law_long_right" (defArgs sLong) (defBody sLong) (defScope sLong) .none kV22 dc22 pm22 an22 cd22 ct22), sl22⟩) (c22 : PySem.W.codeIn K cd22 "_law_long_right" = true) (k22 : PySem.W.keepIn K (.ref f22) = true)
    {f23 : Addr} {od23 an23 : Option Addr} {sl23 : Array (Option Value)} {oc23 kV23 dc23 pm23 cd23 ct23 : Value} (a23 : PySem.W.nsIn K mainGlobals "_law_far" = some (some (.ref f23)))
    (l23 : K.lookup f23 = some ⟨oc23, od23, .func (PySem.W.fnOf "_law_far" "_law_far" (defArgs sFar) (defBody sFar) (defScope sFar) .none kV23 dc23 pm23 an23 cd23 ct23), sl23⟩) (c23 : PySem.W.codeIn K cd23 "_law_far" = true) (k23 : PySem.W.keepIn K (.ref f23) = true)
    {f24 : Addr} {od24 an24 : Option Addr} {sl24 : Array (Option Value)} {oc24 kV24 dc24 pm24 cd24 ct24 : Value} (a24 : PySem.W.nsIn K mainGlobals "_law_right" = some (some (.ref f24)))
    (l24 : K.lookup f24 = some ⟨oc24, od24, .func (PySem.W.fnOf "_law_right" "_law_right" (defArgs sRight) (defBody sRight) (defScope sRight) .none kV24 dc24 pm24 an24 cd24 ct24), sl24⟩) (c24 : PySem.W.codeIn K cd24 "_law_right" = true) (k24 : PySem.W.keepIn K (.ref f24) = true)
    {f25 : Addr} {od25 an25 : Option Addr} {sl25 : Array (Option Value)} {oc25 kV25 dc25 pm25 cd25 ct25 : Value} (a25 : PySem.W.nsIn K mainGlobals "is_tuple_of" = some (some (.ref f25)))
    (l25 : K.lookup f25 = some ⟨oc25, od25, .func (PySem.W.fnOf "is_tuple_of" "is_tuple_of" (defArgs sTupOf) (defBody sTupOf) (defScope sTupOf) .none kV25 dc25 pm25 an25 cd25 ct25), sl25⟩) (c25 : PySem.W.codeIn K cd25 "is_tuple_of" = true) (k25 : PySem.W.keepIn K (.ref f25) = true)
    {f26 : Addr} {od26 an26 : Option Addr} {sl26 : Array (Option Value)} {oc26 kV26 dc26 pm26 cd26 ct26 : Value} (a26 : PySem.W.nsIn K mainGlobals "law" = some (some (.ref f26)))
    (l26 : K.lookup f26 = some ⟨oc26, od26, .func (PySem.W.fnOf "law" "law" (defArgs sLaw) (defBody sLaw) (defScope sLaw) .none kV26 dc26 pm26 an26 cd26 ct26), sl26⟩) (c26 : PySem.W.codeIn K cd26 "law" = true) (k26 : PySem.W.keepIn K (.ref f26) = true)
    {CR : Addr} (aCR : PySem.W.nsIn K mainGlobals "Reader" = some (some (.ref CR)))
    (pgR : PySem.W.plainGet K CR Str.empty = true) (hdR : PySem.W.hasDictIn K CR = true) (poR : PySem.W.plainOver K CR = true) (saR : PySem.W.findIn K (.ref CR) "__setattr__" = some (some (.builtin "object.__setattr__"))) (mkR : PySem.W.makesIn K CR = true) (kcR : PySem.W.keepIn K (.ref CR) = true)
    (nRtext : PySem.W.findIn K (.ref CR) "text" = some none)
    (nRpieces : PySem.W.findIn K (.ref CR) "pieces" = some none)
    (nRat : PySem.W.findIn K (.ref CR) "at" = some none)
    {fR__init__ : Addr} {odR__init__ anR__init__ : Option Addr} {slR__init__ : Array (Option Value)} {ocR__init__ kVR__init__ dcR__init__ pmR__init__ cdR__init__ ctR__init__ : Value} (aR__init__ : PySem.W.findIn K (.ref CR) "__init__" = some (some (.ref fR__init__)))
    (iR__init__ : PySem.W.isFn K (.ref fR__init__) = true)
    (lR__init__ : K.lookup fR__init__ = some ⟨ocR__init__, odR__init__, .func (PySem.W.fnOf "__init__" "Reader.__init__" (defArgs sInit) (defBody sInit) (defScope sInit) .none kVR__init__ dcR__init__ pmR__init__ anR__init__ cdR__init__ ctR__init__), slR__init__⟩) (cR__init__ : PySem.W.codeIn K cdR__init__ "Reader.__init__" = true) (kR__init__ : PySem.W.keepIn K (.ref fR__init__) = true)
    {fRpeek : Addr} {odRpeek anRpeek : Option Addr} {slRpeek : Array (Option Value)} {ocRpeek kVRpeek dcRpeek pmRpeek cdRpeek ctRpeek : Value} (aRpeek : PySem.W.findIn K (.ref CR) "peek" = some (some (.ref fRpeek)))
    (iRpeek : PySem.W.isFn K (.ref fRpeek) = true)
    (lRpeek : K.lookup fRpeek = some ⟨ocRpeek, odRpeek, .func (PySem.W.fnOf "peek" "Reader.peek" (defArgs sPeek) (defBody sPeek) (defScope sPeek) .none kVRpeek dcRpeek pmRpeek anRpeek cdRpeek ctRpeek), slRpeek⟩) (cRpeek : PySem.W.codeIn K cdRpeek "Reader.peek" = true) (kRpeek : PySem.W.keepIn K (.ref fRpeek) = true)
    {fRnext_piece : Addr} {odRnext_piece anRnext_piece : Option Addr} {slRnext_piece : Array (Option Value)} {ocRnext_piece kVRnext_piece dcRnext_piece pmRnext_piece cdRnext_piece ctRnext_piece : Value} (aRnext_piece : PySem.W.findIn K (.ref CR) "next_piece" = some (some (.ref fRnext_piece)))
    (iRnext_piece : PySem.W.isFn K (.ref fRnext_piece) = true)
    (lRnext_piece : K.lookup fRnext_piece = some ⟨ocRnext_piece, odRnext_piece, .func (PySem.W.fnOf "next_piece" "Reader.next_piece" (defArgs sNextP) (defBody sNextP) (defScope sNextP) .none kVRnext_piece dcRnext_piece pmRnext_piece anRnext_piece cdRnext_piece ctRnext_piece), slRnext_piece⟩) (cRnext_piece : PySem.W.codeIn K cdRnext_piece "Reader.next_piece" = true) (kRnext_piece : PySem.W.keepIn K (.ref fRnext_piece) = true)
    {fRexpect : Addr} {odRexpect anRexpect : Option Addr} {slRexpect : Array (Option Value)} {ocRexpect kVRexpect dcRexpect pmRexpect cdRexpect ctRexpect : Value} (aRexpect : PySem.W.findIn K (.ref CR) "expect" = some (some (.ref fRexpect)))
    (iRexpect : PySem.W.isFn K (.ref fRexpect) = true)
    (lRexpect : K.lookup fRexpect = some ⟨ocRexpect, odRexpect, .func (PySem.W.fnOf "expect" "Reader.expect" (defArgs sExpect) (defBody sExpect) (defScope sExpect) .none kVRexpect dcRexpect pmRexpect anRexpect cdRexpect ctRexpect), slRexpect⟩) (cRexpect : PySem.W.codeIn K cdRexpect "Reader.expect" = true) (kRexpect : PySem.W.keepIn K (.ref fRexpect) = true)
    {fRexpect_end : Addr} {odRexpect_end anRexpect_end : Option Addr} {slRexpect_end : Array (Option Value)} {ocRexpect_end kVRexpect_end dcRexpect_end pmRexpect_end cdRexpect_end ctRexpect_end : Value} (aRexpect_end : PySem.W.findIn K (.ref CR) "expect_end" = some (some (.ref fRexpect_end)))
    (iRexpect_end : PySem.W.isFn K (.ref fRexpect_end) = true)
    (lRexpect_end : K.lookup fRexpect_end = some ⟨ocRexpect_end, odRexpect_end, .func (PySem.W.fnOf "expect_end" "Reader.expect_end" (defArgs sExpEnd) (defBody sExpEnd) (defScope sExpEnd) .none kVRexpect_end dcRexpect_end pmRexpect_end anRexpect_end cdRexpect_end ctRexpect_end), slRexpect_end⟩) (cRexpect_end : PySem.W.codeIn K cdRexpect_end "Reader.expect_end" = true) (kRexpect_end : PySem.W.keepIn K (.ref fRexpect_end) = true)
    {fRnext_atom : Addr} {odRnext_atom anRnext_atom : Option Addr} {slRnext_atom : Array (Option Value)} {ocRnext_atom kVRnext_atom dcRnext_atom pmRnext_atom cdRnext_atom ctRnext_atom : Value} (aRnext_atom : PySem.W.findIn K (.ref CR) "next_atom" = some (some (.ref fRnext_atom)))
    (iRnext_atom : PySem.W.isFn K (.ref fRnext_atom) = true)
    (lRnext_atom : K.lookup fRnext_atom = some ⟨ocRnext_atom, odRnext_atom, .func (PySem.W.fnOf "next_atom" "Reader.next_atom" (defArgs sNextA) (defBody sNextA) (defScope sNextA) .none kVRnext_atom dcRnext_atom pmRnext_atom anRnext_atom cdRnext_atom ctRnext_atom), slRnext_atom⟩) (cRnext_atom : PySem.W.codeIn K cdRnext_atom "Reader.next_atom" = true) (kRnext_atom : PySem.W.keepIn K (.ref fRnext_atom) = true)
    {fRunknown_by : Addr} {odRunknown_by anRunknown_by : Option Addr} {slRunknown_by : Array (Option Value)} {ocRunknown_by kVRunknown_by dcRunknown_by pmRunknown_by cdRunknown_by ctRunknown_by : Value} (aRunknown_by : PySem.W.findIn K (.ref CR) "unknown_by" = some (some (.ref fRunknown_by)))
    (iRunknown_by : PySem.W.isFn K (.ref fRunknown_by) = true)
    (lRunknown_by : K.lookup fRunknown_by = some ⟨ocRunknown_by, odRunknown_by, .func (PySem.W.fnOf "unknown_by" "Reader.unknown_by" (defArgs sUnkBy) (defBody sUnkBy) (defScope sUnkBy) .none kVRunknown_by dcRunknown_by pmRunknown_by anRunknown_by cdRunknown_by ctRunknown_by), slRunknown_by⟩) (cRunknown_by : PySem.W.codeIn K cdRunknown_by "Reader.unknown_by" = true) (kRunknown_by : PySem.W.keepIn K (.ref fRunknown_by) = true)
    {fRnext_single : Addr} {odRnext_single anRnext_single : Option Addr} {slRnext_single : Array (Option Value)} {ocRnext_single kVRnext_single dcRnext_single pmRnext_single cdRnext_single ctRnext_single : Value} (aRnext_single : PySem.W.findIn K (.ref CR) "next_single" = some (some (.ref fRnext_single)))
    (iRnext_single : PySem.W.isFn K (.ref fRnext_single) = true)
    (lRnext_single : K.lookup fRnext_single = some ⟨ocRnext_single, odRnext_single, .func (PySem.W.fnOf "next_single" "Reader.next_single" (defArgs sNextS) (defBody sNextS) (defScope sNextS) .none kVRnext_single dcRnext_single pmRnext_single anRnext_single cdRnext_single ctRnext_single), slRnext_single⟩) (cRnext_single : PySem.W.codeIn K cdRnext_single "Reader.next_single" = true) (kRnext_single : PySem.W.keepIn K (.ref fRnext_single) = true)
    {fRnext_term : Addr} {odRnext_term anRnext_term : Option Addr} {slRnext_term : Array (Option Value)} {ocRnext_term kVRnext_term dcRnext_term pmRnext_term cdRnext_term ctRnext_term : Value} (aRnext_term : PySem.W.findIn K (.ref CR) "next_term" = some (some (.ref fRnext_term)))
    (iRnext_term : PySem.W.isFn K (.ref fRnext_term) = true)
    (lRnext_term : K.lookup fRnext_term = some ⟨ocRnext_term, odRnext_term, .func (PySem.W.fnOf "next_term" "Reader.next_term" (defArgs sNextT) (defBody sNextT) (defScope sNextT) .none kVRnext_term dcRnext_term pmRnext_term anRnext_term cdRnext_term ctRnext_term), slRnext_term⟩) (cRnext_term : PySem.W.codeIn K cdRnext_term "Reader.next_term" = true) (kRnext_term : PySem.W.keepIn K (.ref fRnext_term) = true)
    {fRnext_leaf : Addr} {odRnext_leaf anRnext_leaf : Option Addr} {slRnext_leaf : Array (Option Value)} {ocRnext_leaf kVRnext_leaf dcRnext_leaf pmRnext_leaf cdRnext_leaf ctRnext_leaf : Value} (aRnext_leaf : PySem.W.findIn K (.ref CR) "next_leaf" = some (some (.ref fRnext_leaf)))
    (iRnext_leaf : PySem.W.isFn K (.ref fRnext_leaf) = true)
    (lRnext_leaf : K.lookup fRnext_leaf = some ⟨ocRnext_leaf, odRnext_leaf, .func (PySem.W.fnOf "next_leaf" "Reader.next_leaf" (defArgs sNextL) (defBody sNextL) (defScope sNextL) .none kVRnext_leaf dcRnext_leaf pmRnext_leaf anRnext_leaf cdRnext_leaf ctRnext_leaf), slRnext_leaf⟩) (cRnext_leaf : PySem.W.codeIn K cdRnext_leaf "Reader.next_leaf" = true) (kRnext_leaf : PySem.W.keepIn K (.ref fRnext_leaf) = true)
    {fRnext_end : Addr} {odRnext_end anRnext_end : Option Addr} {slRnext_end : Array (Option Value)} {ocRnext_end kVRnext_end dcRnext_end pmRnext_end cdRnext_end ctRnext_end : Value} (aRnext_end : PySem.W.findIn K (.ref CR) "next_end" = some (some (.ref fRnext_end)))
    (iRnext_end : PySem.W.isFn K (.ref fRnext_end) = true)
    (lRnext_end : K.lookup fRnext_end = some ⟨ocRnext_end, odRnext_end, .func (PySem.W.fnOf "next_end" "Reader.next_end" (defArgs sNextE) (defBody sNextE) (defScope sNextE) .none kVRnext_end dcRnext_end pmRnext_end anRnext_end cdRnext_end ctRnext_end), slRnext_end⟩) (cRnext_end : PySem.W.codeIn K cdRnext_end "Reader.next_end" = true) (kRnext_end : PySem.W.keepIn K (.ref fRnext_end) = true)
    (z_isinstance : PySem.W.nsIn K mainGlobals "isinstance" = some none)
    (z_int : PySem.W.nsIn K mainGlobals "int" = some none)
    (z_bool : PySem.W.nsIn K mainGlobals "bool" = some none)
    (z_tuple : PySem.W.nsIn K mainGlobals "tuple" = some none)
    (z_len : PySem.W.nsIn K mainGlobals "len" = some none)
    (z_str : PySem.W.nsIn K mainGlobals "str" = some none)
    (z_all : PySem.W.nsIn K mainGlobals "all" = some none)
    (z_list : PySem.W.nsIn K mainGlobals "list" = some none)
    (z_sum : PySem.W.nsIn K mainGlobals "sum" = some none)
    (z_range : PySem.W.nsIn K mainGlobals "range" = some none)
    (z_repr : PySem.W.nsIn K mainGlobals "repr" = some none)
    (z_reversed : PySem.W.nsIn K mainGlobals "reversed" = some none)
    (z_enumerate : PySem.W.nsIn K mainGlobals "enumerate" = some none)
    {tkWORD_LETTERS : Tok} (y_WORD_LETTERS : PySem.W.nsIn K mainGlobals "WORD_LETTERS" = some (some (.int 8 tkWORD_LETTERS))) :
    ∃ fd : FuncData, (∀ (s : Shared) (v : Value), BindsTo s fd ⟨[v], []⟩ [("_law_script", v)]) ∧ ∀ base : Heap, K.In base → base.Ns mainGlobals mg → GOk l.prog w K mg base 142 fa fd ["_law_script"] (spLaw K) := by
  cases hfa.symm.trans (PySem.W.mg_of X G a26)
  have F1 := fun_mk (st := sWord) l1 c1 k1
  have b1 := F1.binds (ps := ["thing"]) fun _ _ _ _ _ _ us hl => match us, hl with | [_], _ => rfl
  have g1 := PySem.W.mg_of X G a1
  have F2 := fun_mk (st := sIsUnk) l2 c2 k2
  have b2 := F2.binds (ps := ["thing"]) fun _ _ _ _ _ _ us hl => match us, hl with | [_], _ => rfl
  have g2 := PySem.W.mg_of X G a2
  have F3 := fun_mk (st := sIsPair) l3 c3 k3
  have b3 := F3.binds (ps := ["thing"]) fun _ _ _ _ _ _ us hl => match us, hl with | [_], _ => rfl
  have g3 := PySem.W.mg_of X G a3
  have F4 := fun_mk (st := sParted) l4 c4 k4
  have b4 := F4.binds (ps := ["term"]) fun _ _ _ _ _ _ us hl => match us, hl with | [_], _ => rfl
  have g4 := PySem.W.mg_of X G a4
  have F5 := fun_mk (st := sJoined) l5 c5 k5
  have b5 := F5.binds (ps := ["heads", "end"]) fun _ _ _ _ _ _ us hl => match us, hl with | [_, _], _ => rfl
  have g5 := PySem.W.mg_of X G a5
  have F6 := fun_mk (st := sPieces) l6 c6 k6
  have b6 := F6.binds (ps := ["text"]) fun _ _ _ _ _ _ us hl => match us, hl with | [_], _ => rfl
  have g6 := PySem.W.mg_of X G a6
  have F7 := fun_mk (st := sFigs) l7 c7 k7
  have b7 := F7.binds (ps := ["text"]) fun _ _ _ _ _ _ us hl => match us, hl with | [_], _ => rfl
  have g7 := PySem.W.mg_of X G a7
  have F8 := fun_mk (st := sAtom) l8 c8 k8
  have b8 := F8.binds (ps := ["piece"]) fun _ _ _ _ _ _ us hl => match us, hl with | [_], _ => rfl
  have g8 := PySem.W.mg_of X G a8
  have F9 := fun_mk (st := sShow) l9 c9 k9
  have b9 := F9.binds (ps := ["term"]) fun _ _ _ _ _ _ us hl => match us, hl with | [_], _ => rfl
  have g9 := PySem.W.mg_of X G a9
  have F10 := fun_mk (st := sShowP) l10 c10 k10
  have b10 := F10.binds (ps := ["pair"]) fun _ _ _ _ _ _ us hl => match us, hl with | [_], _ => rfl
  have g10 := PySem.W.mg_of X G a10
  have F11 := fun_mk (st := sRead) l11 c11 k11
  have b11 := F11.binds (ps := ["text"]) fun _ _ _ _ _ _ us hl => match us, hl with | [_], _ => rfl
  have g11 := PySem.W.mg_of X G a11
  have F12 := fun_mk (st := sShowF) l12 c12 k12
  have b12 := F12.binds (ps := ["filling"]) fun _ _ _ _ _ _ us hl => match us, hl with | [_], _ => rfl
  have g12 := PySem.W.mg_of X G a12
  have F13 := fun_mk (st := sDeck) l13 c13 k13
  have b13 := F13.binds (ps := ["_law_script"]) fun _ _ _ _ _ _ us hl => match us, hl with | [_], _ => rfl
  have g13 := PySem.W.mg_of X G a13
  have F14 := fun_mk (st := sDraw) l14 c14 k14
  have b14 := F14.binds (ps := ["_law_deck_here", "_law_many"]) fun _ _ _ _ _ _ us hl => match us, hl with | [_, _], _ => rfl
  have g14 := PySem.W.mg_of X G a14
  have F15 := fun_mk (st := sNames) l15 c15 k15
  have b15 := F15.binds (ps := ["_law_deck_here", "_law_many"]) fun _ _ _ _ _ _ us hl => match us, hl with | [_, _], _ => rfl
  have g15 := PySem.W.mg_of X G a15
  have F16 := fun_mk (st := sNumber) l16 c16 k16
  have b16 := F16.binds (ps := ["_law_deck_here"]) fun _ _ _ _ _ _ us hl => match us, hl with | [_], _ => rfl
  have g16 := PySem.W.mg_of X G a16
  have F17 := fun_mk (st := sTip) l17 c17 k17
  have b17 := F17.binds (ps := ["_law_deck_here", "_law_words", "_law_unknowns"]) fun _ _ _ _ _ _ us hl => match us, hl with | [_, _, _], _ => rfl
  have g17 := PySem.W.mg_of X G a17
  have F18 := fun_mk (st := sTerm) l18 c18 k18
  have b18 := F18.binds (ps := ["_law_deck_here", "_law_words", "_law_unknowns", "_law_deep", "_law_left"]) fun _ _ _ _ _ _ us hl => match us, hl with | [_, _, _, _, _], _ => rfl
  have g18 := PySem.W.mg_of X G a18
  have F19 := fun_mk (st := sAny) l19 c19 k19
  have b19 := F19.binds (ps := ["_law_deck_here", "_law_words", "_law_unknowns"]) fun _ _ _ _ _ _ us hl => match us, hl with | [_, _, _], _ => rfl
  have g19 := PySem.W.mg_of X G a19
  have F20 := fun_mk (st := sShown) l20 c20 k20
  have b20 := F20.binds (ps := ["_law_term_here"]) fun _ _ _ _ _ _ us hl => match us, hl with | [_], _ => rfl
  have g20 := PySem.W.mg_of X G a20
  have F21 := fun_mk (st := sGreat) l21 c21 k21
  have b21 := F21.binds (ps := ["_law_deck_here", "_law_words"]) fun _ _ _ _ _ _ us hl => match us, hl with | [_, _], _ => rfl
  have g21 := PySem.W.mg_of X G a21
  have F22 := fun_mk (st := sLong) l22 c22 k22
  have b22 := F22.binds (ps := ["_law_deck_here", "_law_words"]) fun _ _ _ _ _ _ us hl => match us, hl with | [_, _], _ => rfl
  have g22 := PySem.W.mg_of X G a22
  have F23 := fun_mk (st := sFar) l23 c23 k23
  have b23 := F23.binds (ps := ["_law_deck_here"]) fun _ _ _ _ _ _ us hl => match us, hl with | [_], _ => rfl
  have g23 := PySem.W.mg_of X G a23
  have F24 := fun_mk (st := sRight) l24 c24 k24
  have b24 := F24.binds (ps := ["_law_term_here"]) fun _ _ _ _ _ _ us hl => match us, hl with | [_], _ => rfl
  have g24 := PySem.W.mg_of X G a24
  have F25 := fun_mk (st := sTupOf) l25 c25 k25
  have b25 := F25.binds (ps := ["thing", "many"]) fun _ _ _ _ _ _ us hl => match us, hl with | [_, _], _ => rfl
  have g25 := PySem.W.mg_of X G a25
  have F26 := fun_mk (st := sLaw) l26 c26 k26
  have g26 := PySem.W.mg_of X G a26
  have gCR := PySem.W.mg_of X G aCR
  have clR : Cls K CR := ⟨pgR, hdR, poR, saR⟩
  have FR__init__ := fun_mk (st := sInit) lR__init__ cR__init__ kR__init__
  have bR__init__ := FR__init__.binds (ps := ["self", "text"]) fun _ _ _ _ _ _ us hl => match us, hl with | [_, _], _ => rfl
  have MR : Mk K CR fR__init__ := ⟨mkR, aR__init__, iR__init__, kcR⟩
  have FRpeek := fun_mk (st := sPeek) lRpeek cRpeek kRpeek
  have bRpeek := FRpeek.binds (ps := ["self"]) fun _ _ _ _ _ _ us hl => match us, hl with | [_], _ => rfl
  have mtRpeek : Meth K CR "peek" fRpeek := ⟨aRpeek, iRpeek, kRpeek⟩
  have FRnext_piece := fun_mk (st := sNextP) lRnext_piece cRnext_piece kRnext_piece
  have bRnext_piece := FRnext_piece.binds (ps := ["self"]) fun _ _ _ _ _ _ us hl => match us, hl with | [_], _ => rfl
  have mtRnext_piece : Meth K CR "next_piece" fRnext_piece := ⟨aRnext_piece, iRnext_piece, kRnext_piece⟩
  have FRexpect := fun_mk (st := sExpect) lRexpect cRexpect kRexpect
  have bRexpect := FRexpect.binds (ps := ["self", "piece"]) fun _ _ _ _ _ _ us hl => match us, hl with | [_, _], _ => rfl
  have mtRexpect : Meth K CR "expect" fRexpect := ⟨aRexpect, iRexpect, kRexpect⟩
  have FRexpect_end := fun_mk (st := sExpEnd) lRexpect_end cRexpect_end kRexpect_end
  have bRexpect_end := FRexpect_end.binds (ps := ["self"]) fun _ _ _ _ _ _ us hl => match us, hl with | [_], _ => rfl
  have mtRexpect_end : Meth K CR "expect_end" fRexpect_end := ⟨aRexpect_end, iRexpect_end, kRexpect_end⟩
  have FRnext_atom := fun_mk (st := sNextA) lRnext_atom cRnext_atom kRnext_atom
  have bRnext_atom := FRnext_atom.binds (ps := ["self"]) fun _ _ _ _ _ _ us hl => match us, hl with | [_], _ => rfl
  have mtRnext_atom : Meth K CR "next_atom" fRnext_atom := ⟨aRnext_atom, iRnext_atom, kRnext_atom⟩
  have FRunknown_by := fun_mk (st := sUnkBy) lRunknown_by cRunknown_by kRunknown_by
  have bRunknown_by := FRunknown_by.binds (ps := ["self", "mark"]) fun _ _ _ _ _ _ us hl => match us, hl with | [_, _], _ => rfl
  have mtRunknown_by : Meth K CR "unknown_by" fRunknown_by := ⟨aRunknown_by, iRunknown_by, kRunknown_by⟩
  have FRnext_single := fun_mk (st := sNextS) lRnext_single cRnext_single kRnext_single
  have bRnext_single := FRnext_single.binds (ps := ["self"]) fun _ _ _ _ _ _ us hl => match us, hl with | [_], _ => rfl
  have mtRnext_single : Meth K CR "next_single" fRnext_single := ⟨aRnext_single, iRnext_single, kRnext_single⟩
  have FRnext_term := fun_mk (st := sNextT) lRnext_term cRnext_term kRnext_term
  have bRnext_term := FRnext_term.binds (ps := ["self"]) fun _ _ _ _ _ _ us hl => match us, hl with | [_], _ => rfl
  have mtRnext_term : Meth K CR "next_term" fRnext_term := ⟨aRnext_term, iRnext_term, kRnext_term⟩
  have FRnext_leaf := fun_mk (st := sNextL) lRnext_leaf cRnext_leaf kRnext_leaf
  have bRnext_leaf := FRnext_leaf.binds (ps := ["self", "lists"]) fun _ _ _ _ _ _ us hl => match us, hl with | [_, _], _ => rfl
  have mtRnext_leaf : Meth K CR "next_leaf" fRnext_leaf := ⟨aRnext_leaf, iRnext_leaf, kRnext_leaf⟩
  have FRnext_end := fun_mk (st := sNextE) lRnext_end cRnext_end kRnext_end
  have bRnext_end := FRnext_end.binds (ps := ["self"]) fun _ _ _ _ _ _ us hl => match us, hl with | [_], _ => rfl
  have mtRnext_end : Meth K CR "next_end" fRnext_end := ⟨aRnext_end, iRnext_end, kRnext_end⟩
  have m_isinstance := PySem.W.mg_none_of X G z_isinstance
  have m_int := PySem.W.mg_none_of X G z_int
  have m_bool := PySem.W.mg_none_of X G z_bool
  have m_tuple := PySem.W.mg_none_of X G z_tuple
  have m_len := PySem.W.mg_none_of X G z_len
  have m_str := PySem.W.mg_none_of X G z_str
  have m_all := PySem.W.mg_none_of X G z_all
  have m_list := PySem.W.mg_none_of X G z_list
  have m_sum := PySem.W.mg_none_of X G z_sum
  have m_range := PySem.W.mg_none_of X G z_range
  have m_repr := PySem.W.mg_none_of X G z_repr
  have m_reversed := PySem.W.mg_none_of X G z_reversed
  have m_enumerate := PySem.W.mg_none_of X G z_enumerate
  have v_WORD_LETTERS := PySem.W.mg_of X G y_WORD_LETTERS
  refine ⟨PySem.W.fnOf "law" "law" (defArgs sLaw) (defBody sLaw) (defScope sLaw) .none kV26 dc26 pm26 an26 cd26 ct26, fun s v => .of_eq rfl, fun base _ _ => ?_⟩
  have XR : RTxt K mg CR := ⟨clR, nRtext, nRpieces, nRat, gCR, m_len⟩
  have hTo : FnOk l.prog w K mg base CX0 1 f25 _ ["thing", "many"] spTupOf := ok_tupof (k := 0) F25 m_isinstance m_tuple m_len
  have hUn : FnOk l.prog w K mg base CX0 2 f2 _ ["thing"] spIsUnk := ok_isunk (k := 1) F2 hTo b25 g25 F25.kp
  have hPa : FnOk l.prog w K mg base CX0 2 f3 _ ["thing"] spIsPair := ok_ispair (k := 1) F3 hTo b25 g25 F25.kp
  have hPt : FnOk l.prog w K mg base CX0 3 f4 _ ["term"] spParted := ok_parted (k := 1) F4 hPa b3 g3 F3.kp
  have hJo : FnOk l.prog w K mg base CX0 1 f5 _ ["heads", "end"] (spJoined K) := ok_joined (k := 0) F5 m_reversed
  have hWo : FnOk l.prog w K mg base CX0 1 f1 _ ["thing"] spWord := ok_word (k := 0) F1 m_isinstance m_str m_len m_all v_WORD_LETTERS
  have hFi : FnOk l.prog w K mg base CX0 1 f7 _ ["text"] spFigs := ok_figs (k := 0) F7 m_all
  have hAt : FnOk l.prog w K mg base CX0 2 f8 _ ["piece"] spAtom := ok_atom (k := 0) F8 hWo b1 g1 F1.kp hFi b7 g7 F7.kp m_int
  have hPi : FnOk l.prog w K mg base CX0 1 f6 _ ["text"] spPieces := ok_pieces (k := 0) F6 m_enumerate m_len
  have rI : FnOk l.prog w K mg base CX0 2 fR__init__ _ ["self", "text"] (spInit CR) := ok_init (k := 0) FR__init__ XR hPi b6 g6 F6.kp m_isinstance m_str
  have rK : FnOk l.prog w K mg base CX0 1 fRpeek _ ["self"] (spPeek CR) := ok_peek (j := 0) FRpeek XR
  have rN : FnOk l.prog w K mg base CX0 2 fRnext_piece _ ["self"] (spNextP CR) := ok_nextp (j := 0) FRnext_piece XR rK bRpeek mtRpeek
  have rX : FnOk l.prog w K mg base CX0 3 fRexpect _ ["self", "piece"] (spExpect CR) := ok_expect (j := 1) FRexpect XR rN bRnext_piece mtRnext_piece
  have rZ : FnOk l.prog w K mg base CX0 1 fRexpect_end _ ["self"] (spExpEnd CR) := ok_expend (j := 0) FRexpect_end XR
  have rA : FnOk l.prog w K mg base CX0 3 fRnext_atom _ ["self"] (spNextA0 CR) := ok_nexta (j := 1) FRnext_atom XR rN bRnext_piece mtRnext_piece hAt b8 g8 F8.kp
  have rU : FnOk l.prog w K mg base CX0 2 fRunknown_by _ ["self", "mark"] spUnkBy := ok_unkby (j := 0) FRunknown_by hFi b7 g7 F7.kp m_int
  have rS : FnOk l.prog w K mg base CX0 4 fRnext_single _ ["self"] (spNextA CR) := ok_nexts (j := 2) FRnext_single XR (rK.mono (by decide)) bRpeek mtRpeek (rN.mono (by decide)) bRnext_piece mtRnext_piece rA bRnext_atom mtRnext_atom (rU.mono (by decide)) bRunknown_by mtRunknown_by
  have rE : FnOk l.prog w K mg base CX0 5 fRnext_end _ ["self"] (spNextE CR) := ok_nexte (j := 3) FRnext_end XR (rX.mono (by decide)) bRexpect mtRexpect rS bRnext_single mtRnext_single
  have rL : FnOk l.prog w K mg base CX0 5 fRnext_leaf _ ["self", "lists"] (spNextL CR) := ok_nextl (j := 3) FRnext_leaf XR (rK.mono (by decide)) bRpeek mtRpeek (rX.mono (by decide)) bRexpect mtRexpect rS bRnext_single mtRnext_single
  have rT : FnOk l.prog w K mg base CX0 6 fRnext_term _ ["self"] (spNextT CR) := ok_nextt (j := 4) FRnext_term XR (rK.mono (by decide)) bRpeek mtRpeek (rX.mono (by decide)) bRexpect mtRexpect rL bRnext_leaf mtRnext_leaf rE bRnext_end mtRnext_end (hJo.mono (by decide)) b5 g5 F5.kp
  have hRd : FnOk l.prog w K mg base CX0 7 f11 _ ["text"] spRead := ok_read (j := 4) F11 XR MR (rI.mono (by decide)) bR__init__ rT bRnext_term mtRnext_term (rZ.mono (by decide)) bRexpect_end mtRexpect_end m_isinstance m_str
  have hSh : FnOk l.prog w K mg base CX0 129 f9 _ ["term"] (spShow 62) := ok_show (k := 2) F9 b9 g9 (hUn.mono (by decide)) b2 g2 F2.kp (hPa.mono (by decide)) b3 g3 F3.kp hPt b4 g4 F4.kp F10 b10 g10 m_str 62
  have hSf : FnOk l.prog w K mg base CX0 130 f12 _ ["filling"] (spShowF K) := ok_showf (k := 128) F12 hSh b9 g9 F9.kp
  have hDk : FnOk l.prog w K mg base CX0 1 f13 _ ["_law_script"] (spDeck K) := ok_deck (k := 0) F13 m_list m_sum
  have hD : FnOk l.prog w K mg base CX0 1 f14 _ ["_law_deck_here", "_law_many"] spDraw := ok_draw (k := 0) F14
  have hN : FnOk l.prog w K mg base CX0 2 f15 _ ["_law_deck_here", "_law_many"] spNames := ok_names (k := 0) F15 hD b14 g14 F14.kp m_range
  have hNu : FnOk l.prog w K mg base CX0 2 f16 _ ["_law_deck_here"] spNumber := ok_number (k := 0) F16 hD b14 g14 F14.kp
  have hT : FnOk l.prog w K mg base CX0 3 f17 _ ["_law_deck_here", "_law_words", "_law_unknowns"] spTip := ok_tip (k := 0) F17 hD b14 g14 F14.kp hNu b16 g16 F16.kp m_len
  have hR : ∀ n, FnOk l.prog w K mg base CX0 (0 + 4 + n) f18 _ psTerm (spTerm n) := ok_term (k := 0) F18 hD b14 g14 F14.kp hT b17 g17 F17.kp m_int b18 g18
  have hA : FnOk l.prog w K mg base CX0 34 f19 _ ["_law_deck_here", "_law_words", "_law_unknowns"] spAny := ok_any (k := 0) F19 hD b14 g14 F14.kp hT b17 g17 F17.kp hR b18 g18 F18.kp m_range
  have hSn : FnOk l.prog w K mg base CX0 64 f20 _ ["_law_term_here"] (spShow 62) := ok_shown (k := 0) F20 b20 g20 m_isinstance m_tuple m_str 62
  have hGr : FnOk l.prog w K mg base CX0 54 f21 _ ["_law_deck_here", "_law_words"] spGreat := ok_great (k := 0) F21 hD b14 g14 F14.kp hNu b16 g16 F16.kp hR b18 g18 F18.kp m_range
  have hLo : FnOk l.prog w K mg base CX0 130 f22 _ ["_law_deck_here", "_law_words"] spLong := ok_long (k := 128) F22 (hD.mono (by decide)) b14 g14 F14.kp hSh b9 g9 F9.kp (hRd.mono (by decide)) b11 g11 F11.kp m_range m_str
  have hFa : FnOk l.prog w K mg base CX0 2 f23 _ ["_law_deck_here"] spFar := ok_far (k := 0) F23 hD b14 g14 F14.kp m_range
  have hRi : GOk l.prog w K mg base 141 f24 _ ["_law_term_here"] spRight := ok_right F24 (hSn.mono (by decide)) b20 g20 F20.kp (hSh.mono (by decide)) b9 g9 F9.kp (hRd.mono (by decide)) b11 g11 F11.kp m_repr m_isinstance m_str
  exact ok_law F26 (hDk.mono (by decide)) b13 g13 F13.kp (hN.mono (by decide)) b15 g15 F15.kp (hD.mono (by decide)) b14 g14 F14.kp (hA.mono (by decide)) b19 g19 F19.kp hRi b24 g24 F24.kp ((hR 3).mono (by decide)) b18 g18 F18.kp (hSn.mono (by decide)) b20 g20 F20.kp
    (hSf.mono (by decide)) b12 g12 F12.kp (hGr.mono (by decide)) b21 g21 F21.kp (hLo.mono (by decide)) b22 g22 F22.kp (hFa.mono (by decide)) b23 g23 F23.kp m_range m_repr m_tuple m_str
end Ksec

open PySem PySem.W PyProof.Rows
set_option Elab.async false
set_option maxRecDepth 100000 in
set_option maxHeartbeats 0 in
theorem PySem.Challenge.cw_fairsearch_k04_terms_and_fillings_writte_holds : PySem.Challenge.rw_fairsearch_k04_terms_and_fillings_writte.Holds := by
  w_on; o_law; k_head; (case hw => w_witness2)
  k_fill
  refine Ksec.gwalk (l := PySem.Challenge.rw_fairsearch_k04_terms_and_fillings_writte) (n := 63) (k := 142) (x := "_law_script") (sp := Ksec.spLaw) rfl (by decide) rfl ⟨rfl, by decide, by decide⟩ (fun w h Y => PySem.W.kIn_of Y) ?F (fun _ _ a ns _ hS => ⟨a, ns, rfl, hS, fun _ => rfl⟩)
  case F =>
    intro w mg fa h KX G hmg
    refine' Ksec.all_mk KX G hmg ?a1 ?l1 ?c1 ?k1 ?a2 ?l2 ?c2 ?k2 ?a3 ?l3 ?c3 ?k3 ?a4 ?l4 ?c4 ?k4 ?a5 ?l5 ?c5 ?k5 ?a6 ?l6 ?c6 ?k6 ?a7 ?l7 ?c7 ?k7 ?a8 ?l8 ?c8 ?k8 ?a9 ?l9 ?c9 ?k9 ?a10 ?l10 ?c10 ?k10 ?a11 ?l11 ?c11 ?k11 ?a12 ?l12 ?c12 ?k12 ?a13 ?l13 ?c13 ?k13 ?a14 ?l14 ?c14 ?k14 ?a15 ?l15 ?c15 ?k15 ?a16 ?l16 ?c16 ?k16 ?a17 ?l17 ?c17 ?k17 ?a18 ?l18 ?c18 ?k18 ?a19 ?l19 ?c19 ?k19 ?a20 ?l20 ?c20 ?k20 ?a21 ?l21 ?c21 ?k21 ?a22 ?l22 ?c22 ?k22 ?a23 ?l23 ?c23 ?k23 ?a24 ?l24 ?c24 ?k24 ?a25 ?l25 ?c25 ?k25 ?a26 ?l26 ?c26 ?k26 ?aCR ?pgR ?hdR ?poR ?saR ?mkR ?kcR ?nRtext ?nRpieces ?nRat ?aR__init__ ?iR__init__ ?lR__init__ ?cR__init__ ?kR__init__ ?aRpeek ?iRpeek ?lRpeek ?cRpeek ?kRpeek ?aRnext_piece ?iRnext_piece ?lRnext_piece ?cRnext_piece ?kRnext_piece ?aRexpect ?iRexpect ?lRexpect ?cRexpect ?kRexpect ?aRexpect_end ?iRexpect_end ?lRexpect_end ?cRexpect_end ?kRexpect_end ?aRnext_atom ?iRnext_atom ?lRnext_atom ?cRnext_atom ?kRnext_atom ?aRunknown_by ?iRunknown_by ?lRunknown_by ?cRunknown_by ?kRunknown_by ?aRnext_single ?iRnext_single ?lRnext_single ?cRnext_single ?kRnext_single ?aRnext_term ?iRnext_term ?lRnext_term ?cRnext_term ?kRnext_term ?aRnext_leaf ?iRnext_leaf ?lRnext_leaf ?cRnext_leaf ?kRnext_leaf ?aRnext_end ?iRnext_end ?lRnext_end ?cRnext_end ?kRnext_end ?z_isinstance ?z_int ?z_bool ?z_tuple ?z_len ?z_str ?z_all ?z_list ?z_sum ?z_range ?z_repr ?z_reversed ?z_enumerate ?y_WORD_LETTERS
    (case a1 => k_is)
    (case l1 => k_is)
    (case c1 => k_is)
    (case k1 => k_is)
    (case a2 => k_is)
    (case l2 => k_is)
    (case c2 => k_is)
    (case k2 => k_is)
    (case a3 => k_is)
    (case l3 => k_is)
    (case c3 => k_is)
    (case k3 => k_is)
    (case a4 => k_is)
    (case l4 => k_is)
    (case c4 => k_is)
    (case k4 => k_is)
    (case a5 => k_is)
    (case l5 => k_is)
    (case c5 => k_is)
    (case k5 => k_is)
    (case a6 => k_is)
    (case l6 => k_is)
    (case c6 => k_is)
    (case k6 => k_is)
    (case a7 => k_is)
    (case l7 => k_is)
    (case c7 => k_is)
    (case k7 => k_is)
    (case a8 => k_is)
    (case l8 => k_is)
    (case c8 => k_is)
    (case k8 => k_is)
    (case a9 => k_is)
    (case l9 => k_is)
    (case c9 => k_is)
    (case k9 => k_is)
    (case a10 => k_is)
    (case l10 => k_is)
    (case c10 => k_is)
    (case k10 => k_is)
    (case a11 => k_is)
    (case l11 => k_is)
    (case c11 => k_is)
    (case k11 => k_is)
    (case a12 => k_is)
    (case l12 => k_is)
    (case c12 => k_is)
    (case k12 => k_is)
    (case a13 => k_is)
    (case l13 => k_is)
    (case c13 => k_is)
    (case k13 => k_is)
    (case a14 => k_is)
    (case l14 => k_is)
    (case c14 => k_is)
    (case k14 => k_is)
    (case a15 => k_is)
    (case l15 => k_is)
    (case c15 => k_is)
    (case k15 => k_is)
    (case a16 => k_is)
    (case l16 => k_is)
    (case c16 => k_is)
    (case k16 => k_is)
    (case a17 => k_is)
    (case l17 => k_is)
    (case c17 => k_is)
    (case k17 => k_is)
    (case a18 => k_is)
    (case l18 => k_is)
    (case c18 => k_is)
    (case k18 => k_is)
    (case a19 => k_is)
    (case l19 => k_is)
    (case c19 => k_is)
    (case k19 => k_is)
    (case a20 => k_is)
    (case l20 => k_is)
    (case c20 => k_is)
    (case k20 => k_is)
    (case a21 => k_is)
    (case l21 => k_is)
    (case c21 => k_is)
    (case k21 => k_is)
    (case a22 => k_is)
    (case l22 => k_is)
    (case c22 => k_is)
    (case k22 => k_is)
    (case a23 => k_is)
    (case l23 => k_is)
    (case c23 => k_is)
    (case k23 => k_is)
    (case a24 => k_is)
    (case l24 => k_is)
    (case c24 => k_is)
    (case k24 => k_is)
    (case a25 => k_is)
    (case l25 => k_is)
    (case c25 => k_is)
    (case k25 => k_is)
    (case a26 => k_is)
    (case l26 => k_is)
    (case c26 => k_is)
    (case k26 => k_is)
    (case aCR => k_is)
    (case pgR => k_is)
    (case hdR => k_is)
    (case poR => k_is)
    (case saR => k_is)
    (case mkR => k_is)
    (case kcR => k_is)
    (case nRtext => k_is)
    (case nRpieces => k_is)
    (case nRat => k_is)
    (case aR__init__ => k_is)
    (case iR__init__ => k_is)
    (case lR__init__ => k_is)
    (case cR__init__ => k_is)
    (case kR__init__ => k_is)
    (case aRpeek => k_is)
    (case iRpeek => k_is)
    (case lRpeek => k_is)
    (case cRpeek => k_is)
    (case kRpeek => k_is)
    (case aRnext_piece => k_is)
    (case iRnext_piece => k_is)
    (case lRnext_piece => k_is)
    (case cRnext_piece => k_is)
    (case kRnext_piece => k_is)
    (case aRexpect => k_is)
    (case iRexpect => k_is)
    (case lRexpect => k_is)
    (case cRexpect => k_is)
    (case kRexpect => k_is)
    (case aRexpect_end => k_is)
    (case iRexpect_end => k_is)
    (case lRexpect_end => k_is)
    (case cRexpect_end => k_is)
    (case kRexpect_end => k_is)
    (case aRnext_atom => k_is)
    (case iRnext_atom => k_is)
    (case lRnext_atom => k_is)
    (case cRnext_atom => k_is)
    (case kRnext_atom => k_is)
    (case aRunknown_by => k_is)
    (case iRunknown_by => k_is)
    (case lRunknown_by => k_is)
    (case cRunknown_by => k_is)
    (case kRunknown_by => k_is)
    (case aRnext_single => k_is)
    (case iRnext_single => k_is)
    (case lRnext_single => k_is)
    (case cRnext_single => k_is)
    (case kRnext_single => k_is)
    (case aRnext_term => k_is)
    (case iRnext_term => k_is)
    (case lRnext_term => k_is)
    (case cRnext_term => k_is)
    (case kRnext_term => k_is)
    (case aRnext_leaf => k_is)
    (case iRnext_leaf => k_is)
    (case lRnext_leaf => k_is)
    (case cRnext_leaf => k_is)
    (case kRnext_leaf => k_is)
    (case aRnext_end => k_is)
    (case iRnext_end => k_is)
    (case lRnext_end => k_is)
    (case cRnext_end => k_is)
    (case kRnext_end => k_is)
    (case z_isinstance => k_is)
    (case z_int => k_is)
    (case z_bool => k_is)
    (case z_tuple => k_is)
    (case z_len => k_is)
    (case z_str => k_is)
    (case z_all => k_is)
    (case z_list => k_is)
    (case z_sum => k_is)
    (case z_range => k_is)
    (case z_repr => k_is)
    (case z_reversed => k_is)
    (case z_enumerate => k_is)
    (case y_WORD_LETTERS => k_is)

