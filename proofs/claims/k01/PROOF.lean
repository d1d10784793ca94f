import PyProof.Rows.All
import Wide.All
import OpenK.AllK
import Wide.FinOn
import HandS.ForMost
import HandS.IsInst
import HandS.Wide
import HandS.Flow
import HandS.More
import HandS.Rev
import HandS.Conv
import PyProof.ReprRoads
import HandS.Style
import HandS.TupAny
import KE.KDictList
import PyProof.RowDictHeap
import PyProof.NeKinds
import HandS.Steps
import KE.KRevSl
import PySem.Challenge.RW_fairsearch_k01_what_is_a_term
set_option Elab.async false
set_option linter.all false
set_option maxRecDepth 100000
namespace Ksec
open PySem PySem.Spec PyProof.Rows L2
/-! the text -/
def topS (i : Nat) : Stmt := PySem.Challenge.pw_fairsearch_k01_what_is_a_term.main.body.getD i (.Pass ⟨0, 0, 0, 0⟩)
/-! the terms -/
inductive Tm where
  | int (i : Int)
  | wrd (z : Str)
  | nil
  | unk (n : Int)
  | pair (a b : Tm)
/-- a word: one to eight small letters -/
def Wd (z : Str) : Prop := 1 ≤ z.length ∧ z.length ≤ 8 ∧ ∀ c ∈ z.cps.toList, 97 ≤ c ∧ c ≤ 122
namespace Tm
def ok : Tm → Prop
  | .int i => i.natAbs ≤ 1000000000000
  | .wrd z => Wd z
  | .nil => True
  | .unk n => 0 ≤ n ∧ n ≤ 999
  | .pair a b => a.ok ∧ b.ok
def depth : Tm → Nat
  | .pair a b => max a.depth b.depth + 1
  | _ => 1
def size : Tm → Nat
  | .pair a b => a.size + b.size + 1
  | _ => 1
def isUnk : Tm → Bool
  | .unk _ => true
  | _ => false
def isPair : Tm → Bool
  | .pair _ _ => true
  | _ => false
def data : Tm → PyData
  | .int i => .int i
  | .wrd z => .str z
  | .nil => .tuple []
  | .unk n => .tuple [.str "?", .int n]
  | .pair a b => .tuple [a.data, b.data]
theorem data_depth : ∀ t : Tm, t.data.depth ≤ t.depth
  | .int _ => Nat.zero_le _
  | .wrd _ => Nat.zero_le _
  | .nil => Nat.le_refl _
  | .unk _ => Nat.le_refl _
  | .pair a b => by
    have h1 := data_depth a
    have h2 := data_depth b
    show max a.data.depth (max b.data.depth 0) + 1 ≤ max a.depth b.depth + 1
    omega
end Tm
theorem wd_ok {z : Str} (h : Wd z) : PyData.strOk z = true := by
  obtain ⟨h1, h2, h3⟩ := h
  unfold PyData.strOk
  rw [← Array.all_toList, List.all_eq_true]
  intro c hc
  have := h3 c hc
  exact decide_eq_true (by omega)
theorem wd_ne {z : Str} (h : Wd z) : z ≠ ("?" : Str) := by
  intro e
  subst e
  have := h.2.2 63 (by decide)
  omega
theorem Tm.lay : ∀ {t : Tm}, t.ok → t.data.canLay0 = true
  | .int _, _ => rfl
  | .wrd z, h => wd_ok h
  | .nil, _ => rfl
  | .unk _, _ => by
    show (PyData.strOk "?" && (true && true)) = true
    decide +kernel
  | .pair a b, h => by
    show (a.data.canLay0 && (b.data.canLay0 && true)) = true
    rw [Tm.lay h.1, Tm.lay h.2]
    rfl
theorem Tm.shp {t : Tm} (h : t.ok) (d : t.depth ≤ 64) : SeqAt.shaped t.data = true := by
  unfold SeqAt.shaped
  rw [Tm.lay h, decide_eq_true (Nat.le_trans t.data_depth d)]
  rfl
/-- x is the term t in H -/
inductive IsTm (H : Hp) : V → Tm → Prop where
  | int (i : Int) : IsTm H (.int i) (.int i)
  | wrd (z : Str) : IsTm H (.str z) (.wrd z)
  | nil {a : Addr} (h : H a = some (.tup [])) : IsTm H (.ref a) .nil
  | unk {a : Addr} {n : Int} (h : H a = some (.tup [.str "?", .int n])) : IsTm H (.ref a) (.unk n)
  | pair {a : Addr} {x y : V} {t u : Tm} (h : H a = some (.tup [x, y])) (h1 : IsTm H x t) (h2 : IsTm H y u) : IsTm H (.ref a) (.pair t u)
/-- tuples stay -/
def Tup (H H' : Hp) : Prop := ∀ b xs, H b = some (.tup xs) → H' b = some (.tup xs)
theorem Tup.refl (H : Hp) : Tup H H := fun _ _ h => h
theorem Tup.trans {H H1 H2 : Hp} (a : Tup H H1) (b : Tup H1 H2) : Tup H H2 := fun c xs h => b c xs (a c xs h)
theorem IsTm.keep {H H' : Hp} (k : Tup H H') {x : V} {t : Tm} (h : IsTm H x t) : IsTm H' x t := by
  induction h with
  | int i => exact .int i
  | wrd z => exact .wrd z
  | nil h => exact .nil (k _ _ h)
  | unk h => exact .unk (k _ _ h)
  | pair h _ _ i1 i2 => exact .pair (k _ _ h) i1 i2
theorem IsTm.dp {K : PySem.W.Frag} {H : Hp} {x : V} {t : Tm} (h : IsTm H x t) : Dp K H x t.data := by
  induction h with
  | int i => exact .int i
  | wrd z => exact .str z
  | nil h => exact .tup (.inl (.inl h)) .nil
  | unk h => exact .tup (.inl (.inl h)) (.cons (.str _) (.cons (.int _) .nil))
  | pair h _ _ i1 i2 => exact .tup (.inl (.inl h)) (.cons i1 (.cons i2 .nil))
/-- the type's name -/
def Tm.ty : Tm → String
  | .int _ => "int"
  | .wrd _ => "str"
  | _ => "tuple"
theorem IsTm.tyx {K : PySem.W.Frag} {H : Hp} {x : V} {t : Tm} (h : IsTm H x t) : TyX K H x (.type t.ty) := by
  cases h with
  | int i => exact .base (.int i)
  | wrd z => exact .base (.str z)
  | nil h => exact .base (.tup h)
  | unk h => exact .base (.tup h)
  | pair h _ _ => exact .base (.tup h)
theorem Tm.isTup (t : Tm) : kitB t.ty "tuple" = some (t.ty == "tuple") := by
  cases t with
  | int i => show kitB "int" "tuple" = some ("int" == "tuple"); decide +kernel
  | wrd i => show kitB "str" "tuple" = some ("str" == "tuple"); decide +kernel
  | nil => decide +kernel
  | unk i => show kitB "tuple" "tuple" = some ("tuple" == "tuple"); decide +kernel
  | pair i j => show kitB "tuple" "tuple" = some ("tuple" == "tuple"); decide +kernel
theorem eqv_qq : PyData.eqv (.str "?") (.str "?") = true := by decide +kernel
theorem Tm.noq : ∀ {t : Tm}, t.ok → PyData.eqv t.data (.str "?") = false
  | .int _, _ => by simp [Tm.data, PyData.eqv]
  | .wrd z, h => by
    show PyData.eqv (.str z) (.str "?") = false
    unfold PyData.eqv
    exact beq_eq_false_iff_ne.mpr (wd_ne h)
  | .nil, _ => by simp [Tm.data, PyData.eqv]
  | .unk _, _ => by simp [Tm.data, PyData.eqv]
  | .pair _ _, _ => by simp [Tm.data, PyData.eqv]
theorem shp_q : SeqAt.shaped (.str "?") = true := by decide +kernel
theorem same_upd {H : Hp} {p : Addr} {o : HO} (h : H p = none) : Same H (upd H p o) := fun b x e => by
  rw [upd_ne (ne_of_none e h)]
  exact e
theorem sameTup {H H' : Hp} (s : Same H H') : Tup H H' := fun b xs h => s b _ h
theorem tup_upd {H : Hp} {p : Addr} {o u : HO} (h : H p = some u) (hu : ∀ xs, u ≠ .tup xs) : Tup H (upd H p o) := fun b xs e => by
  rw [upd_ne (ne_of e h (fun z => hu xs z.symm))]
  exact e
/-! lists of ints as data -/
theorem dpInts {K : PySem.W.Frag} {H : Hp} : ∀ ns : List Int, DpAll K H (ns.map V.int) (ns.map .int)
  | [] => .nil
  | n :: r => .cons (.int n) (dpInts r)
theorem layInts : ∀ ns : List Int, PyData.canLayAll0 (ns.map .int) = true
  | [] => rfl
  | n :: r => by
    show (true && PyData.canLayAll0 (r.map .int)) = true
    rw [layInts r]
    rfl
theorem depInts : ∀ ns : List Int, PyData.depthAll (ns.map .int) = 0
  | [] => rfl
  | n :: r => by
    show max 0 (PyData.depthAll (r.map .int)) = 0
    rw [depInts r]
    rfl
theorem shpL (ns : List Int) : SeqAt.shaped (.list (ns.map .int)) = true := by
  have h1 : (PyData.list (ns.map .int)).canLay0 = true := layInts ns
  have h2 : (PyData.list (ns.map .int)).depth ≤ 64 := by
    show PyData.depthAll (ns.map .int) + 1 ≤ 64
    rw [depInts]
    decide
  unfold SeqAt.shaped
  rw [h1, decide_eq_true h2]
  rfl
theorem shpT (ns : List Int) : SeqAt.shaped (.tuple (ns.map .int)) = true := shpL ns
theorem eqvInts : ∀ ns ms : List Int, PyData.eqvAll (ns.map .int) (ms.map .int) = decide (ns = ms)
  | [], [] => rfl
  | [], _ :: _ => rfl
  | _ :: _, [] => rfl
  | n :: r, m :: q => by
    show ((PyData.int n).eqv (.int m) && PyData.eqvAll (r.map .int) (q.map .int)) = _
    rw [eqvInts r q]
    unfold PyData.eqv
    by_cases e : n = m
    · subst e
      by_cases e2 : r = q
      · subst e2
        simp
      · simp [e2]
    · simp [e]
theorem eqvL (ns ms : List Int) : PyData.eqv (.list (ns.map .int)) (.list (ms.map .int)) = decide (ns = ms) := by
  unfold PyData.eqv
  exact eqvInts ns ms
theorem eqvT (ns ms : List Int) : PyData.eqv (.tuple (ns.map .int)) (.tuple (ms.map .int)) = decide (ns = ms) := by
  unfold PyData.eqv
  exact eqvInts ns ms
end Ksec
set_option Elab.async false
set_option linter.all false
set_option maxRecDepth 100000
namespace Ksec
open PySem PySem.Spec PyProof.Rows L2
abbrev sDeck : Stmt := topS 9
abbrev sDraw : Stmt := topS 10
theorem scDeck : FnScope ["_law_script", "_law_cells"] ["_law_script"] (defScope sDeck) := ⟨rfl, rfl, rfl, by decide +kernel, rfl, by decide +kernel, by decide +kernel⟩
theorem scDraw : FnScope ["_law_deck_here", "_law_many", "_law_cells", "_law_cell", "_law_number_here"] ["_law_deck_here", "_law_many"] (defScope sDraw) := ⟨rfl, rfl, rfl, by decide +kernel, rfl, by decide +kernel, by decide +kernel⟩
/-- a deck at d, its cells at c -/
def Dk (H : Hp) (d c : Addr) : Prop := ∃ (ns : List Int) (s n : Int), H d = some (.lst [.ref c, .int s, .int n]) ∧ H c = some (.lst (ns.map V.int)) ∧ ns.length ≤ 63
theorem cutTo (xs : List V) (k : Nat) : cutV xs none (some (k : Int)) = xs.take k := by
  unfold cutV
  rw [HT.sIx_none, HT.sIx_nat]
  show (xs.drop 0).take (min k xs.length - 0) = xs.take k
  rw [List.drop_zero, Nat.sub_zero]
  by_cases h : k ≤ xs.length
  · rw [Nat.min_eq_left h]
  · rw [Nat.min_eq_right (by omega), List.take_length, List.take_of_length_le (by omega)]
/-- all but the deck stays -/
def Kp (d c : Addr) (H H' : Hp) : Prop := ∀ b o, b ≠ d → b ≠ c → H b = some o → H' b = some o
section
variable {P : Program} {w : World} {K : PySem.W.Frag} {mg : Str → Option Value} {base : Heap}
def spDeck (K : PySem.W.Frag) : Sp := fun vs H Q _ => ∃ (a : Addr) (ns : List Int), vs = [.ref a] ∧ SqL K H a (ns.map V.int) ∧ ∀ H' d c, Same H H' → H d = none → H c = none → Dk H' d c → Q (.ref d) H'
theorem ok_deck {f : Addr} {fd : FuncData} {k : Nat} (F : Fun K "_law_deck" "_law_deck" sDeck f fd) (m1 : mg "list" = none) (m2 : mg "sum" = none) : FnOk P w K mg base CX0 (k + 1) f fd ["_law_script"] (spDeck K) := by
  refine F.ok scDeck (fun vs H Q E h => ?_) (fun cdv A outer s H vs Q E hr h => ?_)
  · obtain ⟨x, _, rfl, _⟩ := h
    rfl
  · obtain ⟨a, ns, rfl, hS, q⟩ := h
    refine ⟨_, pss_cons (ps_set (i := 1) scDeck.nd rfl (.inl rfl) (pe_callTy call_list_of (by rfl) m1 (by decide +kernel) (pa_cons (pe_slice sl_list (pv 0) po_none (po_some pe_int)) pa_nil)))
      (pss_one (ps_ret (pe_lst (pa_cons (pv 1) (pa_cons (pe_op op_add pe_int (pe_op op_mod (pe_callB (cr_sum rfl) (by rfl) m2 (by decide +kernel) (pa_cons (pv 1) pa_nil)) pe_int)) (pa_cons pe_int pa_nil)))))), ?_⟩
    refine ⟨.ref a, rfl, 63, rfl, a, _, rfl, hS, fun b nb => ?_⟩
    have e63 : cutV (ns.map V.int) none (some 63) = (ns.take 63).map V.int := by
      rw [show (63 : Int) = ((63 : Nat) : Int) from rfl, cutTo, List.map_take]
    rw [e63]
    have s1 := same_upd (o := .lst ((ns.take 63).map V.int)) nb
    refine ⟨b, _, rfl, .inl (.inl (.inl upd_same)), fun c nc => ?_⟩
    have s2 := same_upd (o := .lst ((ns.take 63).map V.int)) nc
    refine ⟨.ref c, rfl, .ref c, rfl, c, ns.take 63, rfl, .inl (.inl upd_same), _, _, rfl, rfl, (by show (0 : Int) < 2147483579; decide), _, _, rfl, rfl, (by show 3 ≤ sizeLine; decide), fun d ndd => ?_⟩
    have s3 := same_upd (o := .lst [.ref c, .int (130043 + (ns.take 63).sum % 2147483579), .int 0]) ndd
    exact q _ d c (s1.trans (s2.trans s3)) (s1.free (s2.free ndd)) (s1.free nc) ⟨ns.take 63, _, _, upd_same, s3 _ _ upd_same, by simp; omega⟩
def spDraw : Sp := fun vs H Q _ => ∃ (d c : Addr) (m : Int), vs = [.ref d, .int m] ∧ Dk H d c ∧ 0 < m ∧ m.natAbs < 2 ^ 64 ∧ ∀ H' r, Dk H' d c → Kp d c H H' → 0 ≤ r → r < m → Q (.int r) H'
theorem ok_draw {f : Addr} {fd : FuncData} {k : Nat} (F : Fun K "_law_draw" "_law_draw" sDraw f fd) : FnOk P w K mg base CX0 (k + 1) f fd ["_law_deck_here", "_law_many"] spDraw := by
  refine F.ok scDraw (fun vs H Q E h => ?_) (fun cdv A outer s H vs Q E hr h => ?_)
  · obtain ⟨d, c, m, rfl, _⟩ := h
    rfl
  · obtain ⟨d, c, m, rfl, hD, hm, hm2, q⟩ := h
    refine ⟨_, pss_cons (ps_asg (pe_op op_add (pe_ix ix_list (pv 0) pe_int (fun _ _ => rfl)) pe_int) (pg_sub (pv 0) pe_int set_list))
      (pss_cons (ps_set (i := 2) scDraw.nd rfl (.inl rfl) (pe_ix ix_list (pv 0) pe_int (fun _ _ => rfl)))
      (pss_cons (ps_set (i := 3) scDraw.nd rfl (.inl rfl) (pe_ix ix_list (pv 0) pe_int (fun _ _ => rfl)))
      (pss_cons (ps_if (pt_cmpR (op_neD hr.units) (pv 2) (pe_lst pa_nil) (nomark _))
        (pss_cons (ps_set (i := 3) scDraw.nd rfl (.inl rfl) (pe_bm PySem.F.plainAttrs_list PySem.F.slot_list_pop PySem.F.type_list_pop mt_popAt (pv 2) (pa_cons pe_int pa_nil)))
        (pss_cons (ps_if (pt_cmpR op_ge (pv 3) (pe_op op_pow pe_int pe_int) (nomark _))
          (pss_cons (ps_expr (pe_bm PySem.F.plainAttrs_list PySem.F.slot_list_insert PySem.F.type_list_insert mt_insert (pv 2) (pa_cons pe_int (pa_cons (pe_op op_fdivW (pv 3) (pv 1)) pa_nil))))
            (pss_one (ps_ret (pe_op op_mod (pv 3) (pv 1))))) pss_nil)
          (pss_one (ps_set (i := 3) scDraw.nd rfl (.inl rfl) (pe_op op_add (pv 3) (pe_ix ix_list (pv 0) pe_int (fun _ _ => rfl))))))) pss_nil)
      (pss_cons (ps_set (i := 4) scDraw.nd rfl (.inl rfl) (pe_op op_mod (pe_op op_add (pe_op op_add (pe_op op_mul (pe_op op_mod (pv 3) pe_int) pe_int) (pe_op op_mul pe_int (pe_ix ix_list (pv 0) pe_int (fun _ _ => rfl)))) pe_int) pe_int))
      (pss_cons (ps_set (i := 4) scDraw.nd rfl (.inl rfl) (pe_op op_mod (pe_op op_add (pe_op op_add (pe_op op_mul (pv 4) (pv 4)) (pe_op op_mul pe_int (pv 4))) (pe_ix ix_list (pv 0) pe_int (fun _ _ => rfl))) pe_int))
      (pss_cons (ps_asg (pv 4) (pg_sub (pv 0) pe_int set_list))
      (pss_one (ps_ret (pe_op op_mod (pe_op op_fdiv (pe_op op_mod (pe_op op_mul (pv 4) (pe_op op_add (pv 4) pe_int)) pe_int) pe_int) (pv 1)))))))))), ?_⟩
    obtain ⟨ns, s0, n0, hd, hc, hl⟩ := hD
    have hcd : c ≠ d := by
      intro e
      subst e
      rw [hd] at hc
      cases ns with
      | nil => cases hc
      | cons n r =>
        have := (List.cons.inj (HO.lst.inj (Option.some.inj hc))).1
        cases this
    refine ⟨.ref d, rfl, d, _, 2, .int n0, rfl, rfl, .inl (.inl hd), atI_nat (j := 2) rfl, n0, 1, rfl, rfl, .ref d, rfl, d, _, 2, 2, rfl, rfl, hd, rfl, ?_⟩
    have hd1 : upd H d (.lst ([.ref c, .int s0, .int n0].set 2 (.int (n0 + 1)))) d = some (.lst [.ref c, .int s0, .int (n0 + 1)]) := upd_same
    have hc1 : upd H d (.lst ([.ref c, .int s0, .int n0].set 2 (.int (n0 + 1)))) c = some (.lst (ns.map V.int)) := by
      rw [upd_ne hcd]
      exact hc
    have kp1 : Kp d c H (upd H d (.lst ([.ref c, .int s0, .int n0].set 2 (.int (n0 + 1))))) := fun b o h1 _ e => by
      rw [upd_ne h1]
      exact e
    generalize upd H d (.lst ([.ref c, .int s0, .int n0].set 2 (.int (n0 + 1)))) = H1 at *
    refine ⟨.ref d, rfl, d, _, 0, .ref c, rfl, rfl, .inl (.inl hd1), atI_nat (j := 0) rfl, ?_⟩
    refine ⟨.ref d, rfl, d, _, 1, .int s0, rfl, rfl, .inl (.inl hd1), atI_nat (j := 1) rfl, ?_⟩
    refine ⟨.ref c, rfl, Nat.zero_le _, fun p np => ?_⟩
    have s2 : Same H1 (upd H1 p (.lst [])) := same_upd np
    have hd2 := s2 _ _ hd1
    have hc2 := s2 _ _ hc1
    have kp2 : Kp d c H (upd H1 p (.lst [])) := fun b o h1 h2 e => s2 _ _ (kp1 b o h1 h2 e)
    refine ⟨.list (ns.map .int), .list (([] : List Int).map .int), .lst (.inl (.inl hc2)) (dpInts _), .lst (.inl (.inl upd_same)) .nil, shpL _, shpL _, _, rfl, ?_⟩
    rw [eqvL]
    generalize upd H1 p (.lst []) = H2 at *
    cases ns with
    | nil =>
      refine iteF ?_
      refine ⟨_, rfl, _, _, rfl, rfl, (by show (0 : Int) < 2147483629; decide), _, _, rfl, rfl, .inr ⟨by decide, by decide⟩, .ref d, rfl, d, _, 2, .int (n0 + 1), rfl, rfl, .inl (.inl hd2), atI_nat (j := 2) rfl, 6997, (n0 + 1), rfl, rfl, .inl ⟨by decide, by decide⟩, _, _, rfl, rfl, _, _, rfl, rfl, _, _, rfl, rfl, (by show (0 : Int) < 2147483647; decide), ?_⟩
      have b0 := Int.emod_nonneg (s0 % 2147483629 * 48271 + 6997 * (n0 + 1) + 17) (show (2147483647 : Int) ≠ 0 by decide)
      have b1 := Int.emod_lt_of_pos (s0 % 2147483629 * 48271 + 6997 * (n0 + 1) + 17) (show (0 : Int) < 2147483647 by decide)
      refine ⟨_, rfl, _, rfl, _, _, rfl, rfl, .inl ⟨by omega, by omega⟩, _, rfl, 69621, _, rfl, rfl, .inl ⟨by decide, by decide⟩, _, _, rfl, rfl, .ref d, rfl, d, _, 2, .int (n0 + 1), rfl, rfl, .inl (.inl hd2), atI_nat (j := 2) rfl, _, _, rfl, rfl, _, _, rfl, rfl, (by show (0 : Int) < 2147483587; decide), ?_⟩
      have c0 := Int.emod_nonneg (((s0 % 2147483629 * 48271 + 6997 * (n0 + 1) + 17) % 2147483647) * ((s0 % 2147483629 * 48271 + 6997 * (n0 + 1) + 17) % 2147483647) + 69621 * ((s0 % 2147483629 * 48271 + 6997 * (n0 + 1) + 17) % 2147483647) + (n0 + 1)) (show (2147483587 : Int) ≠ 0 by decide)
      have c1 := Int.emod_lt_of_pos (((s0 % 2147483629 * 48271 + 6997 * (n0 + 1) + 17) % 2147483647) * ((s0 % 2147483629 * 48271 + 6997 * (n0 + 1) + 17) % 2147483647) + 69621 * ((s0 % 2147483629 * 48271 + 6997 * (n0 + 1) + 17) % 2147483647) + (n0 + 1)) (show (0 : Int) < 2147483587 by decide)
      refine ⟨_, rfl, .ref d, rfl, d, _, 1, 1, rfl, rfl, hd2, rfl, ?_⟩
      refine ⟨_, rfl, _, rfl, _, 40692, rfl, rfl, _, _, rfl, rfl, .inl ⟨by omega, by omega⟩, _, _, rfl, rfl, (by show (0 : Int) < 2147483563; decide), _, 64, rfl, rfl, ⟨by decide, by decide⟩, .int m, rfl, _, m, rfl, rfl, hm, ?_⟩
      refine q _ _ ⟨[], _, (n0 + 1), upd_same, ?_, by decide⟩ (fun b o h1 h2 e => ?_) (Int.emod_nonneg _ (by omega)) (Int.emod_lt_of_pos _ hm)
      · rw [upd_ne hcd]
        exact hc2
      · rw [upd_ne h1]
        exact kp2 b o h1 h2 e
    | cons n r =>
      refine iteT ?_
      have ep : (V.int n :: r.map V.int).eraseIdx 0 = r.map V.int := rfl
      refine ⟨.ref c, rfl, .inl ⟨rfl, _, .inl (.inl hc2)⟩, c, _, 0, 0, .int n, rfl, rfl, hc2, by decide, by decide, seqIndex_of (k := 0) (by decide) (by rw [List.length_map, List.length_cons]; omega), rfl, ?_⟩
      have hc3 : upd H2 c (.lst (((n :: r).map V.int).eraseIdx 0)) c = some (.lst (r.map V.int)) := upd_same
      have hd3 : upd H2 c (.lst (((n :: r).map V.int).eraseIdx 0)) d = some (.lst [.ref c, .int s0, .int (n0 + 1)]) := by
        rw [upd_ne hcd.symm]
        exact hd2
      have kp3 : Kp d c H (upd H2 c (.lst (((n :: r).map V.int).eraseIdx 0))) := fun b o h1 h2 e => by
        rw [upd_ne h2]
        exact kp2 b o h1 h2 e
      have hl3 : r.length ≤ 62 := by
        have : (n :: r).length = r.length + 1 := rfl
        omega
      generalize upd H2 c (.lst (((n :: r).map V.int).eraseIdx 0)) = H3 at *
      refine ⟨.int n, rfl, 10, 18, rfl, rfl, ⟨by decide, by decide, by decide⟩, n, _, rfl, rfl, _, rfl, ite2 (fun _ => ?_) (fun _ => ?_)⟩
      · refine ⟨.ref c, rfl, .inl ⟨rfl, _, .inl (.inl hc3)⟩, .int n, rfl, .int m, rfl, n, m, rfl, rfl, wide_div hm hm2 (by decide) (by decide), c, _, 0, _, rfl, rfl, hc3, ?_, by decide, by decide, ?_⟩
        · rw [List.length_map]
          exact Nat.lt_of_le_of_lt hl3 (by decide)
        refine ⟨.int n, rfl, .int m, rfl, n, m, rfl, rfl, hm, ?_⟩
        refine q _ _ ⟨n / m :: r, s0, n0 + 1, ?_, upd_same, by simpa using hl3⟩ (fun b o h1 h2 e => ?_) (Int.emod_nonneg _ (by omega)) (Int.emod_lt_of_pos _ hm)
        · rw [upd_ne hcd.symm]
          exact hd3
        · rw [upd_ne h2]
          exact kp3 b o h1 h2 e
      · refine ⟨.int n, rfl, .ref d, rfl, d, _, 1, .int s0, rfl, rfl, .inl (.inl hd3), atI_nat (j := 1) rfl, n, s0, rfl, rfl, ?_⟩
        refine ⟨_, rfl, _, _, rfl, rfl, (by show (0 : Int) < 2147483629; decide), _, _, rfl, rfl, .inr ⟨by decide, by decide⟩, .ref d, rfl, d, _, 2, .int (n0 + 1), rfl, rfl, .inl (.inl hd3), atI_nat (j := 2) rfl, 6997, (n0 + 1), rfl, rfl, .inl ⟨by decide, by decide⟩, _, _, rfl, rfl, _, _, rfl, rfl, _, _, rfl, rfl, (by show (0 : Int) < 2147483647; decide), ?_⟩
        have b0 := Int.emod_nonneg ((n + s0) % 2147483629 * 48271 + 6997 * (n0 + 1) + 17) (show (2147483647 : Int) ≠ 0 by decide)
        have b1 := Int.emod_lt_of_pos ((n + s0) % 2147483629 * 48271 + 6997 * (n0 + 1) + 17) (show (0 : Int) < 2147483647 by decide)
        refine ⟨_, rfl, _, rfl, _, _, rfl, rfl, .inl ⟨by omega, by omega⟩, _, rfl, 69621, _, rfl, rfl, .inl ⟨by decide, by decide⟩, _, _, rfl, rfl, .ref d, rfl, d, _, 2, .int (n0 + 1), rfl, rfl, .inl (.inl hd3), atI_nat (j := 2) rfl, _, _, rfl, rfl, _, _, rfl, rfl, (by show (0 : Int) < 2147483587; decide), ?_⟩
        have c0 := Int.emod_nonneg ((((n + s0) % 2147483629 * 48271 + 6997 * (n0 + 1) + 17) % 2147483647) * (((n + s0) % 2147483629 * 48271 + 6997 * (n0 + 1) + 17) % 2147483647) + 69621 * (((n + s0) % 2147483629 * 48271 + 6997 * (n0 + 1) + 17) % 2147483647) + (n0 + 1)) (show (2147483587 : Int) ≠ 0 by decide)
        have c1 := Int.emod_lt_of_pos ((((n + s0) % 2147483629 * 48271 + 6997 * (n0 + 1) + 17) % 2147483647) * (((n + s0) % 2147483629 * 48271 + 6997 * (n0 + 1) + 17) % 2147483647) + 69621 * (((n + s0) % 2147483629 * 48271 + 6997 * (n0 + 1) + 17) % 2147483647) + (n0 + 1)) (show (0 : Int) < 2147483587 by decide)
        refine ⟨_, rfl, .ref d, rfl, d, _, 1, 1, rfl, rfl, hd3, rfl, ?_⟩
        refine ⟨_, rfl, _, rfl, _, 40692, rfl, rfl, _, _, rfl, rfl, .inl ⟨by omega, by omega⟩, _, _, rfl, rfl, (by show (0 : Int) < 2147483563; decide), _, 64, rfl, rfl, ⟨by decide, by decide⟩, .int m, rfl, _, m, rfl, rfl, hm, ?_⟩
        refine q _ _ ⟨r, _, (n0 + 1), upd_same, ?_, by omega⟩ (fun b o h1 h2 e => ?_) (Int.emod_nonneg _ (by omega)) (Int.emod_lt_of_pos _ hm)
        · rw [upd_ne hcd]
          exact hc3
        · rw [upd_ne h1]
          exact kp3 b o h1 h2 e
end
end Ksec
set_option Elab.async false
set_option linter.all false
set_option maxRecDepth 100000
set_option maxHeartbeats 4000000
namespace Ksec
open PySem PySem.Spec PyProof.Rows L2
abbrev sNames : Stmt := topS 11
abbrev nNames : List Str := ["_law_deck_here", "_law_many", "_law_letters", "_law_kinds", "_law_mode", "_law_turn", "_law_base", "_law_size", "_law_at", "_law_k"]
theorem scNames : FnScope nNames ["_law_deck_here", "_law_many"] (defScope sNames) := ⟨rfl, rfl, rfl, by decide +kernel, rfl, by decide +kernel, by decide +kernel⟩
/-! letters -/
def Lt (z : Str) : Prop := ∀ c ∈ z.cps.toList, 97 ≤ c ∧ c ≤ 122
theorem lt_app {a b : Str} (h1 : Lt a) (h2 : Lt b) : Lt (a ++ b) := fun c hc => by
  have e : (a ++ b).cps.toList = a.cps.toList ++ b.cps.toList := by
    show (a.cps ++ b.cps).toList = _
    rw [Array.toList_append]
  rw [e] at hc
  exact (List.mem_append.mp hc).elim (h1 c) (h2 c)
theorem lt_cut {z : Str} (h : Lt z) (lo hi : Option Int) : Lt (cutS z lo hi) := fun c hc => by
  unfold cutS at hc
  exact h c (List.mem_of_mem_drop (List.mem_of_mem_take (by simpa using hc)))
theorem lt_one {c : Nat} (h : 97 ≤ c ∧ c ≤ 122) : Lt ⟨#[c]⟩ := fun x hx => by
  have e : x = c := by simpa using hx
  subst e
  exact h
theorem len_strL (z : Str) : z.length = z.cps.toList.length := by simp [Str.length]
theorem len_cut (z : Str) (lo hi : Option Int) : (cutS z lo hi).length = min (HT.sIx z.length z.length hi - HT.sIx z.length 0 lo) (z.length - HT.sIx z.length 0 lo) := by
  rw [len_strL]
  unfold cutS
  rw [List.length_take, List.length_drop, len_strL z]
theorem join_lt : ∀ ys : List Str, (∀ y ∈ ys, Lt y) → Lt (Str.join ("" : Str) ys)
  | [], _ => fun c hc => by simp [Str.join, Str.empty] at hc
  | [y], h => h y (List.mem_cons_self ..)
  | x :: y :: r, h => lt_app (lt_app (h x (List.mem_cons_self ..)) fun c hc => absurd hc (by decide +revert)) (join_lt (y :: r) fun z hz => h z (List.mem_cons_of_mem _ hz))
theorem join_len : ∀ ys : List Str, (∀ y ∈ ys, y.length = 1) → (Str.join ("" : Str) ys).length = ys.length
  | [], _ => rfl
  | [y], h => h y (List.mem_cons_self ..)
  | x :: y :: r, h => by
    have ih := join_len (y :: r) fun z hz => h z (List.mem_cons_of_mem _ hz)
    show (x ++ "" ++ Str.join "" (y :: r)).length = _
    rw [strLen_append, strLen_append, ih, h x (List.mem_cons_self ..)]
    show 1 + 0 + (r.length + 1) = r.length + 1 + 1
    omega
def letters : Str := "abcdefghijklmnopqrstuvwxyz"
theorem letter_at {i : Int} (h0 : 0 ≤ i) (h1 : i < 26) : ∃ c, atI letters.cps.toList i = some c ∧ 97 ≤ c ∧ c ≤ 122 := by
  have key : ∀ j : Fin 26, ∃ c, letters.cps.toList[j.val]? = some c ∧ 97 ≤ c ∧ c ≤ 122 := fun j => by
    have h : ∀ j : Fin 26, ((letters.cps.toList[j.val]?).any fun c => decide (97 ≤ c ∧ c ≤ 122)) = true := by decide +kernel
    have h2 := h j
    cases e : letters.cps.toList[j.val]? with
    | none =>
      rw [e] at h2
      cases h2
    | some c =>
      rw [e] at h2
      exact ⟨c, rfl, of_decide_eq_true h2⟩
  obtain ⟨c, e, hc⟩ := key ⟨i.toNat, by omega⟩
  refine ⟨c, ?_, hc⟩
  have := atI_nat e
  rw [show ((i.toNat : Nat) : Int) = i by omega] at this
  exact this
def kinds : List Str := ["same", "both", "call", "either", "fresh", "unlike", "number", "word", "absent", "x", "put", "go"]
theorem kinds_wd : ∀ z ∈ kinds, Wd z := by
  have h : kinds.all (fun z => decide (1 ≤ z.length) && decide (z.length ≤ 8) && z.cps.toList.all fun c => decide (97 ≤ c ∧ c ≤ 122)) = true := by decide +kernel
  intro z hz
  have h2 := List.all_eq_true.mp h z hz
  simp only [Bool.and_eq_true, decide_eq_true_eq, List.all_eq_true] at h2
  exact ⟨h2.1.1, h2.1.2, h2.2⟩
theorem kind_at {i : Int} (h0 : 0 ≤ i) (h1 : i < 12) : ∃ z, atI (kinds.map V.str) i = some (.str z) ∧ Wd z := by
  have hl : i.toNat < kinds.length := by
    show i.toNat < 12
    omega
  refine ⟨kinds[i.toNat], ?_, kinds_wd _ (List.getElem_mem hl)⟩
  have e : (kinds.map V.str)[i.toNat]? = some (.str kinds[i.toNat]) := by
    rw [List.getElem?_map, List.getElem?_eq_getElem hl]
    rfl
  have := atI_nat e
  rw [show ((i.toNat : Nat) : Int) = i by omega] at this
  exact this
theorem Kp.refl (d c : Addr) (H : Hp) : Kp d c H H := fun _ _ _ _ e => e
theorem Kp.trans {d c : Addr} {H H1 H2 : Hp} (a : Kp d c H H1) (b : Kp d c H1 H2) : Kp d c H H2 := fun x o h1 h2 e => b x o h1 h2 (a x o h1 h2 e)
theorem kpSame {d c : Addr} {H H1 : Hp} (a : Same H H1) : Kp d c H H1 := fun x o _ _ e => a x o e
theorem Dk.same {d c : Addr} {H H1 : Hp} (h : Dk H d c) (a : Same H H1) : Dk H1 d c := let ⟨ns, s, n, h1, h2, h3⟩ := h; ⟨ns, s, n, a _ _ h1, a _ _ h2, h3⟩
theorem Dk.ne1 {d c p : Addr} {H : Hp} (h : Dk H d c) (e : H p = none) : p ≠ d := let ⟨_, _, _, h1, _⟩ := h; (ne_of_none h1 e).symm
theorem Dk.ne2 {d c p : Addr} {H : Hp} (h : Dk H d c) (e : H p = none) : p ≠ c := let ⟨_, _, _, _, h2, _⟩ := h; (ne_of_none h2 e).symm
theorem yes {σ : L2.St} {H : Hp} {P R : Hp → Prop} (h : P H) : tYes σ H fun b H3 => if b = true then P H3 else R H3 := by
  show if (true = true) then P H else R H
  rw [if_pos rfl]
  exact h
section
variable {P : Program} {w : World} {K : PySem.W.Frag} {mg : Str → Option Value} {base : Heap}
def spNames : Sp := fun vs H Q _ => ∃ (d c : Addr) (m : Nat), vs = [.ref d, .int m] ∧ Dk H d c ∧ m ≤ 8 ∧
  ∀ (H' : Hp) (p : Addr) (zs : List Str), Dk H' d c → Kp d c H H' → H p = none → p ≠ d → p ≠ c → H' p = some (.lst (zs.map V.str)) → zs.length = m → (∀ z ∈ zs, Wd z) → Q (.ref p) H'
theorem ok_names {f fD : Addr} {fd fdD : FuncData} {k : Nat} (F : Fun K "_law_names" "_law_names" sNames f fd) (GD : FnOk P w K mg base CX0 (k + 1) fD fdD ["_law_deck_here", "_law_many"] spDraw) (bD : Binds K fdD ["_law_deck_here", "_law_many"] [])
    (gD : mg "_law_draw" = some (.ref fD)) (kD : PySem.W.keepIn K (.ref fD) = true) (m1 : mg "range" = none) : FnOk P w K mg base CX0 (k + 2) f fd ["_law_deck_here", "_law_many"] spNames := by
  refine F.ok scNames (fun vs H Q E h => ?_) (fun cdv A outer s H vs Q E hr h => ?_)
  · obtain ⟨d, c, m, rfl, _⟩ := h
    rfl
  · obtain ⟨d, c, m, rfl, hD, hm, q⟩ := h
    refine ⟨_, pss_cons (ps_set (i := 2) scNames.nd rfl (.inr rfl) pe_str)
      (pss_cons (ps_set (i := 3) scNames.nd rfl (.inr rfl) (pe_lst (pa_cons pe_str (pa_cons pe_str (pa_cons pe_str (pa_cons pe_str (pa_cons pe_str (pa_cons pe_str (pa_cons pe_str (pa_cons pe_str (pa_cons pe_str (pa_cons pe_str (pa_cons pe_str (pa_cons pe_str pa_nil))))))))))))))
      (pss_cons (ps_set (i := 4) scNames.nd rfl (.inl rfl) (pe_call GD hr (by rfl) gD kD bD .nil pass0 (pa_cons (pv 0) (pa_cons pe_int pa_nil))))
      (pss_cons (ps_set (i := 5) scNames.nd rfl (.inr rfl) (pe_call GD hr (by rfl) gD kD bD .nil pass0 (pa_cons (pv 0) (pa_cons pe_int pa_nil))))
      (pss_cons (ps_set (i := 6) scNames.nd rfl (.inr rfl) (pe_join pe_str
        (pe_lc (own := [("_law_k", 9)]) (g := gName 9) (tt := tYes) rfl scNames.nd (pi_range1 (by rfl) m1 (pa_cons pe_int pa_nil)) (blkOk_by (own := [("_law_k", 9)]) (N := nNames) (sc := defScope sNames) (by decide +kernel))
          (fun _ _ _ _ _ => pg_name (i := 9) scNames.nd rfl (Or.inl rfl)) (fun _ _ _ _ _ => pts_nil) (fun _ _ _ _ _ => pe_ix ix_str (pv 2) (pe_call GD hr (by rfl) gD kD bD .nil pass0 (pa_cons (pv 0) (pa_cons pe_int pa_nil))) (fun _ _ => rfl)))))
      (pss_cons (ps_set (i := 7) scNames.nd rfl (.inr rfl) (pe_op op_add pe_int (pe_call GD hr (by rfl) gD kD bD .nil pass0 (pa_cons (pv 0) (pa_cons pe_int pa_nil)))))
      (pss_cons (ps_set (i := 8) scNames.nd rfl (.inr rfl) (pe_call GD hr (by rfl) gD kD bD .nil pass0 (pa_cons (pv 0) (pa_cons (pv 7) pa_nil))))
      (pss_cons (ps_if (pt_cmpR op_eq (pv 4) pe_int (nomark _)) (pss_one (ps_ret
        (pe_lc (own := [("_law_k", 9)]) (g := gName 9) (tt := tYes) rfl scNames.nd (pi_range1 (by rfl) m1 (pa_cons (pv 1) pa_nil)) (blkOk_by (own := [("_law_k", 9)]) (N := nNames) (sc := defScope sNames) (by decide +kernel))
          (fun _ _ _ _ _ => pg_name (i := 9) scNames.nd rfl (Or.inl rfl)) (fun _ _ _ _ _ => pts_nil) (fun _ _ _ _ _ => pe_ix (r := rIxL K) ix_list (pv 3) (pe_op op_mod (pe_op op_add (pv 5) (pe_op op_mul pe_int (pv 9))) pe_int) (fun _ _ => rfl))))) pss_nil)
      (pss_cons (ps_if (PW.pt (pw_and (pt_cmpR op_eq (pv 4) pe_int (nomark _)) (pw_and1 (pt_cmpR op_lt (pv 1) pe_int (nomark _))))) (pss_one (ps_ret
        (pe_lc (own := [("_law_k", 9)]) (g := gName 9) (tt := tYes) rfl scNames.nd (pi_range1 (by rfl) m1 (pa_cons (pv 1) pa_nil)) (blkOk_by (own := [("_law_k", 9)]) (N := nNames) (sc := defScope sNames) (by decide +kernel))
          (fun _ _ _ _ _ => pg_name (i := 9) scNames.nd rfl (Or.inl rfl)) (fun _ _ _ _ _ => pts_nil) (fun _ _ _ _ _ => pe_slice sl_str (pv 6) po_none (po_some (pe_op op_add pe_int (pv 9))))))) pss_nil)
      (pss_one (ps_ret
        (pe_lc (own := [("_law_k", 9)]) (g := gName 9) (tt := tYes) rfl scNames.nd (pi_range1 (by rfl) m1 (pa_cons (pv 1) pa_nil)) (blkOk_by (own := [("_law_k", 9)]) (N := nNames) (sc := defScope sNames) (by decide +kernel))
          (fun _ _ _ _ _ => pg_name (i := 9) scNames.nd rfl (Or.inl rfl)) (fun _ _ _ _ _ => pts_nil) (fun _ _ _ _ _ => pe_op op_add_str (pe_op op_add_str (pe_slice sl_str (pv 6) po_none (po_some (pv 8)))
            (pe_ix ix_str (pv 2) (pe_op op_mod (pe_op op_add (pv 5) (pe_op op_mul pe_int (pv 9))) pe_int) (fun _ _ => rfl))) (pe_slice sl_str (pv 6) (po_some (pe_op op_add (pv 8) pe_int)) (po_some (pv 7))))))))))))))), ?_⟩
    refine ⟨(by show 12 ≤ sizeLine; decide), fun kl nk => ?_⟩
    have hk1 : upd H kl (.lst (kinds.map V.str)) kl = some (.lst (kinds.map V.str)) := upd_same
    have s1 : Same H (upd H kl (.lst (kinds.map V.str))) := same_upd nk
    have hD1 := hD.same s1
    have kp1 : Kp d c H (upd H kl (.lst (kinds.map V.str))) := kpSame s1
    have nk1 := hD.ne1 nk
    have nk2 := hD.ne2 nk
    show tSeq _ _ _ _ (upd H kl (.lst (kinds.map V.str)))
    generalize upd H kl (.lst (kinds.map V.str)) = H1 at *
    refine ⟨.ref d, rfl, d, c, 4, rfl, hD1, by decide, by decide, fun H2 mode hD2 kp2 b0 b1 => ?_⟩
    refine ⟨.ref d, rfl, d, c, 26, rfl, hD2, by decide, by decide, fun H3 turn hD3 kp3 b2 b3 => ?_⟩
    have hk3 := kp3 _ _ nk1 nk2 (kp2 _ _ nk1 nk2 hk1)
    have kq3 := kp1.trans (kp2.trans kp3)
    refine ⟨⟨_, rfl⟩, 8, rfl, by decide, by decide, fun D nD => ?_⟩
    have nD1 := hD3.ne1 nD
    have nD2 := hD3.ne2 nD
    refine lc_range (lo := 0) (n := 8) (fun i H' => ∃ ys : List Str, H' D = some (.lst (ys.map V.str)) ∧ ys.length = i ∧ (∀ y ∈ ys, y.length = 1 ∧ Lt y) ∧ Dk H' d c ∧ Kp d c H3 H') ?_ (fun i H4 hi h4 => ?_) (fun H4 h4 => ?_)
    · exact ⟨[], upd_same, rfl, fun y hy => absurd hy List.not_mem_nil, hD3.same (same_upd nD), kpSame (same_upd nD)⟩
    · obtain ⟨ys, e1, e2, e3, e4, e5⟩ := h4
      refine ⟨rfl, yes ?_⟩
      refine ⟨.str letters, rfl, .ref d, rfl, d, c, 26, rfl, e4, by decide, by decide, fun H5 r hD5 kp5 b4 b5 => ?_⟩
      obtain ⟨ch, hc1, hc2⟩ := letter_at b4 b5
      refine ⟨letters, r, ch, rfl, rfl, (by decide +kernel), hc1, _, kp5 _ _ nD1 nD2 e1, ?_, ys ++ [⟨#[ch]⟩], ?_, ?_, ?_, ?_, ?_⟩
      · rw [List.length_map, e2]
        exact Nat.lt_of_lt_of_le hi (by decide)
      · rw [upd_same, List.map_append]
        rfl
      · rw [List.length_append, e2]
        rfl
      · intro y hy
        rcases List.mem_append.mp hy with h | h
        · exact e3 y h
        · rw [List.mem_singleton.mp h]
          exact ⟨rfl, lt_one hc2⟩
      · obtain ⟨ns, s', n', g1, g2, g3⟩ := hD5
        exact ⟨ns, s', n', by rw [upd_ne nD1.symm]; exact g1, by rw [upd_ne nD2.symm]; exact g2, g3⟩
      · intro b o h1 h2 e
        by_cases hb : b = D
        · rw [hb, nD] at e
          cases e
        · rw [upd_ne hb]
          exact kp5 _ _ h1 h2 (e5 _ _ h1 h2 e)
    obtain ⟨ys, e1, e2, e3, hD4, kp4⟩ := h4
    have hsum : (ys.map (·.length)).sum ≤ 8 := by
      have h : ∀ l : List Str, (∀ y ∈ l, y.length = 1) → (l.map (·.length)).sum = l.length := by
        intro l
        induction l with
        | nil => intro _; rfl
        | cons y r ih =>
          intro hl
          rw [List.map_cons, List.sum_cons, ih fun z hz => hl z (List.mem_cons_of_mem _ hz), hl y (List.mem_cons_self ..), List.length_cons]
          omega
      rw [h ys fun y hy => (e3 y hy).1, e2]
      omega
    refine ⟨("" : Str), D, ys, rfl, rfl, .inl (.inl (.inl e1)), ?_, ?_⟩
    · show (ys.map (·.length)).sum + ys.length * 0 ≤ 16777216
      omega
    have hb1 : (Txt.join ("" : Str) ys).length = 8 := by
      rw [TL.join_eq, join_len ys fun y hy => (e3 y hy).1, e2]
    have hb2 : Lt (Txt.join ("" : Str) ys) := by
      rw [TL.join_eq]
      exact join_lt ys fun y hy => (e3 y hy).2
    have hk4 := kp4 _ _ nk1 nk2 hk3
    have kq4 := kq3.trans kp4
    generalize Txt.join ("" : Str) ys = bse at *
    refine ⟨.ref d, rfl, d, c, 8, rfl, hD4, by decide, by decide, fun H5 r hD5 kp5 b4 b5 => ⟨1, r, rfl, rfl, ?_⟩⟩
    refine ⟨.ref d, rfl, .int (1 + r), rfl, d, c, 1 + r, rfl, hD5, by omega, ?_, fun H6 at6 hD6 kp6 b6 b7 => ?_⟩
    · have : (1 + r).natAbs ≤ 8 := by omega
      exact Nat.lt_of_le_of_lt this (by decide)
    have hk6 := kp6 _ _ nk1 nk2 (kp5 _ _ nk1 nk2 hk4)
    have kq6 := kq4.trans (kp5.trans kp6)
    have free6 : ∀ p, p ≠ d → p ≠ c → H6 p = none → H p = none := fun p h1 h2 h => by
      cases e : H p with
      | none => rfl
      | some o =>
        rw [kq6 p o h1 h2 e] at h
        cases h
    refine ⟨.int mode, rfl, rfl, _, rfl, ite2 (fun _ => ?_) (fun _ => ?_)⟩
    · refine ⟨.int m, rfl, m, rfl, by omega, by omega, fun D2 nD' => ?_⟩
      have nD3 := hD6.ne1 nD'
      have nD4 := hD6.ne2 nD'
      refine lc_range (lo := 0) (n := m) (fun i H' => ∃ zs : List Str, H' D2 = some (.lst (zs.map V.str)) ∧ zs.length = i ∧ (∀ z ∈ zs, Wd z) ∧ Dk H' d c ∧ Kp d c H6 H') ?_ (fun i H7 hi h7 => ?_) (fun H7 h7 => ?_)
      · exact ⟨[], upd_same, rfl, fun y hy => absurd hy List.not_mem_nil, hD6.same (same_upd nD'), kpSame (same_upd nD')⟩
      · obtain ⟨zs, g1, g2, g3, g4, g5⟩ := h7
        have last : ∀ z : Str, Wd z → ∃ acc, H7 D2 = some (.lst acc) ∧ acc.length < sizeLine ∧ ∃ zs : List Str, upd H7 D2 (.lst (acc ++ [V.str z])) D2 = some (.lst (zs.map V.str)) ∧ zs.length = i + 1 ∧ (∀ z ∈ zs, Wd z) ∧ Dk (upd H7 D2 (.lst (acc ++ [V.str z]))) d c ∧ Kp d c H6 (upd H7 D2 (.lst (acc ++ [V.str z]))) := fun z hz => by
          refine ⟨_, g1, ?_, zs ++ [z], ?_, ?_, ?_, ?_, ?_⟩
          · rw [List.length_map, g2]
            exact Nat.lt_of_lt_of_le hi (Nat.le_trans hm (by decide))
          · rw [upd_same, List.map_append]
            rfl
          · rw [List.length_append, g2]
            rfl
          · intro y hy
            rcases List.mem_append.mp hy with h | h
            · exact g3 y h
            · rw [List.mem_singleton.mp h]
              exact hz
          · obtain ⟨ns, s', n', q1, q2, q3⟩ := g4
            exact ⟨ns, s', n', by rw [upd_ne nD3.symm]; exact q1, by rw [upd_ne nD4.symm]; exact q2, q3⟩
          · intro b o h1 h2 e
            by_cases hb : b = D2
            · rw [hb, nD'] at e
              cases e
            · rw [upd_ne hb]
              exact g5 _ _ h1 h2 e
        have m0 := Int.emod_nonneg (turn + 5 * (0 + (i : Int))) (show (12 : Int) ≠ 0 by decide)
        have m1' := Int.emod_lt_of_pos (turn + 5 * (0 + (i : Int))) (show (0 : Int) < 12 by decide)
        obtain ⟨z, hz1, hz2⟩ := kind_at m0 m1'
        refine ⟨rfl, yes ?_⟩
        exact ⟨.ref kl, rfl, .int turn, rfl, _, rfl, 5, _, rfl, rfl, .inl ⟨by decide, by decide⟩, turn, _, rfl, rfl, _, 12, rfl, rfl, (by show (0 : Int) < 12; decide), kl, _, _, _, rfl, rfl, .inl (.inl (g5 _ _ nk1 nk2 hk6)), hz1, last z hz2⟩
      · obtain ⟨zs, g1, g2, g3, g4, g5⟩ := h7
        exact q H7 D2 zs g4 (kq6.trans g5) (free6 D2 nD3 nD4 nD') nD3 nD4 g1 g2 g3
    refine ⟨.int mode, rfl, rfl, _, rfl, ite2 (fun _ => ?_) (fun _ => ?_)⟩
    · refine ⟨.int m, rfl, _, _, rfl, rfl, _, rfl, ?_⟩
      refine ite2 (fun _ => ?_) (fun e => absurd (decide_eq_true (show (m : Int) < 9 by omega)) e)
      · refine ⟨.int m, rfl, m, rfl, by omega, by omega, fun D2 nD' => ?_⟩
        have nD3 := hD6.ne1 nD'
        have nD4 := hD6.ne2 nD'
        refine lc_range (lo := 0) (n := m) (fun i H' => ∃ zs : List Str, H' D2 = some (.lst (zs.map V.str)) ∧ zs.length = i ∧ (∀ z ∈ zs, Wd z) ∧ Dk H' d c ∧ Kp d c H6 H') ?_ (fun i H7 hi h7 => ?_) (fun H7 h7 => ?_)
        · exact ⟨[], upd_same, rfl, fun y hy => absurd hy List.not_mem_nil, hD6.same (same_upd nD'), kpSame (same_upd nD')⟩
        · obtain ⟨zs, g1, g2, g3, g4, g5⟩ := h7
          have last : ∀ z : Str, Wd z → ∃ acc, H7 D2 = some (.lst acc) ∧ acc.length < sizeLine ∧ ∃ zs : List Str, upd H7 D2 (.lst (acc ++ [V.str z])) D2 = some (.lst (zs.map V.str)) ∧ zs.length = i + 1 ∧ (∀ z ∈ zs, Wd z) ∧ Dk (upd H7 D2 (.lst (acc ++ [V.str z]))) d c ∧ Kp d c H6 (upd H7 D2 (.lst (acc ++ [V.str z]))) := fun z hz => by
            refine ⟨_, g1, ?_, zs ++ [z], ?_, ?_, ?_, ?_, ?_⟩
            · rw [List.length_map, g2]
              exact Nat.lt_of_lt_of_le hi (Nat.le_trans hm (by decide))
            · rw [upd_same, List.map_append]
              rfl
            · rw [List.length_append, g2]
              rfl
            · intro y hy
              rcases List.mem_append.mp hy with h | h
              · exact g3 y h
              · rw [List.mem_singleton.mp h]
                exact hz
            · obtain ⟨ns, s', n', q1, q2, q3⟩ := g4
              exact ⟨ns, s', n', by rw [upd_ne nD3.symm]; exact q1, by rw [upd_ne nD4.symm]; exact q2, q3⟩
            · intro b o h1 h2 e
              by_cases hb : b = D2
              · rw [hb, nD'] at e
                cases e
              · rw [upd_ne hb]
                exact g5 _ _ h1 h2 e
          refine ⟨rfl, yes ?_⟩
          refine ⟨_, rfl, _, rfl, 1, _, rfl, rfl, _, rfl, bse, rfl, ?_, last _ ?_⟩
          · rw [hb1]
            decide
          · refine ⟨?_, ?_, lt_cut hb2 _ _⟩
            · rw [len_cut, HT.sIx_none, hb1, show (1 + (0 + (i : Int))) = ((1 + i : Nat) : Int) by omega, HT.sIx_nat]
              omega
            · rw [len_cut, HT.sIx_none, hb1, show (1 + (0 + (i : Int))) = ((1 + i : Nat) : Int) by omega, HT.sIx_nat]
              omega
        · obtain ⟨zs, g1, g2, g3, g4, g5⟩ := h7
          exact q H7 D2 zs g4 (kq6.trans g5) (free6 D2 nD3 nD4 nD') nD3 nD4 g1 g2 g3
    · refine iteF ?_
      refine ⟨.int m, rfl, m, rfl, by omega, by omega, fun D2 nD' => ?_⟩
      have nD3 := hD6.ne1 nD'
      have nD4 := hD6.ne2 nD'
      refine lc_range (lo := 0) (n := m) (fun i H' => ∃ zs : List Str, H' D2 = some (.lst (zs.map V.str)) ∧ zs.length = i ∧ (∀ z ∈ zs, Wd z) ∧ Dk H' d c ∧ Kp d c H6 H') ?_ (fun i H7 hi h7 => ?_) (fun H7 h7 => ?_)
      · exact ⟨[], upd_same, rfl, fun y hy => absurd hy List.not_mem_nil, hD6.same (same_upd nD'), kpSame (same_upd nD')⟩
      · obtain ⟨zs, g1, g2, g3, g4, g5⟩ := h7
        have last : ∀ z : Str, Wd z → ∃ acc, H7 D2 = some (.lst acc) ∧ acc.length < sizeLine ∧ ∃ zs : List Str, upd H7 D2 (.lst (acc ++ [V.str z])) D2 = some (.lst (zs.map V.str)) ∧ zs.length = i + 1 ∧ (∀ z ∈ zs, Wd z) ∧ Dk (upd H7 D2 (.lst (acc ++ [V.str z]))) d c ∧ Kp d c H6 (upd H7 D2 (.lst (acc ++ [V.str z]))) := fun z hz => by
          refine ⟨_, g1, ?_, zs ++ [z], ?_, ?_, ?_, ?_, ?_⟩
          · rw [List.length_map, g2]
            exact Nat.lt_of_lt_of_le hi (Nat.le_trans hm (by decide))
          · rw [upd_same, List.map_append]
            rfl
          · rw [List.length_append, g2]
            rfl
          · intro y hy
            rcases List.mem_append.mp hy with h | h
            · exact g3 y h
            · rw [List.mem_singleton.mp h]
              exact hz
          · obtain ⟨ns, s', n', q1, q2, q3⟩ := g4
            exact ⟨ns, s', n', by rw [upd_ne nD3.symm]; exact q1, by rw [upd_ne nD4.symm]; exact q2, q3⟩
          · intro b o h1 h2 e
            by_cases hb : b = D2
            · rw [hb, nD'] at e
              cases e
            · rw [upd_ne hb]
              exact g5 _ _ h1 h2 e
        have m0 := Int.emod_nonneg (turn + 7 * (0 + (i : Int))) (show (26 : Int) ≠ 0 by decide)
        have m1' := Int.emod_lt_of_pos (turn + 7 * (0 + (i : Int))) (show (0 : Int) < 26 by decide)
        obtain ⟨ch, hz1, hz2⟩ := letter_at m0 m1'
        have l1 : (cutS bse none (some at6)).length = at6.toNat := by
          rw [len_cut, HT.sIx_none, hb1, show at6 = ((at6.toNat : Nat) : Int) by omega, HT.sIx_nat]
          omega
        have l2 : (cutS bse (some (at6 + 1)) (some (1 + r))).length = (1 + r).toNat - (at6 + 1).toNat := by
          rw [len_cut, hb1, show at6 + 1 = (((at6 + 1).toNat : Nat) : Int) by omega, show 1 + r = (((1 + r).toNat : Nat) : Int) by omega, HT.sIx_nat, HT.sIx_nat]
          omega
        have l3 : (⟨#[ch]⟩ : Str).length = 1 := rfl
        refine ⟨rfl, yes ?_⟩
        refine ⟨_, rfl, _, rfl, at6, rfl, bse, rfl, ?_, .str letters, rfl, .int turn, rfl, _, rfl, 7, _, rfl, rfl, .inl ⟨by decide, by decide⟩, turn, _, rfl, rfl, _, 26, rfl, rfl, (by show (0 : Int) < 26; decide), letters, _, ch, rfl, rfl, (by decide +kernel), hz1, _, _, rfl, rfl, ?_, _, rfl, _, rfl, at6, 1, rfl, rfl, _, rfl, _, rfl, 1 + r, rfl, bse, rfl, ?_, _, _, rfl, rfl, ?_, last _ ⟨?_, ?_, ?_⟩⟩
        · rw [hb1]
          decide
        · rw [l1, l3]
          exact Nat.le_trans (show at6.toNat + 1 ≤ 100 by omega) (by decide)
        · rw [hb1]
          decide
        · rw [strLen_append, l1, l2, l3]
          exact Nat.le_trans (show at6.toNat + 1 + ((1 + r).toNat - (at6 + 1).toNat) ≤ 100 by omega) (by decide)
        · rw [strLen_append, strLen_append, l1, l2, l3]
          omega
        · rw [strLen_append, strLen_append, l1, l2, l3]
          omega
        · exact lt_app (lt_app (lt_cut hb2 _ _) (lt_one hz2)) (lt_cut hb2 _ _)
      · obtain ⟨zs, g1, g2, g3, g4, g5⟩ := h7
        exact q H7 D2 zs g4 (kq6.trans g5) (free6 D2 nD3 nD4 nD') nD3 nD4 g1 g2 g3
end
end Ksec
set_option Elab.async false
set_option linter.all false
set_option maxRecDepth 100000
set_option maxHeartbeats 4000000
namespace Ksec
open PySem PySem.Spec PyProof.Rows L2
abbrev sNumber : Stmt := topS 12
abbrev sTip : Stmt := topS 13
abbrev sTerm : Stmt := topS 14
abbrev sAny : Stmt := topS 15
theorem scNumber : FnScope ["_law_deck_here", "_law_far"] ["_law_deck_here"] (defScope sNumber) := ⟨rfl, rfl, rfl, by decide +kernel, rfl, by decide +kernel, by decide +kernel⟩
theorem scTip : FnScope ["_law_deck_here", "_law_words", "_law_unknowns", "_law_kind"] ["_law_deck_here", "_law_words", "_law_unknowns"] (defScope sTip) := ⟨rfl, rfl, rfl, by decide +kernel, rfl, by decide +kernel, by decide +kernel⟩
theorem scTerm : FnScope ["_law_deck_here", "_law_words", "_law_unknowns", "_law_deep", "_law_left", "_law_kind", "_law_head"] ["_law_deck_here", "_law_words", "_law_unknowns", "_law_deep", "_law_left"] (defScope sTerm) :=
  ⟨rfl, rfl, rfl, by decide +kernel, rfl, by decide +kernel, by decide +kernel⟩
theorem scAny : FnScope ["_law_deck_here", "_law_words", "_law_unknowns", "_law_kind", "_law_term_here", "_law_k", "_law_tip_here"] ["_law_deck_here", "_law_words", "_law_unknowns"] (defScope sAny) :=
  ⟨rfl, rfl, rfl, by decide +kernel, rfl, by decide +kernel, by decide +kernel⟩
theorem item_at {xs : List V} {i : Int} (h0 : 0 ≤ i) (h1 : i < xs.length) : ∃ v, v ∈ xs ∧ atI xs i = some v := by
  have hl : i.toNat < xs.length := by omega
  refine ⟨xs[i.toNat], List.getElem_mem hl, ?_⟩
  have := atI_nat (List.getElem?_eq_getElem hl)
  rw [show ((i.toNat : Nat) : Int) = i by omega] at this
  exact this
theorem Dk.lists {d c : Addr} {H : Hp} (h : Dk H d c) : (∃ xs, H d = some (.lst xs)) ∧ ∃ xs, H c = some (.lst xs) := let ⟨_, _, _, h1, h2, _⟩ := h; ⟨⟨_, h1⟩, ⟨_, h2⟩⟩
theorem kpTup {d c : Addr} {H H' : Hp} (h : Dk H d c) (k : Kp d c H H') : Tup H H' := fun b xs e => by
  obtain ⟨⟨x1, h1⟩, ⟨x2, h2⟩⟩ := h.lists
  exact k b _ (ne_of e h1 (by intro z; cases z)) (ne_of e h2 (by intro z; cases z)) e
section
variable {P : Program} {w : World} {K : PySem.W.Frag} {mg : Str → Option Value} {base : Heap}
def spNumber : Sp := fun vs H Q _ => ∃ (d c : Addr), vs = [.ref d] ∧ Dk H d c ∧ ∀ H' i, Dk H' d c → Kp d c H H' → i.natAbs ≤ 1000000000000 → Q (.int i) H'
theorem ok_number {f fD : Addr} {fd fdD : FuncData} {k : Nat} (F : Fun K "_law_number" "_law_number" sNumber f fd) (GD : FnOk P w K mg base CX0 (k + 1) fD fdD ["_law_deck_here", "_law_many"] spDraw) (bD : Binds K fdD ["_law_deck_here", "_law_many"] [])
    (gD : mg "_law_draw" = some (.ref fD)) (kD : PySem.W.keepIn K (.ref fD) = true) : FnOk P w K mg base CX0 (k + 2) f fd ["_law_deck_here"] spNumber := by
  refine F.ok scNumber (fun vs H Q E h => ?_) (fun cdv A outer s H vs Q E hr h => ?_)
  · obtain ⟨d, c, rfl, _⟩ := h
    rfl
  · obtain ⟨d, c, rfl, hD, q⟩ := h
    refine ⟨_, pss_cons (ps_set (i := 1) scNumber.nd rfl (.inl rfl) (pe_op op_add (pe_op op_mul (pe_call GD hr (by rfl) gD kD bD .nil pass0 (pa_cons (pv 0) (pa_cons (pe_op op_pow pe_int pe_int) pa_nil))) (pe_op op_pow pe_int pe_int))
        (pe_call GD hr (by rfl) gD kD bD .nil pass0 (pa_cons (pv 0) (pa_cons (pe_op op_pow pe_int pe_int) pa_nil)))))
      (pss_one (ps_ret (pe_ix ix_list (pe_lst (pa_cons pe_int (pa_cons pe_int (pa_cons pe_int (pa_cons pe_int (pa_cons pe_int (pa_cons pe_int (pa_cons pe_int (pa_cons (pe_un un_neg pe_int) (pa_cons (pe_un un_neg pe_int)
        (pa_cons (pe_op op_pow pe_int pe_int) (pa_cons (pv 1) (pa_cons (pe_op op_sub pe_int (pv 1)) pa_nil)))))))))))))
        (pe_call GD hr (by rfl) gD kD bD .nil pass0 (pa_cons (pv 0) (pa_cons pe_int pa_nil))) (fun _ _ => rfl)))), ?_⟩
    refine ⟨.ref d, rfl, 10, 6, rfl, rfl, ⟨by decide, by decide, by decide⟩, d, c, _, rfl, hD, by decide, by decide, fun H1 a hD1 kp1 a0 a1 => ?_⟩
    refine ⟨10, 6, rfl, rfl, ⟨by decide, by decide, by decide⟩, a, _, rfl, rfl, .inr ⟨by decide, by decide⟩, ?_⟩
    refine ⟨.ref d, rfl, 10, 6, rfl, rfl, ⟨by decide, by decide, by decide⟩, d, c, _, rfl, hD1, by decide, by decide, fun H2 b hD2 kp2 b0 b1 => ?_⟩
    have a2 : a < 1000000 := a1
    have b2 : b < 1000000 := b1
    refine ⟨_, b, rfl, rfl, ?_⟩
    refine ⟨1, rfl, 10, rfl, 10, 12, rfl, rfl, ⟨by decide, by decide, by decide⟩, _, rfl, _, rfl, 0, _, rfl, rfl, (by show 12 ≤ sizeLine; decide), fun p np => ?_⟩
    have n1 := hD2.ne1 np
    have n2 := hD2.ne2 np
    refine ⟨.ref d, rfl, d, c, 12, rfl, hD2.same (same_upd np), by decide, by decide, fun H3 r hD3 kp3 r0 r1 => ?_⟩
    have hp : H3 p = some (.lst (([0, 1, 2, 9, 10, 99, 100, -1, -10, 10 ^ (12 : Int).toNat, a * 10 ^ (6 : Int).toNat + b, 0 - (a * 10 ^ (6 : Int).toNat + b)] : List Int).map V.int)) := kp3 _ _ n1 n2 upd_same
    obtain ⟨v, hv, ev⟩ := item_at (xs := ([0, 1, 2, 9, 10, 99, 100, -1, -10, 10 ^ (12 : Int).toNat, a * 10 ^ (6 : Int).toNat + b, 0 - (a * 10 ^ (6 : Int).toNat + b)] : List Int).map V.int) r0 r1
    obtain ⟨i, hi, rfl⟩ := List.mem_map.mp hv
    refine ⟨p, _, r, _, rfl, rfl, .inl (.inl hp), ev, q H3 i hD3 (kp1.trans (kp2.trans ((kpSame (same_upd np)).trans kp3))) ?_⟩
    have e12 : (10 : Int) ^ (12 : Int).toNat = 1000000000000 := rfl
    have e6 : (10 : Int) ^ (6 : Int).toNat = 1000000 := rfl
    rw [e12, e6] at hi
    simp only [List.mem_cons, List.not_mem_nil, or_false] at hi
    omega
def Tip (t : Tm) : Prop := t.ok ∧ t.depth = 1 ∧ t.size = 1
/-- the words at wl, the unknowns' numbers at ul -/
structure Src (H : Hp) (d c wl ul : Addr) (zs : List Str) (us : List Int) : Prop where
  w : H wl = some (.lst (zs.map V.str))
  u : H ul = some (.lst (us.map V.int))
  w1 : wl ≠ d
  w2 : wl ≠ c
  u1 : ul ≠ d
  u2 : ul ≠ c
  wd : ∀ z ∈ zs, Wd z
  zn : 0 < zs.length
  zl : zs.length ≤ 100
  ul : us.length ≤ 100
  ub : ∀ n ∈ us, 0 ≤ n ∧ n ≤ 999
theorem Src.keep {H H' : Hp} {d c wl ul : Addr} {zs : List Str} {us : List Int} (S : Src H d c wl ul zs us) (k : Kp d c H H') : Src H' d c wl ul zs us :=
  ⟨k _ _ S.w1 S.w2 S.w, k _ _ S.u1 S.u2 S.u, S.w1, S.w2, S.u1, S.u2, S.wd, S.zn, S.zl, S.ul, S.ub⟩
def spTip : Sp := fun vs H Q _ => ∃ (d c wl ul : Addr) (zs : List Str) (us : List Int), vs = [.ref d, .ref wl, .ref ul] ∧ Dk H d c ∧ Src H d c wl ul zs us ∧ ∀ H' x t, Dk H' d c → Kp d c H H' → IsTm H' x t → Tip t → Q x H'
theorem ok_tip {f fD fN : Addr} {fd fdD fdN : FuncData} {k : Nat} (F : Fun K "_law_tip" "_law_tip" sTip f fd) (GD : FnOk P w K mg base CX0 (k + 1) fD fdD ["_law_deck_here", "_law_many"] spDraw) (bD : Binds K fdD ["_law_deck_here", "_law_many"] [])
    (gD : mg "_law_draw" = some (.ref fD)) (kD : PySem.W.keepIn K (.ref fD) = true) (GN : FnOk P w K mg base CX0 (k + 2) fN fdN ["_law_deck_here"] spNumber) (bN : Binds K fdN ["_law_deck_here"] [])
    (gN : mg "_law_number" = some (.ref fN)) (kN : PySem.W.keepIn K (.ref fN) = true) (ml : mg "len" = none) : FnOk P w K mg base CX0 (k + 3) f fd ["_law_deck_here", "_law_words", "_law_unknowns"] spTip := by
  refine F.ok scTip (fun vs H Q E h => ?_) (fun cdv A outer s H vs Q E hr h => ?_)
  · obtain ⟨d, c, wl, ul, zs, us, rfl, _⟩ := h
    rfl
  · obtain ⟨d, c, wl, ul, zs, us, rfl, hD, S, q⟩ := h
    have hr1 := hr.mono (show k + 1 ≤ k + 2 by omega)
    refine ⟨_, pss_cons (ps_set (i := 3) scTip.nd rfl (.inl rfl) (pe_call GD hr1 (by rfl) gD kD bD .nil pass0 (pa_cons (pv 0) (pa_cons pe_int pa_nil))))
      (pss_cons (ps_if (PW.pt (pw_and (pt_cmpR op_lt (pv 3) pe_int (nomark _)) (pw_and1 (pt_cmpR (op_neD hr.units) (pv 2) (pe_lst pa_nil) (nomark _)))))
        (pss_one (ps_ret (pe_tup (pa_cons pe_str (pa_cons (pe_ix ix_list (pv 2) (pe_call GD hr1 (by rfl) gD kD bD .nil pass0 (pa_cons (pv 0) (pa_cons (pe_callB call_len_seq (by rfl) ml PySem.boot_len (pa_cons (pv 2) pa_nil)) pa_nil))) (fun _ _ => rfl)) pa_nil))))) pss_nil)
      (pss_cons (ps_if (pt_cmpR op_eq (pv 3) pe_int (nomark _)) (pss_one (ps_ret (pe_tup pa_nil))) pss_nil)
      (pss_cons (ps_if (pt_cmpR op_lt (pv 3) pe_int (nomark _))
        (pss_one (ps_ret (pe_ix ix_list (pv 1) (pe_call GD hr1 (by rfl) gD kD bD .nil pass0 (pa_cons (pv 0) (pa_cons (pe_callB call_len_seq (by rfl) ml PySem.boot_len (pa_cons (pv 1) pa_nil)) pa_nil))) (fun _ _ => rfl)))) pss_nil)
      (pss_one (ps_ret (pe_call GN hr (by rfl) gN kN bN .nil pass0 (pa_cons (pv 0) pa_nil))))))), ?_⟩
    refine ⟨.ref d, rfl, d, c, 8, rfl, hD, by decide, by decide, fun H1 kd hD1 kp1 b0 b1 => ?_⟩
    have S1 := S.keep kp1
    refine ⟨.int kd, rfl, _, _, rfl, rfl, _, rfl, ite2 (fun _ => ?_) (fun _ => ?_)⟩
    · refine ⟨.ref ul, rfl, Nat.zero_le _, fun p np => ?_⟩
      have s2 : Same H1 (upd H1 p (.lst [])) := same_upd np
      have hD2 := hD1.same s2
      have kq2 : Kp d c H (upd H1 p (.lst [])) := kp1.trans (kpSame s2)
      have S2 : Src (upd H1 p (.lst [])) d c wl ul zs us := S1.keep (kpSame s2)
      refine ⟨.list (us.map .int), .list (([] : List Int).map .int), .lst (.inl (.inl S2.u)) (dpInts _), .lst (.inl (.inl upd_same)) .nil, shpL _, shpL _, _, rfl, ?_⟩
      rw [eqvL]
      generalize upd H1 p (.lst []) = H2 at *
      by_cases hus : us = []
      · rw [decide_eq_true hus]
        refine iteF ?_
        refine ⟨.int kd, rfl, rfl, _, rfl, ite2 (fun _ => ?_) (fun _ => ?_)⟩
        · exact ⟨Nat.zero_le _, fun p np => q _ _ _ (hD2.same (same_upd np)) (kq2.trans (kpSame (same_upd np))) (.nil upd_same) ⟨True.intro, rfl, rfl⟩⟩
        refine ⟨.int kd, rfl, _, _, rfl, rfl, _, rfl, ite2 (fun _ => ?_) (fun _ => ?_)⟩
        · have zn := S2.zn
          have zl := S2.zl
          refine ⟨.ref wl, rfl, .ref d, rfl, .ref wl, rfl, wl, _, rfl, .inl (.inl (.inl S2.w)), d, c, _, rfl, hD2, ?_, ?_, fun H3 r hD3 kp3 r0 r1 => ?_⟩
          · rw [List.length_map]
            omega
          · rw [List.length_map]
            exact Nat.lt_of_le_of_lt (show zs.length ≤ 100 by omega) (by decide)
          obtain ⟨v, hv, ev⟩ := item_at (xs := zs.map V.str) r0 r1
          obtain ⟨z, hz, rfl⟩ := List.mem_map.mp hv
          exact ⟨wl, _, r, _, rfl, rfl, .inl (.inl (S2.keep kp3).w), ev, q H3 _ _ hD3 (kq2.trans kp3) (.wrd z) ⟨S.wd z hz, rfl, rfl⟩⟩
        · exact ⟨.ref d, rfl, d, c, rfl, hD2, fun H3 i hD3 kp3 hi => q H3 _ _ hD3 (kq2.trans kp3) (.int i) ⟨hi, rfl, rfl⟩⟩
      · rw [decide_eq_false hus]
        refine iteT ?_
        have un : 0 < us.length := List.length_pos_iff.mpr hus
        have ul' := S2.ul
        refine ⟨.ref ul, rfl, .ref d, rfl, .ref ul, rfl, ul, _, rfl, .inl (.inl (.inl S2.u)), d, c, _, rfl, hD2, ?_, ?_, fun H3 r hD3 kp3 r0 r1 => ?_⟩
        · rw [List.length_map]
          omega
        · rw [List.length_map]
          exact Nat.lt_of_le_of_lt (show us.length ≤ 100 by omega) (by decide)
        obtain ⟨v, hv, ev⟩ := item_at (xs := us.map V.int) r0 r1
        obtain ⟨n, hn, rfl⟩ := List.mem_map.mp hv
        refine ⟨ul, _, r, _, rfl, rfl, .inl (.inl (S2.keep kp3).u), ev, (by show 2 ≤ sizeLine; decide), fun p2 np2 => ?_⟩
        exact q _ _ _ (hD3.same (same_upd np2)) (kq2.trans (kp3.trans (kpSame (same_upd np2)))) (.unk upd_same) ⟨S.ub n hn, rfl, rfl⟩
    · refine iteF ?_
      have hD2 := hD1
      have kq2 := kp1
      have S2 := S1
      refine ⟨.int kd, rfl, rfl, _, rfl, ite2 (fun _ => ?_) (fun _ => ?_)⟩
      · exact ⟨Nat.zero_le _, fun p np => q _ _ _ (hD2.same (same_upd np)) (kq2.trans (kpSame (same_upd np))) (.nil upd_same) ⟨True.intro, rfl, rfl⟩⟩
      refine ⟨.int kd, rfl, _, _, rfl, rfl, _, rfl, ite2 (fun _ => ?_) (fun _ => ?_)⟩
      · have zn := S2.zn
        have zl := S2.zl
        refine ⟨.ref wl, rfl, .ref d, rfl, .ref wl, rfl, wl, _, rfl, .inl (.inl (.inl S2.w)), d, c, _, rfl, hD2, ?_, ?_, fun H3 r hD3 kp3 r0 r1 => ?_⟩
        · rw [List.length_map]
          omega
        · rw [List.length_map]
          exact Nat.lt_of_le_of_lt (show zs.length ≤ 100 by omega) (by decide)
        obtain ⟨v, hv, ev⟩ := item_at (xs := zs.map V.str) r0 r1
        obtain ⟨z, hz, rfl⟩ := List.mem_map.mp hv
        exact ⟨wl, _, r, _, rfl, rfl, .inl (.inl (S2.keep kp3).w), ev, q H3 _ _ hD3 (kq2.trans kp3) (.wrd z) ⟨S.wd z hz, rfl, rfl⟩⟩
      · exact ⟨.ref d, rfl, d, c, rfl, hD2, fun H3 i hD3 kp3 hi => q H3 _ _ hD3 (kq2.trans kp3) (.int i) ⟨hi, rfl, rfl⟩⟩
end
end Ksec
set_option Elab.async false
set_option linter.all false
set_option maxRecDepth 100000
set_option maxHeartbeats 4000000
namespace Ksec
open PySem PySem.Spec PyProof.Rows L2
/-- all but the deck and the list at e stays -/
def Kq (d c e : Addr) (H H' : Hp) : Prop := ∀ b o, b ≠ d → b ≠ c → b ≠ e → H b = some o → H' b = some o
theorem Kq.trans {d c e : Addr} {H H1 H2 : Hp} (a : Kq d c e H H1) (b : Kq d c e H1 H2) : Kq d c e H H2 := fun x o h1 h2 h3 r => b x o h1 h2 h3 (a x o h1 h2 h3 r)
theorem kqOf {d c e : Addr} {H H1 : Hp} (a : Kp d c H H1) : Kq d c e H H1 := fun x o h1 h2 _ r => a x o h1 h2 r
theorem kqTup {d c e : Addr} {H H' : Hp} {L : Int} (h : Dk H d c) (hl : H e = some (.lst [.int L])) (k : Kq d c e H H') : Tup H H' := fun b xs r => by
  obtain ⟨⟨x1, h1⟩, ⟨x2, h2⟩⟩ := h.lists
  exact k b _ (ne_of r h1 (by intro z; cases z)) (ne_of r h2 (by intro z; cases z)) (ne_of r hl (by intro z; cases z)) r
theorem Src.keepq {H H' : Hp} {d c e wl ul : Addr} {zs : List Str} {us : List Int} (S : Src H d c wl ul zs us) (h1 : wl ≠ e) (h2 : ul ≠ e) (k : Kq d c e H H') : Src H' d c wl ul zs us :=
  ⟨k _ _ S.w1 S.w2 h1 S.w, k _ _ S.u1 S.u2 h2 S.u, S.w1, S.w2, S.u1, S.u2, S.wd, S.zn, S.zl, S.ul, S.ub⟩
/-- what a drawn term is, by its depth and how much of the budget it took -/
def Drawn (n : Nat) (L L' : Int) (t : Tm) : Prop := t.ok ∧ t.depth ≤ max 1 n ∧ (t.size : Int) + L' ≤ L + 1 ∧ 0 ≤ L'
section
variable {P : Program} {w : World} {K : PySem.W.Frag} {mg : Str → Option Value} {base : Heap}
def spTerm (n : Nat) : Sp := fun vs H Q _ => ∃ (d c wl ul e : Addr) (zs : List Str) (us : List Int) (dp L : Int), vs = [.ref d, .ref wl, .ref ul, .int dp, .ref e] ∧ Dk H d c ∧ Src H d c wl ul zs us ∧
  H e = some (.lst [.int L]) ∧ e ≠ d ∧ e ≠ c ∧ wl ≠ e ∧ ul ≠ e ∧ dp ≤ n ∧ 0 ≤ L ∧
  ∀ H' x t L', Dk H' d c → Kq d c e H H' → H' e = some (.lst [.int L']) → IsTm H' x t → Drawn n L L' t → Q x H'
def spTermP : Nat → Sp
  | 0 => fun _ _ _ _ => False
  | n + 1 => spTerm n
abbrev psTerm : List Str := ["_law_deck_here", "_law_words", "_law_unknowns", "_law_deep", "_law_left"]
theorem ok_term1 {f fD fT : Addr} {fd fdD fdT : FuncData} {k n : Nat} (F : Fun K "_law_term" "_law_term" sTerm f fd) (GD : FnOk P w K mg base CX0 (k + 1) fD fdD ["_law_deck_here", "_law_many"] spDraw) (bD : Binds K fdD ["_law_deck_here", "_law_many"] [])
    (gD : mg "_law_draw" = some (.ref fD)) (kD : PySem.W.keepIn K (.ref fD) = true) (GT : FnOk P w K mg base CX0 (k + 3) fT fdT ["_law_deck_here", "_law_words", "_law_unknowns"] spTip) (bT : Binds K fdT ["_law_deck_here", "_law_words", "_law_unknowns"] [])
    (gT : mg "_law_tip" = some (.ref fT)) (kT : PySem.W.keepIn K (.ref fT) = true) (mi : mg "int" = none) (G : FnOk P w K mg base CX0 (k + 3 + n) f fd psTerm (spTermP n)) (b : Binds K fd psTerm []) (g : mg "_law_term" = some (.ref f)) : FnOk P w K mg base CX0 (k + 4 + n) f fd psTerm (spTerm n) := by
  rw [show k + 4 + n = k + 3 + n + 1 by omega]
  refine F.ok scTerm (fun vs H Q E h => ?_) (fun cdv A outer s H vs Q E hr h => ?_)
  · obtain ⟨d, c, wl, ul, e, zs, us, dp, L, rfl, _⟩ := h
    rfl
  · obtain ⟨d, c, wl, ul, e, zs, us, dp, L, rfl, hD, S, hL, e1, e2, e3, e4, hdp, hL0, q⟩ := h
    have hr1 := hr.mono (show k + 1 ≤ k + 3 + n by omega)
    have hr2 := hr.mono (show k + 3 ≤ k + 3 + n by omega)
    refine ⟨_, pss_cons (ps_set (i := 5) scTerm.nd rfl (.inl rfl) (pe_call GD hr1 (by rfl) gD kD bD .nil pass0 (pa_cons (pv 0) (pa_cons pe_int pa_nil))))
      (pss_cons (ps_if (PW.pt (pw_or (pt_cmpR op_lt (pv 3) pe_int (nomark _)) (pw_or (pt_cmpR op_lt (pe_ix ix_list (pv 4) pe_int (fun _ _ => rfl)) pe_int (nomark _)) (pw_or1 (pt_cmpR op_eq (pv 5) pe_int (nomark _))))))
        (pss_one (ps_ret (pe_call GT hr2 (by rfl) gT kT bT .nil pass0 (pa_cons (pv 0) (pa_cons (pv 1) (pa_cons (pv 2) pa_nil)))))) pss_nil)
      (pss_cons (ps_asg (pe_op op_sub (pe_ix ix_list (pv 4) pe_int (fun _ _ => rfl)) pe_int) (pg_sub (pv 4) pe_int set_list))
      (pss_cons (ps_set (i := 6) scTerm.nd rfl (.inl rfl) (pe_call G hr (by rfl) g F.kp b .nil pass0 (pa_cons (pv 0) (pa_cons (pv 1) (pa_cons (pv 2)
          (pa_cons (pe_ix ix_list (pe_lst (pa_cons (pe_op op_sub (pv 3) pe_int) (pa_cons pe_int pa_nil))) (pe_callTy call_int1 (by rfl) mi (by decide +kernel) (pa_cons (pe_cmpR op_eq (pv 5) pe_int (nomark _)) pa_nil)) (fun _ _ => rfl)) (pa_cons (pv 4) pa_nil)))))))
      (pss_one (ps_ret (pe_tup (pa_cons (pv 6) (pa_cons (pe_call G hr (by rfl) g F.kp b .nil pass0 (pa_cons (pv 0) (pa_cons (pv 1) (pa_cons (pv 2) (pa_cons (pe_op op_sub (pv 3) pe_int) (pa_cons (pv 4) pa_nil)))))) pa_nil)))))))), ?_⟩
    refine ⟨.ref d, rfl, d, c, 5, rfl, hD, by decide, by decide, fun H1 kd hD1 kp1 b0 b1 => ?_⟩
    have S1 := S.keep kp1
    have hL1 := kp1 _ _ e1 e2 hL
    have tip : spTip [.ref d, .ref wl, .ref ul] H1 Q E0 := ⟨d, c, wl, ul, zs, us, rfl, hD1, S1, fun H2 x t hD2 kp2 hx ht => q H2 x t L hD2 (kqOf (kp1.trans kp2)) (kp2 _ _ e1 e2 hL1) hx ⟨ht.1, by rw [ht.2.1]; omega, by rw [ht.2.2]; omega, hL0⟩⟩
    refine ⟨.int dp, rfl, _, _, rfl, rfl, _, rfl, ite2 (fun _ => ?_) (fun h1 => ?_)⟩
    · exact iteT ⟨.ref d, rfl, .ref wl, rfl, .ref ul, rfl, tip⟩
    refine ⟨.ref e, rfl, e, _, 0, .int L, rfl, rfl, .inl (.inl hL1), atI_nat (j := 0) rfl, _, _, rfl, rfl, _, rfl, ite2 (fun _ => ?_) (fun h2 => ?_)⟩
    · exact iteT ⟨.ref d, rfl, .ref wl, rfl, .ref ul, rfl, tip⟩
    refine ⟨.int kd, rfl, rfl, _, rfl, ite2 (fun _ => ?_) (fun h3 => ?_)⟩
    · exact ⟨.ref d, rfl, .ref wl, rfl, .ref ul, rfl, tip⟩
    have g1 : 2 ≤ dp := by
      have : ¬ dp < 2 := fun z => h1 (decide_eq_true z)
      omega
    have g2 : 2 ≤ L := by
      have : ¬ L < 2 := fun z => h2 (decide_eq_true z)
      omega
    cases n with
    | zero => exact absurd hdp (by omega)
    | succ m =>
      refine ⟨.ref e, rfl, e, _, 0, .int L, rfl, rfl, .inl (.inl hL1), atI_nat (j := 0) rfl, L, 2, rfl, rfl, .ref e, rfl, e, _, 0, 0, rfl, rfl, hL1, rfl, ?_⟩
      have hL2 : upd H1 e (.lst ([.int L].set 0 (.int (L - 2)))) e = some (.lst [.int (L - 2)]) := upd_same
      have kq2 : Kq d c e H1 (upd H1 e (.lst ([.int L].set 0 (.int (L - 2))))) := fun x o _ _ h3 r => by
        rw [upd_ne h3]
        exact r
      have hD2 : Dk (upd H1 e (.lst ([.int L].set 0 (.int (L - 2))))) d c := by
        obtain ⟨ns, s', n', q1, q2, q3⟩ := hD1
        exact ⟨ns, s', n', by rw [upd_ne e1.symm]; exact q1, by rw [upd_ne e2.symm]; exact q2, q3⟩
      have S2 := S1.keepq e3 e4 kq2
      generalize upd H1 e (.lst ([.int L].set 0 (.int (L - 2)))) = H2 at *
      refine ⟨.ref d, rfl, .ref wl, rfl, .ref ul, rfl, .int dp, rfl, dp, 1, rfl, rfl, (by show 2 ≤ sizeLine; decide), fun p np => ?_⟩
      have s3 : Same H2 (upd H2 p (.lst [.int (dp - 1), .int 1])) := same_upd np
      obtain ⟨v, hv, ev⟩ : ∃ v : Int, v ≤ (m : Int) ∧ atI [V.int (dp - 1), V.int 1] (if decide (V.int kd = V.int 1) = true then 1 else 0) = some (.int v) := by
        cases decide (V.int kd = V.int 1) with
        | true => exact ⟨1, by omega, atI_nat (j := 1) rfl⟩
        | false => exact ⟨dp - 1, by omega, atI_nat (j := 0) rfl⟩
      have hL3 := s3 _ _ hL2
      have hD3 := hD2.same s3
      have S3 := S2.keep (kpSame s3)
      have kq3 : Kq d c e H (upd H2 p (.lst [.int (dp - 1), .int 1])) := (kqOf kp1).trans (kq2.trans (kqOf (kpSame s3)))
      have hp3 : upd H2 p (.lst [.int (dp - 1), .int 1]) p = some (.lst [.int (dp - 1), .int 1]) := upd_same
      generalize upd H2 p (.lst [.int (dp - 1), .int 1]) = H3 at *
      refine ⟨.int kd, rfl, rfl, .inr ⟨_, rfl, p, _, _, .int v, rfl, rfl, .inl (.inl hp3), ev, .ref e, rfl, ?_⟩⟩
      refine ⟨d, c, wl, ul, e, zs, us, v, L - 2, rfl, hD3, S3, hL3, e1, e2, e3, e4, hv, by omega, fun H4 x t L4 hD4 kq4 hL4 hx ht => ?_⟩
      obtain ⟨t1, t2, t3, t4⟩ := ht
      have S4 := S3.keepq e3 e4 kq4
      refine ⟨x, rfl, .ref d, rfl, .ref wl, rfl, .ref ul, rfl, .int dp, rfl, dp, 1, rfl, rfl, .ref e, rfl, d, c, wl, ul, e, zs, us, dp - 1, L4, rfl, hD4, S4, hL4, e1, e2, e3, e4, by omega, t4, fun H5 y u L5 hD5 kq5 hL5 hy hu => ⟨(by show 2 ≤ sizeLine; decide), fun a na => ?_⟩⟩
      obtain ⟨u1, u2, u3, u4⟩ := hu
      have s6 : Same H5 (upd H5 a (.tup [x, y])) := same_upd na
      refine q _ _ (.pair t u) L5 (hD5.same s6) (kq3.trans (kq4.trans (kq5.trans (kqOf (kpSame s6))))) (s6 _ _ hL5) (.pair upd_same ((hx.keep (kqTup hD4 hL4 kq5)).keep (sameTup s6)) (hy.keep (sameTup s6))) ⟨⟨t1, u1⟩, ?_, ?_, u4⟩
      · show max t.depth u.depth + 1 ≤ max 1 (m + 1)
        omega
      · show ((t.size + u.size + 1 : Nat) : Int) + L5 ≤ L + 1
        omega
theorem ok_term {f fD fT : Addr} {fd fdD fdT : FuncData} {k : Nat} (F : Fun K "_law_term" "_law_term" sTerm f fd) (GD : FnOk P w K mg base CX0 (k + 1) fD fdD ["_law_deck_here", "_law_many"] spDraw) (bD : Binds K fdD ["_law_deck_here", "_law_many"] [])
    (gD : mg "_law_draw" = some (.ref fD)) (kD : PySem.W.keepIn K (.ref fD) = true) (GT : FnOk P w K mg base CX0 (k + 3) fT fdT ["_law_deck_here", "_law_words", "_law_unknowns"] spTip) (bT : Binds K fdT ["_law_deck_here", "_law_words", "_law_unknowns"] [])
    (gT : mg "_law_tip" = some (.ref fT)) (kT : PySem.W.keepIn K (.ref fT) = true) (mi : mg "int" = none) (b : Binds K fd psTerm []) (g : mg "_law_term" = some (.ref f)) : ∀ n, FnOk P w K mg base CX0 (k + 4 + n) f fd psTerm (spTerm n)
  | 0 => ok_term1 (n := 0) F GD bD gD kD GT bT gT kT mi ⟨fun _ _ _ _ h => h.elim, fun _ _ _ _ _ _ _ _ _ _ _ _ _ h => h.elim⟩ b g
  | n + 1 => ok_term1 (n := n + 1) F GD bD gD kD GT bT gT kT mi (by
      have h := ok_term F GD bD gD kD GT bT gT kT mi b g n
      rw [show k + 3 + (n + 1) = k + 4 + n by omega]
      exact h) b g
end
end Ksec
set_option Elab.async false
set_option linter.all false
set_option maxRecDepth 100000
set_option maxHeartbeats 4000000
namespace Ksec
open PySem PySem.Spec PyProof.Rows L2
theorem kpBack {d c : Addr} {H H1 H2 : Hp} (a : Kp d c H H1) (e : Addr) (ne : H e = none) (k : Kq d c e H1 H2) : Kp d c H H2 := fun x o h1 h2 r => k x o h1 h2 (ne_of_none r ne) (a x o h1 h2 r)
theorem kpFree {d c p : Addr} {H H1 : Hp} (a : Kp d c H H1) (h1 : p ≠ d) (h2 : p ≠ c) (h : H1 p = none) : H p = none := by
  cases e : H p with
  | none => rfl
  | some o =>
    rw [a p o h1 h2 e] at h
    cases h
section
variable {P : Program} {w : World} {K : PySem.W.Frag} {mg : Str → Option Value} {base : Heap}
def spAny : Sp := fun vs H Q _ => ∃ (d c wl ul : Addr) (zs : List Str) (us : List Int), vs = [.ref d, .ref wl, .ref ul] ∧ Dk H d c ∧ Src H d c wl ul zs us ∧ ∀ H' x t, Dk H' d c → Kp d c H H' → IsTm H' x t → t.ok → t.depth ≤ 30 → t.size ≤ 200 → Q x H'
theorem ok_any {f fD fT fR : Addr} {fd fdD fdT fdR : FuncData} {k : Nat} (F : Fun K "_law_any_term" "_law_any_term" sAny f fd) (GD : FnOk P w K mg base CX0 (k + 1) fD fdD ["_law_deck_here", "_law_many"] spDraw) (bD : Binds K fdD ["_law_deck_here", "_law_many"] [])
    (gD : mg "_law_draw" = some (.ref fD)) (kD : PySem.W.keepIn K (.ref fD) = true) (GT : FnOk P w K mg base CX0 (k + 3) fT fdT ["_law_deck_here", "_law_words", "_law_unknowns"] spTip) (bT : Binds K fdT ["_law_deck_here", "_law_words", "_law_unknowns"] [])
    (gT : mg "_law_tip" = some (.ref fT)) (kT : PySem.W.keepIn K (.ref fT) = true) (GR : ∀ n, FnOk P w K mg base CX0 (k + 4 + n) fR fdR psTerm (spTerm n)) (bR : Binds K fdR psTerm []) (gR : mg "_law_term" = some (.ref fR)) (kR : PySem.W.keepIn K (.ref fR) = true)
    (mr : mg "range" = none) : FnOk P w K mg base CX0 (k + 34) f fd ["_law_deck_here", "_law_words", "_law_unknowns"] spAny := by
  refine F.ok scAny (fun vs H Q E h => ?_) (fun cdv A outer s H vs Q E hr h => ?_)
  · obtain ⟨d, c, wl, ul, zs, us, rfl, _⟩ := h
    rfl
  · obtain ⟨d, c, wl, ul, zs, us, rfl, hD, S, q⟩ := h
    have hr1 := hr.mono (show k + 1 ≤ k + 33 by omega)
    have hr2 := hr.mono (show k + 3 ≤ k + 33 by omega)
    have G29 : FnOk P w K mg base CX0 (k + 33) fR fdR psTerm (spTerm 29) := GR 29
    refine ⟨_, pss_cons (ps_set (i := 3) scAny.nd rfl (.inl rfl) (pe_call GD hr1 (by rfl) gD kD bD .nil pass0 (pa_cons (pv 0) (pa_cons pe_int pa_nil))))
      (pss_cons (ps_if (pt_cmpR op_eq (pv 3) pe_int (nomark _)) (pss_one (ps_ret (pe_call G29 hr (by rfl) gR kR bR .nil pass0 (pa_cons (pv 0) (pa_cons (pv 1) (pa_cons (pv 2) (pa_cons pe_int (pa_cons (pe_lst (pa_cons pe_int pa_nil)) pa_nil)))))))) pss_nil)
      (pss_cons (ps_if (pt_cmpR op_gt (pv 3) pe_int (nomark _))
        (pss_cons (ps_set (i := 4) scAny.nd rfl (.inl rfl) (pe_call GT hr2 (by rfl) gT kT bT .nil pass0 (pa_cons (pv 0) (pa_cons (pv 1) (pa_cons (pv 2) pa_nil)))))
        (pss_cons (ps_for PassesOwn.never rfl (pi_range1 (by rfl) mr (pa_cons (pe_op op_add pe_int (pe_call GD hr1 (by rfl) gD kD bD .nil pass0 (pa_cons (pv 0) (pa_cons pe_int pa_nil)))) pa_nil)) (pg_name (i := 5) scAny.nd rfl (Or.inl rfl))
          (pss_cons (ps_set (i := 6) scAny.nd rfl (.inl rfl) (pe_call GT hr2 (by rfl) gT kT bT .nil pass0 (pa_cons (pv 0) (pa_cons (pv 1) (pa_cons (pv 2) pa_nil)))))
            (pss_one (ps_set (i := 4) scAny.nd rfl (.inl rfl) (pe_ix ix_list (pe_lst (pa_cons (pe_tup (pa_cons (pv 6) (pa_cons (pv 4) pa_nil))) (pa_cons (pe_tup (pa_cons (pv 4) (pa_cons (pv 6) pa_nil))) pa_nil))) (pe_op op_sub (pv 3) pe_int) (fun _ _ => rfl))))))
        (pss_one (ps_ret (pv 4))))) pss_nil)
      (pss_one (ps_ret (pe_call G29 hr (by rfl) gR kR bR .nil pass0 (pa_cons (pv 0) (pa_cons (pv 1) (pa_cons (pv 2)
        (pa_cons (pe_ix ix_list (pe_lst (pa_cons pe_int (pa_cons pe_int (pa_cons pe_int pa_nil)))) (pe_call GD hr1 (by rfl) gD kD bD .nil pass0 (pa_cons (pv 0) (pa_cons pe_int pa_nil))) (fun _ _ => rfl))
        (pa_cons (pe_lst (pa_cons (pe_ix ix_list (pe_lst (pa_cons pe_int (pa_cons pe_int (pa_cons pe_int pa_nil)))) (pe_call GD hr1 (by rfl) gD kD bD .nil pass0 (pa_cons (pv 0) (pa_cons pe_int pa_nil))) (fun _ _ => rfl)) pa_nil)) pa_nil)))))))))), ?_⟩
    refine ⟨.ref d, rfl, d, c, 8, rfl, hD, by decide, by decide, fun H1 kd hD1 kp1 b0 b1 => ?_⟩
    have S1 := S.keep kp1
    -- a term by a budget
    have trm : ∀ (H2 : Hp) (e : Addr) (dp L : Int), Dk H2 d c → Kp d c H H2 → H2 e = none → dp ≤ 29 → 0 ≤ L → L ≤ 116 → spTerm 29 [.ref d, .ref wl, .ref ul, .int dp, .ref e] (upd H2 e (.lst [.int L])) Q E0 := fun H2 e dp L hD2 kp2 ne h1 h2 h3 => by
      have s2 : Same H2 (upd H2 e (.lst [.int L])) := same_upd ne
      have S2 := (S.keep kp2).keep (kpSame s2)
      have n1 := hD2.ne1 ne
      have n2 := hD2.ne2 ne
      have kp3 := kp2.trans (kpSame s2)
      refine ⟨d, c, wl, ul, e, zs, us, dp, L, rfl, hD2.same s2, S2, upd_same, n1, n2, ?_, ?_, h1, h2, fun H4 x t L4 hD4 kq4 hL4 hx ht => ?_⟩
      · exact ne_of_none (S.keep kp2).w ne
      · exact ne_of_none (S.keep kp2).u ne
      · obtain ⟨t1, t2, t3, t4⟩ := ht
        exact q H4 x t hD4 (kpBack kp3 e (kpFree kp2 n1 n2 ne) kq4) hx t1 (by omega) (by omega)
    refine ⟨.int kd, rfl, rfl, _, rfl, ite2 (fun _ => ?_) (fun _ => ?_)⟩
    · exact ⟨.ref d, rfl, .ref wl, rfl, .ref ul, rfl, (by show 1 ≤ sizeLine; decide), fun e ne => trm H1 e 29 116 hD1 kp1 ne (by decide) (by decide) (by decide)⟩
    refine ⟨.int kd, rfl, _, _, rfl, rfl, _, rfl, ite2 (fun h5 => ?_) (fun _ => ?_)⟩
    · have k6 : 5 < kd := of_decide_eq_true h5
      refine ⟨.ref d, rfl, .ref wl, rfl, .ref ul, rfl, d, c, wl, ul, zs, us, rfl, hD1, S1, fun H2 x2 t2 hD2 kp2 hx2 ht2 => ?_⟩
      refine ⟨.ref d, rfl, d, c, 28, rfl, hD2, by decide, by decide, fun H3 r hD3 kp3 r0 r1 => ⟨1, r, rfl, rfl, 1 + r, rfl, by omega, by omega, ?_⟩⟩
      refine for_range (lo := 0) (n := (1 + r).toNat) (fun i σ H' => ∃ (y5 y6 : Option V) (x : V) (t : Tm), σ = [some (.ref d), some (.ref wl), some (.ref ul), some (.int kd), some x, y5, y6] ∧ Dk H' d c ∧ Kp d c H H' ∧ IsTm H' x t ∧ t.ok ∧ t.depth ≤ i + 1 ∧ t.size ≤ 2 * i + 1) ?_ (fun i σ H4 hi h4 => ?_) (fun σ H4 h4 => ?_)
      · obtain ⟨a1, a2, a3⟩ := ht2
        exact ⟨none, none, x2, t2, rfl, hD3, kp1.trans (kp2.trans kp3), hx2.keep (kpTup hD2 kp3), a1, by omega, by omega⟩
      · obtain ⟨y5, y6, x, t, rfl, hD4, kp4, hx, t1, t2', t3⟩ := h4
        have S4 := S.keep kp4
        refine ⟨.ref d, rfl, .ref wl, rfl, .ref ul, rfl, d, c, wl, ul, zs, us, rfl, hD4, S4, fun H5 y u hD5 kp5 hy hu => ?_⟩
        obtain ⟨u1, u2, u3⟩ := hu
        have hx5 := hx.keep (kpTup hD4 kp5)
        refine ⟨y, rfl, x, rfl, (by show 2 ≤ sizeLine; decide), fun p1 np1 => ?_⟩
        have s5 : Same H5 (upd H5 p1 (.tup [y, x])) := same_upd np1
        refine ⟨x, rfl, y, rfl, (by show 2 ≤ sizeLine; decide), fun p2 np2 => ?_⟩
        have s6 : Same (upd H5 p1 (.tup [y, x])) (upd (upd H5 p1 (.tup [y, x])) p2 (.tup [x, y])) := same_upd np2
        refine ⟨(by show 2 ≤ sizeLine; decide), fun p3 np3 => ?_⟩
        have s7 := same_upd (o := .lst [.ref p1, .ref p2]) np3
        have s8 := s5.trans (s6.trans s7)
        have hx8 := hx5.keep (sameTup s8)
        have hy8 := hy.keep (sameTup s8)
        have q1 : IsTm _ (.ref p1) (.pair u t) := .pair (s7 _ _ (s6 _ _ upd_same)) hy8 hx8
        have q2 : IsTm _ (.ref p2) (.pair t u) := .pair (s7 _ _ upd_same) hx8 hy8
        have hD8 := hD5.same s8
        have kp8 := kp4.trans (kp5.trans (kpSame s8))
        have hp8 : upd (upd (upd H5 p1 (.tup [y, x])) p2 (.tup [x, y])) p3 (.lst [.ref p1, .ref p2]) p3 = some (.lst [.ref p1, .ref p2]) := upd_same
        have e67 : kd = 6 ∨ kd = 7 := by omega
        rcases e67 with e | e
        · subst e
          refine ⟨.int 6, rfl, 6, 6, rfl, rfl, p3, _, 0, .ref p1, rfl, rfl, .inl (.inl hp8), atI_nat (j := 0) rfl, _, _, _, _, rfl, hD8, kp8, q1, ⟨u1, t1⟩, ?_, ?_⟩
          · show max u.depth t.depth + 1 ≤ _
            omega
          · show u.size + t.size + 1 ≤ _
            omega
        · subst e
          refine ⟨.int 7, rfl, 7, 6, rfl, rfl, p3, _, 1, .ref p2, rfl, rfl, .inl (.inl hp8), atI_nat (j := 1) rfl, _, _, _, _, rfl, hD8, kp8, q2, ⟨t1, u1⟩, ?_, ?_⟩
          · show max t.depth u.depth + 1 ≤ _
            omega
          · show t.size + u.size + 1 ≤ _
            omega
      · obtain ⟨y5, y6, x, t, rfl, hD4, kp4, hx, t1, t2', t3⟩ := h4
        exact ⟨x, rfl, q H4 x t hD4 kp4 hx t1 (by omega) (by omega)⟩
    · refine ⟨.ref d, rfl, .ref wl, rfl, .ref ul, rfl, (by show 3 ≤ sizeLine; decide), fun p np => ?_⟩
      have n1 := hD1.ne1 np
      have n2 := hD1.ne2 np
      refine ⟨.ref d, rfl, d, c, 3, rfl, hD1.same (same_upd np), by decide, by decide, fun H2 r hD2 kp2 r0 r1 => ?_⟩
      obtain ⟨v, hv, ev⟩ := item_at (xs := ([2, 3, 5] : List Int).map V.int) r0 r1
      obtain ⟨dp, hdp, rfl⟩ := List.mem_map.mp hv
      have kq2 := kp1.trans ((kpSame (same_upd np)).trans kp2)
      refine ⟨p, _, r, _, rfl, rfl, .inl (.inl (kp2 _ _ n1 n2 upd_same)), ev, (by show 3 ≤ sizeLine; decide), fun p' np' => ?_⟩
      have n3 := hD2.ne1 np'
      have n4 := hD2.ne2 np'
      refine ⟨.ref d, rfl, d, c, 3, rfl, hD2.same (same_upd np'), by decide, by decide, fun H3 r' hD3 kp3 r0' r1' => ?_⟩
      obtain ⟨v', hv', ev'⟩ := item_at (xs := ([2, 6, 12] : List Int).map V.int) r0' r1'
      obtain ⟨L, hLm, rfl⟩ := List.mem_map.mp hv'
      have kq3 := kq2.trans ((kpSame (same_upd np')).trans kp3)
      simp only [List.mem_cons, List.not_mem_nil, or_false] at hdp hLm
      exact ⟨p', _, r', _, rfl, rfl, .inl (.inl (kp3 _ _ n3 n4 upd_same)), ev', (by show 1 ≤ sizeLine; decide), fun e ne => trm H3 e dp L hD3 kq3 ne (by omega) (by omega) (by omega)⟩
end
end Ksec
set_option Elab.async false
set_option linter.all false
set_option maxRecDepth 100000
set_option maxHeartbeats 4000000
namespace Ksec
open PySem PySem.Spec PyProof.Rows L2
def keyD : Key → PyData
  | .inl i => .int i
  | .inr x => .str x
/-! anything: d, c are a deck's own, and none of its lists -/
mutual
inductive Dq (d c : Addr) (H : Hp) : V → PyData → Prop
  | non : Dq d c H .non .none
  | bl (b : Bool) : Dq d c H (.bl b) (.bool b)
  | int (i : Int) : Dq d c H (.int i) (.int i)
  | str (x : Str) : Dq d c H (.str x) (.str x)
  | lst {a : Addr} {xs : List V} {ds : List PyData} : a ≠ d → a ≠ c → a ≠ sysModules → H a = some (.lst xs) → DqAll d c H xs ds → Dq d c H (.ref a) (.list ds)
  | tup {a : Addr} {xs : List V} {ds : List PyData} : H a = some (.tup xs) → DqAll d c H xs ds → Dq d c H (.ref a) (.tuple ds)
  | dct {a : Addr} {kvs : List (Key × V)} {ps : List (PyData × PyData)} : H a = some (.dK kvs) → DqKv d c H kvs ps → Dq d c H (.ref a) (.dict ps)
inductive DqAll (d c : Addr) (H : Hp) : List V → List PyData → Prop
  | nil : DqAll d c H [] []
  | cons {v : V} {vs : List V} {e : PyData} {ds : List PyData} : Dq d c H v e → DqAll d c H vs ds → DqAll d c H (v :: vs) (e :: ds)
inductive DqKv (d c : Addr) (H : Hp) : List (Key × V) → List (PyData × PyData) → Prop
  | nil : DqKv d c H [] []
  | cons {k : Key} {v : V} {kvs : List (Key × V)} {e : PyData} {ps : List (PyData × PyData)} : Dq d c H v e → DqKv d c H kvs ps → DqKv d c H ((k, v) :: kvs) ((keyD k, e) :: ps)
end
/-- all but the deck's own two stays, as far as anything leans on it -/
def Kx (d c : Addr) (H H' : Hp) : Prop := (∀ b xs, b ≠ d → b ≠ c → H b = some (.lst xs) → H' b = some (.lst xs)) ∧ (∀ b xs, H b = some (.tup xs) → H' b = some (.tup xs)) ∧ ∀ b kvs, H b = some (.dK kvs) → H' b = some (.dK kvs)
theorem kxSame {d c : Addr} {H H' : Hp} (s : Same H H') : Kx d c H H' := ⟨fun b _ _ _ e => s b _ e, fun b _ e => s b _ e, fun b _ e => s b _ e⟩
theorem kxKp {d c : Addr} {H H' : Hp} (h : Dk H d c) (k : Kp d c H H') : Kx d c H H' := by
  obtain ⟨⟨x1, h1⟩, ⟨x2, h2⟩⟩ := h.lists
  exact ⟨fun b _ n1 n2 e => k b _ n1 n2 e, fun b _ e => k b _ (ne_of e h1 (by intro z; cases z)) (ne_of e h2 (by intro z; cases z)) e, fun b _ e => k b _ (ne_of e h1 (by intro z; cases z)) (ne_of e h2 (by intro z; cases z)) e⟩
mutual
theorem Dq.keep {d c : Addr} {H H' : Hp} (k : Kx d c H H') : ∀ {v : V} {t : PyData}, Dq d c H v t → Dq d c H' v t
  | _, _, .non => .non
  | _, _, .bl b => .bl b
  | _, _, .int i => .int i
  | _, _, .str x => .str x
  | _, _, .lst n1 n2 n3 h r => .lst n1 n2 n3 (k.1 _ _ n1 n2 h) (DqAll.keep k r)
  | _, _, .tup h r => .tup (k.2.1 _ _ h) (DqAll.keep k r)
  | _, _, .dct h r => .dct (k.2.2 _ _ h) (DqKv.keep k r)
theorem DqAll.keep {d c : Addr} {H H' : Hp} (k : Kx d c H H') : ∀ {vs : List V} {ds : List PyData}, DqAll d c H vs ds → DqAll d c H' vs ds
  | _, _, .nil => .nil
  | _, _, .cons h r => .cons (Dq.keep k h) (DqAll.keep k r)
theorem DqKv.keep {d c : Addr} {H H' : Hp} (k : Kx d c H H') : ∀ {vs : List (Key × V)} {ds : List (PyData × PyData)}, DqKv d c H vs ds → DqKv d c H' vs ds
  | _, _, .nil => .nil
  | _, _, .cons h r => .cons (Dq.keep k h) (DqKv.keep k r)
end
theorem keyReads {prog : Program} {w : World} {h : Heap} (k : Key) (key : Value) (e : (mixKind prog w).is k key = true) : Reads h key (keyD k) [] := by
  rcases keyIs_shape (show keyIs k key = true from e) with ⟨i, t, rfl, rfl⟩ | ⟨x, t, rfl, rfl⟩
  · exact .int i t
  · exact .str x t
section
variable {X : Cx} {pins : List (Addr × Obj)} {σ : L2.St} {H : Hp} {s : Shared} {d c : Addr}
mutual
theorem Dq.reads (I : Inv X pins σ H s) : ∀ {v : V} {t : PyData} {u : Value}, Dq d c H v t → RelV v u → ∃ as, Reads s.heap u t as ∧ sysModules ∉ as
  | _, _, _, .non, r => by
    cases r
    exact ⟨[], .none, List.not_mem_nil⟩
  | _, _, _, .bl b, r => by
    cases r
    exact ⟨[], .bool b, List.not_mem_nil⟩
  | _, _, _, .int i, r => by
    obtain ⟨t, rfl⟩ := r
    exact ⟨[], .int i t, List.not_mem_nil⟩
  | _, _, _, .str x, r => by
    obtain ⟨t, rfl⟩ := r
    exact ⟨[], .str x t, List.not_mem_nil⟩
  | _, _, _, .lst (a := a) (xs := xs) n1 n2 n3 h q, r => by
    cases r
    obtain ⟨z, its, n, rv, e⟩ := (show ObjOk X.prog X.w H s.heap a (.lst xs) from I.hok a _ h)
    obtain ⟨as, hr, hn⟩ := DqAll.reads I q rv
    refine ⟨a :: as, .list e rfl rfl (by simpa using hr), fun hm => ?_⟩
    rcases List.mem_cons.mp hm with z | z
    · exact n3 z.symm
    · exact hn z
  | _, _, _, .tup (a := a) (xs := xs) h q, r => by
    cases r
    obtain ⟨z, its, rv, o, e, hc, n, hd⟩ := (show ObjOk X.prog X.w H s.heap a (.tup xs) from I.hok a _ h)
    obtain ⟨as, hr, hn⟩ := DqAll.reads I q rv
    exact ⟨as, .tuple e hc hd (by simpa using hr), hn⟩
  | _, _, _, .dct (a := a) (kvs := kvs) h q, r => by
    cases r
    obtain ⟨z, hs, vs, rk, hd⟩ := (show ObjOk X.prog X.w H s.heap a (.dK kvs) from I.hok a _ h)
    obtain ⟨as, hp, hn⟩ := DqKv.reads I q rk
    refine ⟨a :: as, PyProof.V.reads_dictOf keyReads hd hp, fun hm => ?_⟩
    rcases List.mem_cons.mp hm with z | z
    · rw [← z] at hs
      cases hs
    · exact hn z
theorem DqAll.reads (I : Inv X pins σ H s) : ∀ {vs : List V} {ds : List PyData} {us : List Value}, DqAll d c H vs ds → Vals vs us → ∃ as, ReadsAll s.heap us ds as ∧ sysModules ∉ as
  | _, _, _, .nil, .nil => ⟨[], .nil, List.not_mem_nil⟩
  | _, _, _, .cons h q, .cons r1 r2 => by
    obtain ⟨as, h1, n1⟩ := Dq.reads I h r1
    obtain ⟨bs, h2, n2⟩ := DqAll.reads I q r2
    exact ⟨as ++ bs, .cons h1 h2, fun hm => (List.mem_append.mp hm).elim n1 n2⟩
theorem DqKv.reads (I : Inv X pins σ H s) : ∀ {kvs : List (Key × V)} {ps : List (PyData × PyData)} {vs : List (Key × Value)}, DqKv d c H kvs ps → KV kvs vs → ∃ as, PyProof.V.PairsRead s.heap keyD vs ps as ∧ sysModules ∉ as
  | _, _, _, .nil, .nil => ⟨[], .nil, List.not_mem_nil⟩
  | _, _, (k2, v2) :: _, .cons (k := k) h q, .cons r1 r2 => by
    obtain ⟨as, h1, n1⟩ := Dq.reads I h r1.2
    obtain ⟨bs, h2, n2⟩ := DqKv.reads I q r2
    obtain rfl : k = k2 := r1.1
    exact ⟨as ++ bs, .cons h1 h2, fun hm => (List.mem_append.mp hm).elim n1 n2⟩
end
/-! repr of anything -/
theorem call_reprQ (g0 : X.A.guards = some []) (hu : X.A.units + 70 < cLine) : CallR X (.builtin "repr") (fun xs H Q => ∃ d c v t, xs = [v] ∧ Dq d c H v t ∧ t.showable = true ∧ t.depth ≤ 64 ∧ t.shown.length ≤ sizeLine ∧ Q (.str t.shown) H) := by
  intro pins s σ H xs us Q I r h
  obtain ⟨d, c, v, t, rfl, hd, h1, h3, h4, q⟩ := h
  obtain ⟨u, rfl, rx⟩ := vals1 r
  obtain ⟨as, rd, hn⟩ := Dq.reads I hd rx
  have ref : ∀ a, u = .ref a → wpAny (model X.prog X.w) X.A (call (.builtin "repr") [u]) (EP X pins σ Q) X.xe s := fun a ea => by
    subst ea
    exact repr_of_reads' rd h1 (fun _ => hn) g0 (by omega) (fun _ _ e => e) (fun h' t' tk hk => ⟨.str t.shown, H, I.kept hk, ⟨t', rfl⟩, q⟩) h4
  cases hd with
  | non =>
    cases rx
    exact PySem.P.repr_of_none ⟨.str _, H, I.tok _, ⟨_, rfl⟩, q⟩
  | bl b =>
    cases rx
    exact PySem.P.repr_of_bool ⟨.str _, H, I.tok _, ⟨_, rfl⟩, q⟩
  | int i =>
    obtain ⟨t, rfl⟩ := rx
    exact PySem.P.repr_of_int (of_decide_eq_true h1) ⟨.str _, H, I.tok _, ⟨_, rfl⟩, q⟩
  | str x =>
    obtain ⟨t, rfl⟩ := rx
    exact PySem.P.repr_of_str ⟨.str _, H, I.tok _, ⟨_, rfl⟩, q⟩ h4
  | lst _ _ _ _ _ => exact ref _ rx
  | tup _ _ => exact ref _ rx
  | dct _ _ => exact ref _ rx
/-! a new list, at no place of the machine's own -/
def tLstS (t : TA) : TE := fun σ H Q => t σ H fun xs H1 => xs.length ≤ sizeLine ∧ ∀ p, H1 p = none → p ≠ sysModules → Q (.ref p) (upd H1 p (.lst xs))
theorem pe_lstS {es : List Expr} {t : TA} {pos : Pos} (h : PA X es t) : PE X (.List es pos) (tLstS t) := by
  refine ⟨fun pins s σ H Q I hq => ?_⟩
  refine wpAny_List_spliced (thn (h.run pos pins s σ H _ I hq) fun us s1 ⟨xs, H1, I1, r, z, q⟩ => ⟨by rw [← r.length]; exact z, ?_⟩)
  refine ⟨.ref s1.heap.objs.size, upd H1 s1.heap.objs.size (.lst xs), I1.laid (t' := s1.toks) (fun b u e => Heap.get?_push_of_some _ e) (Nat.le_refl _) ?_, rfl, q _ (I1.hok.fresh (Nat.le_refl _)) (Nat.ne_of_gt I1.big)⟩
  exact ⟨z, us, 0, r, Heap.get?_push_size _ rfl⟩
/-! == of anything and a text, or () -/
def isQ : PyData → Bool
  | .str x => x == "?"
  | _ => false
def isNil : PyData → Bool
  | .tuple [] => true
  | _ => false
end
end Ksec
set_option Elab.async false
set_option linter.all false
set_option maxRecDepth 100000
set_option maxHeartbeats 4000000
namespace Ksec
open PySem PySem.Spec PyProof.Rows L2
open AutoSeq1 (wpAny_loadPart')
section
variable (a b : Addr) (x : Str) (u : Tok) (o : Obj) (items : Array Value) (n : Nat) (dd : Option Addr) (sl : Array (Option Value)) (es : Array DictEntry) (ep : Nat) (dd2 : Option Addr) (sl2 : Array (Option Value))
theorem dq_eq1 : Meets (Builtin.«dict.__eq__» ⟨[.ref a, .str x u], []⟩) (fun _ R s => s.heap.get? a = some { cls := .type "dict", dict := dd, data := .dict es ep, slots := sl } ∧ R (.ok (.ret .notImplemented)) s) :=
  .of_wp fun prog w A R s h => by obtain ⟨hp, g, d, tk, os⟩ := s; obtain ⟨hl, h⟩ := h; have f1 := F.sub_str_dict; wp_walk using wpAny_loadPart' hl; exact ⟨_, rfl, h⟩
theorem dq_eq2 : Meets (Builtin.«str.__eq__» ⟨[.str x u, .ref a], []⟩) (fun _ R s => s.heap.get? a = some { cls := .type "dict", dict := dd, data := .dict es ep, slots := sl } ∧ R (.ok (.ret .notImplemented)) s) :=
  .of_wp fun prog w A R s h => by obtain ⟨hp, g, d, tk, os⟩ := s; obtain ⟨hl, h⟩ := h; have f1 := F.sub_dict_str; wp_walk using wpAny_loadPart' hl; exact ⟨_, rfl, h⟩
theorem dq_ne1 : Meets (Builtin.«dict.__ne__» ⟨[.ref a, .str x u], []⟩) (fun _ R s => s.heap.get? a = some { cls := .type "dict", dict := dd, data := .dict es ep, slots := sl } ∧ R (.ok (.ret .notImplemented)) s) :=
  .of_wp fun prog w A R s h => by obtain ⟨hp, g, d, tk, os⟩ := s; obtain ⟨hl, h⟩ := h; have f1 := F.sub_str_dict; wp_walk using wpAny_loadPart' hl; exact ⟨_, rfl, h⟩
theorem dq_ne2 : Meets (Builtin.«str.__ne__» ⟨[.str x u, .ref a], []⟩) (fun _ R s => s.heap.get? a = some { cls := .type "dict", dict := dd, data := .dict es ep, slots := sl } ∧ R (.ok (.ret .notImplemented)) s) :=
  .of_wp fun prog w A R s h => by obtain ⟨hp, g, d, tk, os⟩ := s; obtain ⟨hl, h⟩ := h; have f1 := F.sub_dict_str; wp_walk using wpAny_loadPart' hl; exact ⟨_, rfl, h⟩
theorem dq_eq3 : Meets (Builtin.«dict.__eq__» ⟨[.ref a, .ref b], []⟩) (fun _ R s => s.heap.get? a = some { cls := .type "dict", dict := dd, data := .dict es ep, slots := sl } ∧ s.heap.get? b = some { cls := .type "tuple", dict := dd2, data := .seq items n, slots := sl2 } ∧ R (.ok (.ret .notImplemented)) s) :=
  .of_wp fun prog w A R s h => by obtain ⟨hp, g, d, tk, os⟩ := s; obtain ⟨hl, hl2, h⟩ := h; have f1 := F.sub_tuple_dict; wp_walk using wpAny_loadPart' hl, wpAny_loadPart' hl2; exact ⟨_, rfl, h⟩
theorem dq_eq4 : Meets (Builtin.«tuple.__eq__» ⟨[.ref b, .ref a], []⟩) (fun _ R s => s.heap.get? a = some { cls := .type "dict", dict := dd, data := .dict es ep, slots := sl } ∧ s.heap.get? b = some { cls := .type "tuple", dict := dd2, data := .seq items n, slots := sl2 } ∧ R (.ok (.ret .notImplemented)) s) :=
  .of_wp fun prog w A R s h => by obtain ⟨hp, g, d, tk, os⟩ := s; obtain ⟨hl, hl2, h⟩ := h; have f1 := F.sub_dict_tuple; wp_walk using wpAny_loadPart' hl, wpAny_loadPart' hl2; exact ⟨_, rfl, h⟩
end
section
variable {A : Around} {s : Shared}
theorem rc_dict_str {P : Program} {w : World} {a : Addr} {vs : List (Key × Value)} (x : Str) (u : Tok) (hd : s.heap.DictOf (mixKind P w) a vs) (hu : A.units < cLine) : SeqAt.RcAt A s (.ref a) (.str x u) false := fun prog w E Q h => by
  obtain ⟨⟨cls, dd, data, sl⟩, es, ep, ho, hx, hdat, _⟩ := hd
  have hc : cls = .type "dict" := hx.1
  simp only at hdat
  subst hc hdat
  exact SeqAt.rc_eq_decline_or (k := false) ⟨_, ho, rfl⟩ (typeIs_str s x u) (by decide) F.sub_str_dict F.slot_dict_eq F.slot_str_eq_refl
    (fun _ hq => call_meets F.slot_dict_eq ⟨_, ho, rfl⟩ F.entry_dict_eq (F.args_dict_eq_2 _ _) (dq_eq1 a x u dd sl es ep) ⟨ho, hq⟩)
    (fun _ hq => call_meets F.slot_str_eq_refl (typeIs_str s x u) F.entry_str_eq (F.args_str_eq_2 _ _) (dq_eq2 a x u dd sl es ep) ⟨ho, hq⟩)
    (fun _ hq => wpAny_of_eq (rfl : isSame (.ref a) (.str x u) = pure false) hq) (.inr hu) h
theorem rcn_dict_str {P : Program} {w : World} {a : Addr} {vs : List (Key × Value)} (x : Str) (u : Tok) (hd : s.heap.DictOf (mixKind P w) a vs) (hu : A.units < cLine) : SeqAt.RcNeAt A s (.ref a) (.str x u) true := fun prog w E Q h => by
  obtain ⟨⟨cls, dd, data, sl⟩, es, ep, ho, hx, hdat, _⟩ := hd
  have hc : cls = .type "dict" := hx.1
  simp only at hdat
  subst hc hdat
  exact SeqAt.rc_ne_decline_or (k := false) ⟨_, ho, rfl⟩ (typeIs_str s x u) (by decide) F.sub_str_dict F.slot_dict_ne F.slot_str_ne_refl
    (fun _ hq => call_meets F.slot_dict_ne ⟨_, ho, rfl⟩ F.entry_dict_ne (F.args_dict_ne_2 _ _) (dq_ne1 a x u dd sl es ep) ⟨ho, hq⟩)
    (fun _ hq => call_meets F.slot_str_ne_refl (typeIs_str s x u) F.entry_str_ne (F.args_str_ne_2 _ _) (dq_ne2 a x u dd sl es ep) ⟨ho, hq⟩)
    (fun _ hq => wpAny_of_eq (rfl : isSame (.ref a) (.str x u) = pure false) hq) (.inr hu) h
theorem rc_dict_tup {P : Program} {w : World} {a b : Addr} {vs : List (Key × Value)} {items : Array Value} (hd : s.heap.DictOf (mixKind P w) a vs) (hb : s.heap.IsTuple b items) (hu : A.units < cLine) : SeqAt.RcAt A s (.ref a) (.ref b) false := fun prog w E Q h => by
  obtain ⟨⟨cls, dd, data, sl⟩, es, ep, ho, hx, hdat, _⟩ := hd
  obtain ⟨⟨cls2, dd2, data2, sl2⟩, ho2, hc2, n2, hd2⟩ := hb
  have hc : cls = .type "dict" := hx.1
  simp only at hdat hc2 hd2
  subst hc hdat hc2 hd2
  have hne : a ≠ b := fun e => by
    subst e
    rw [ho] at ho2
    simp at ho2
  exact SeqAt.rc_eq_decline_or (k := false) ⟨_, ho, rfl⟩ ⟨_, ho2, rfl⟩ (by decide) F.sub_tuple_dict F.slot_dict_eq F.slot_tuple_eq_refl
    (fun _ hq => call_meets F.slot_dict_eq ⟨_, ho, rfl⟩ F.entry_dict_eq (F.args_dict_eq_2 _ _) (dq_eq3 a b items n2 dd sl es ep dd2 sl2) ⟨ho, ho2, hq⟩)
    (fun _ hq => call_meets F.slot_tuple_eq_refl ⟨_, ho2, rfl⟩ F.entry_tuple_eq (F.args_tuple_eq_2 _ _) (dq_eq4 a b items n2 dd sl es ep dd2 sl2) ⟨ho, ho2, hq⟩)
    (fun _ hq => wpAny_isSame_ref_other hne ho ho2 (by simp) hq) (.inr hu) h
end
def isS (z : Str) : PyData → Bool
  | .str x => x == z
  | _ => false
section
variable {X : Cx}
theorem op_eqQs (hu : X.A.units + 64 < cLine) : OpR X (compareOp .Eq) (fun x y H Q => ∃ d c t z, y = .str z ∧ Dq d c H x t ∧ Q (.bl (isS z t)) H) := by
  intro pins s σ H x y v u Q I rx ry h
  obtain ⟨d, c, t, z, rfl, hd, q⟩ := h
  obtain ⟨tk, rfl⟩ := ry
  have fin : ∀ b, SeqAt.RcAt X.A s v (.str z tk) b → b = isS z t → wpAny (model X.prog X.w) X.A (compareOp .Eq v (.str z tk)) (EP X pins σ Q) X.xe s := fun b hb e => by
    subst e
    exact hb X.prog X.w X.xe _ ⟨.bl _, H, I, rfl, q⟩
  have hu0 : X.A.units < cLine := by omega
  cases hd with
  | non =>
    cases rx
    exact fin _ (SeqAt.RcAt.none_str z tk) rfl
  | bl b =>
    cases rx
    exact fin _ (SeqAt.RcAt.bool_str b z tk) rfl
  | int i =>
    obtain ⟨t', rfl⟩ := rx
    exact fin _ (SeqAt.RcAt.int_str i t' z tk) rfl
  | str x =>
    obtain ⟨t', rfl⟩ := rx
    exact fin _ (SeqAt.RcAt.str_str x t' z tk) rfl
  | lst _ _ _ h _ =>
    cases rx
    obtain ⟨its, rv, p, hz⟩ := I.list (.inl (.inl h))
    exact fin _ (SeqAt.RcAt.list_str z tk p.isList hu0) rfl
  | tup h _ =>
    cases rx
    obtain ⟨its, rv, p, hz⟩ := I.tuple (.inl (.inl h))
    obtain ⟨o, e, hc, n, hdd⟩ := p
    exact fin _ (SeqAt.RcAt.tuple_str z tk ⟨o, e, hc, n, hdd⟩ hu0) rfl
  | dct h _ =>
    cases rx
    obtain ⟨_, _, vs, _, hdd⟩ := dk_of I.hok h
    exact fin _ (rc_dict_str z tk hdd hu0) rfl
theorem op_neQs (hu : X.A.units + 64 < cLine) : OpR X (compareOp .NotEq) (fun x y H Q => ∃ d c t z, y = .str z ∧ Dq d c H x t ∧ Q (.bl (!isS z t)) H) := by
  intro pins s σ H x y v u Q I rx ry h
  obtain ⟨d, c, t, z, rfl, hd, q⟩ := h
  obtain ⟨tk, rfl⟩ := ry
  have fin : ∀ b, SeqAt.RcNeAt X.A s v (.str z tk) b → b = (!isS z t) → wpAny (model X.prog X.w) X.A (compareOp .NotEq v (.str z tk)) (EP X pins σ Q) X.xe s := fun b hb e => by
    subst e
    exact hb X.prog X.w X.xe _ ⟨.bl _, H, I, rfl, q⟩
  have hu0 : X.A.units < cLine := by omega
  cases hd with
  | non =>
    cases rx
    exact fin _ (SeqAt.RcNeAt.none_str z tk) rfl
  | bl b =>
    cases rx
    exact fin _ (SeqAt.RcNeAt.bool_str b z tk) rfl
  | int i =>
    obtain ⟨t', rfl⟩ := rx
    exact fin _ (SeqAt.RcNeAt.int_str i t' z tk) rfl
  | str x =>
    obtain ⟨t', rfl⟩ := rx
    exact fin _ (SeqAt.RcNeAt.str_str x t' z tk) rfl
  | lst _ _ _ h _ =>
    cases rx
    obtain ⟨its, rv, p, hz⟩ := I.list (.inl (.inl h))
    exact fin _ (SeqAt.RcNeAt.list_str z tk p.isList hu0) rfl
  | tup h _ =>
    cases rx
    obtain ⟨its, rv, p, hz⟩ := I.tuple (.inl (.inl h))
    obtain ⟨o, e, hc, n, hdd⟩ := p
    exact fin _ (SeqAt.RcNeAt.tuple_str z tk ⟨o, e, hc, n, hdd⟩ hu0) rfl
  | dct h _ =>
    cases rx
    obtain ⟨_, _, vs, _, hdd⟩ := dk_of I.hok h
    exact fin _ (rcn_dict_str z tk hdd hu0) rfl
/-- x == () -/
theorem op_eqQ0 (hu : X.A.units + 64 < cLine) : OpR X (compareOp .Eq) (fun x y H Q => ∃ d c t b, y = .ref b ∧ H b = some (.tup []) ∧ Dq d c H x t ∧ Q (.bl (isNil t)) H) := by
  intro pins s σ H x y v u Q I rx ry h
  obtain ⟨d, c, t, b, rfl, hb, hd, q⟩ := h
  cases ry
  obtain ⟨its0, rv0, p0, _⟩ := I.tuple (.inl (.inl hb))
  obtain ⟨o0, e0, hc0, n0, hdd0⟩ := p0
  have hi0 : its0 = [] := by
    cases rv0
    rfl
  subst hi0
  have hb0 : s.heap.IsTuple b #[] := ⟨o0, e0, hc0, n0, hdd0⟩
  have fin : ∀ k, SeqAt.RcAt X.A s v (.ref b) k → k = isNil t → wpAny (model X.prog X.w) X.A (compareOp .Eq v (.ref b)) (EP X pins σ Q) X.xe s := fun k hk e => by
    subst e
    exact hk X.prog X.w X.xe _ ⟨.bl _, H, I, rfl, q⟩
  have hu0 : X.A.units < cLine := by omega
  cases hd with
  | non =>
    cases rx
    exact fin _ (SeqAt.RcAt.none_tuple hb0 hu0) rfl
  | bl k =>
    cases rx
    exact fin _ (SeqAt.RcAt.bool_tuple k hb0 hu0) rfl
  | int i =>
    obtain ⟨t', rfl⟩ := rx
    exact fin _ (SeqAt.RcAt.int_tuple i t' hb0 hu0) rfl
  | str x =>
    obtain ⟨t', rfl⟩ := rx
    exact fin _ (SeqAt.RcAt.str_tuple x t' hb0 hu0) rfl
  | lst _ _ _ h _ =>
    cases rx
    obtain ⟨its, rv, p, hz⟩ := I.list (.inl (.inl h))
    exact fin _ (SeqAt.RcAt.list_tuple p.isList hb0 hu0) rfl
  | @tup a xs ds h r =>
    cases rx
    obtain ⟨its, rv, p, hz⟩ := I.tuple (.inl (.inl h))
    obtain ⟨o, e, hc, n, hdd⟩ := p
    refine fin _ (SeqAt.RcAt.tuples (e := fun _ => true) ⟨o, e, hc, n, hdd⟩ hb0 hu0 fun j _ h2 => absurd h2 (by simp)) ?_
    cases r with
    | nil =>
      cases rv
      rfl
    | cons _ _ =>
      cases rv
      simp [isNil]
  | dct h _ =>
    cases rx
    obtain ⟨_, _, vs, _, hdd⟩ := dk_of I.hok h
    exact fin _ (rc_dict_tup hdd hb0 hu0) rfl
end
end Ksec
set_option Elab.async false
set_option linter.all false
set_option maxRecDepth 100000
set_option maxHeartbeats 4000000
namespace Ksec
open PySem PySem.Spec PyProof.Rows L2
abbrev sWhole : Stmt := topS 2
abbrev sWord : Stmt := topS 3
abbrev sIsUnk : Stmt := topS 4
abbrev sIsPair : Stmt := topS 5
abbrev sLeaf : Stmt := topS 6
abbrev sIsTerm : Stmt := topS 7
abbrev sLWord : Stmt := topS 16
abbrev sLWhole : Stmt := topS 17
abbrev sLTerm : Stmt := topS 18
theorem scWhole : FnScope ["thing"] ["thing"] (defScope sWhole) := ⟨rfl, rfl, rfl, by decide +kernel, rfl, by decide +kernel, by decide +kernel⟩
theorem scWord : FnScope ["thing", "sign"] ["thing"] (defScope sWord) := ⟨rfl, rfl, rfl, by decide +kernel, rfl, by decide +kernel, by decide +kernel⟩
theorem scIsUnk : FnScope ["thing"] ["thing"] (defScope sIsUnk) := ⟨rfl, rfl, rfl, by decide +kernel, rfl, by decide +kernel, by decide +kernel⟩
theorem scIsPair : FnScope ["thing"] ["thing"] (defScope sIsPair) := ⟨rfl, rfl, rfl, by decide +kernel, rfl, by decide +kernel, by decide +kernel⟩
theorem scLeaf : FnScope ["thing"] ["thing"] (defScope sLeaf) := ⟨rfl, rfl, rfl, by decide +kernel, rfl, by decide +kernel, by decide +kernel⟩
theorem scIsTerm : FnScope ["thing", "waiting", "part"] ["thing"] (defScope sIsTerm) := ⟨rfl, rfl, rfl, by decide +kernel, rfl, by decide +kernel, by decide +kernel⟩
theorem scLWord : FnScope ["_law_thing", "_law_sign"] ["_law_thing"] (defScope sLWord) := ⟨rfl, rfl, rfl, by decide +kernel, rfl, by decide +kernel, by decide +kernel⟩
theorem scLWhole : FnScope ["_law_thing"] ["_law_thing"] (defScope sLWhole) := ⟨rfl, rfl, rfl, by decide +kernel, rfl, by decide +kernel, by decide +kernel⟩
theorem scLTerm : FnScope ["_law_thing"] ["_law_thing"] (defScope sLTerm) := ⟨rfl, rfl, rfl, by decide +kernel, rfl, by decide +kernel, by decide +kernel⟩
/-! what the answers are -/
def tyD : PyData → String
  | .none => "NoneType"
  | .bool _ => "bool"
  | .int _ => "int"
  | .str _ => "str"
  | .list _ => "list"
  | .tuple _ => "tuple"
  | .dict _ => "dict"
theorem Dq.tyx {K : PySem.W.Frag} {d c : Addr} {H : Hp} {v : V} {t : PyData} (h : Dq d c H v t) : TyX K H v (.type (tyD t)) := by
  cases h with
  | non => exact .base .non
  | bl b => exact .base (.bl b)
  | int i => exact .base (.int i)
  | str x => exact .base (.str x)
  | lst _ _ _ h _ => exact .base (.lst h)
  | tup h _ => exact .base (.tup h)
  | dct h _ => exact .base (.dK h)
def isWhole : PyData → Bool
  | .int _ => true
  | _ => false
def isWordS (z : Str) : Bool := decide (1 ≤ z.length) && decide (z.length ≤ 8) && z.cps.toList.all fun c => decide (97 ≤ c) && decide (c ≤ 122)
def isWord : PyData → Bool
  | .str z => isWordS z
  | _ => false
def isUnkD : PyData → Bool
  | .tuple [a, .int n] => isQ a && decide (0 ≤ n)
  | _ => false
def isPairD : PyData → Bool
  | .tuple [a, _] => !isQ a
  | _ => false
def isLeaf (t : PyData) : Bool := isNil t || isWhole t || isWord t || isUnkD t
def isTerm : PyData → Bool
  | .int _ => true
  | .str z => isWordS z
  | .tuple [] => true
  | .tuple [a, b] => if isQ a then (match b with | .int n => decide (0 ≤ n) | _ => false) else isTerm a && isTerm b
  | _ => false
theorem kits (t : PyData) : kitB (tyD t) "int" = some (tyD t == "int" || tyD t == "bool") ∧ kitB (tyD t) "bool" = some (tyD t == "bool") ∧ kitB (tyD t) "tuple" = some (tyD t == "tuple") ∧ kitB (tyD t) "str" = some (tyD t == "str") := by
  cases t <;> (show kitB _ _ = _ ∧ _) <;> (simp only [tyD]; decide +kernel)
end Ksec
set_option Elab.async false
set_option linter.all false
set_option maxRecDepth 100000
set_option maxHeartbeats 4000000
namespace Ksec
open PySem PySem.Spec PyProof.Rows L2
open AutoSeq1 (wpAny_loadPart')
/-! list.extend of a tuple -/
theorem ext_meets (l : Addr) (items : Array Value) (n : Nat) (b : Addr) (items2 : Array Value) (n2 : Nat) (dd : Option Addr) (sl : Array (Option Value)) (hs0 : ¬(!items.isEmpty && Builtin.List.listTooLong (items.size + items2.size)) = true) (hs1 : items.size ≤ sizeLine) (hs2 : items.size + items2.size ≤ sizeLine + 1) :
    Meets (Builtin.«list.extend» ⟨[.ref l, .ref b], []⟩) (fun _ R s => s.heap.get? l = some { cls := .type "list", dict := none, data := .seq items n, slots := #[] } ∧ s.heap.get? b = some { cls := .type "tuple", dict := dd, data := .seq items2 n2, slots := sl } ∧ R (.ok (.ret Value.none)) { s with heap := s.heap.update l (Obj.mapSeq fun x => x ++ items2), toks := s.toks }) :=
  .of_wp fun prog w A R s h => by
    obtain ⟨hp, g, d, tk, os⟩ := s
    obtain ⟨hl, hb, h⟩ := h
    have f1 := AutoSeq1.idx_int
    have f2 := AutoSeq1.sub_tuple_tuple
    have f3 := AutoSeq1.sub_list_list
    have f4 := AutoSeq1.sub_tuple_list
    have f5 := AutoSeq1.sub_list_tuple
    have hz' : (items ++ items2).size ≤ sizeLine + 1 := by rw [Array.size_append]; exact hs2
    wp_walk using (wpAny_updateSeq hl rfl (hz := hs1) (_hz' := hz')), wpAny_loadPart' hl, wpAny_loadPart' hb
    exact ⟨_, rfl, h⟩
section
variable {X : Cx}
def rExtT : V → List V → Hp → VK → Prop := fun x vs H Q => ∃ l b xs zs, x = .ref l ∧ vs = [.ref b] ∧ H l = some (.lst xs) ∧ H b = some (.tup zs) ∧ xs.length + zs.length ≤ sizeLine ∧ Q .non (upd H l (.lst (xs ++ zs)))
theorem mt_extT : MtM X "list.extend" rExtT := by
  intro pins s σ H x vs v us Q I rx rv h
  obtain ⟨l, b, xs, zs, rfl, rfl, hH, hB, hz, q⟩ := h
  cases rx
  obtain ⟨u, rfl, ru⟩ := rv.one
  cases ru
  obtain ⟨z, its, n, r, hl, e⟩ := I.lstM hH
  obtain ⟨its2, r2, ⟨⟨cls, dd, data, sl⟩, e2, hc2, n2, hd2⟩, hz2⟩ := I.tuple (.inl (.inl hB))
  have hl2 := r2.length
  simp only at hc2 hd2
  subst hc2 hd2
  have hsz : its.toArray.size + its2.toArray.size ≤ sizeLine := by rw [List.size_toArray, List.size_toArray]; omega
  have hlong : ¬ (!its.toArray.isEmpty && Builtin.List.listTooLong (its.toArray.size + its2.toArray.size)) = true := by
    rw [notLongL hsz, Bool.and_false]
    exact Bool.false_ne_true
  refine call_meets F.slot_list_extend ⟨_, e, rfl⟩ F.entry_list_extend (F.args_list_extend_2 _ _)
    (ext_meets l its.toArray n b its2.toArray n2 dd sl hlong (by rw [List.size_toArray]; omega) (by omega)) ⟨e, e2, ?_⟩
  refine ⟨.non, _, I.lset (its' := its ++ its2) hH e (by simp) (r.append r2) ?_, rfl, q⟩
  rw [List.length_append]
  omega
/-! list(t), at no place of the machine's own -/
theorem call_list_ofS : CallR X (.type "list") (fun xs H Q => ∃ p ys, xs = [.ref p] ∧ SqT X.K H p ys ∧ ∀ l, H l = none → l ≠ sysModules → Q (.ref l) (upd H l (.lst ys))) := by
  intro pins s σ H xs us Q I r h
  obtain ⟨p, ys, rfl, hq, q⟩ := h
  obtain ⟨u, rfl, rx⟩ := vals1 r
  cases rx
  obtain ⟨its, r', pl, hz⟩ := I.tuple hq
  have hlen := r'.length
  obtain ⟨o, ho, hc, n, hd⟩ := pl
  exact call_list_seq p (.inr rfl) ho hc hd (fun h' c' kp e => ⟨.ref s.heap.objs.size, _, I.laid (t' := s.toks) kp (Nat.le_refl _) (show ObjOk X.prog X.w _ h' _ (.lst ys) from ⟨hz, its, c', r', e⟩), rfl, q _ (I.hok.fresh (Nat.le_refl _)) (Nat.ne_of_gt I.big)⟩) (by simp only [List.size_toArray] <;> omega)
/-! numbers and truths -/
def numD : PyData → Option Int
  | .int i => some i
  | .bool b => some (if b then 1 else 0)
  | _ => none
theorem op_eqN : OpR X (compareOp .Eq) (fun x y H Q => ∃ d c t n m, y = .int m ∧ Dq d c H x t ∧ numD t = some n ∧ Q (.bl (n == m)) H) := by
  intro pins s σ H x y v u Q I rx ry h
  obtain ⟨d, c, t, n, m, rfl, hd, hn, q⟩ := h
  obtain ⟨tk, rfl⟩ := ry
  cases hd with
  | bl b =>
    cases rx
    cases hn
    exact SeqAt.RcAt.bool_int b m tk X.prog X.w X.xe _ ⟨.bl _, H, I, rfl, q⟩
  | int i =>
    obtain ⟨t', rfl⟩ := rx
    cases hn
    exact SeqAt.RcAt.int_int n t' m tk X.prog X.w X.xe _ ⟨.bl _, H, I, rfl, q⟩
  | _ => cases hn
theorem op_subN : OpR X (binaryOp .Sub) (fun x y H Q => ∃ d c t n m, x = .int m ∧ Dq d c H y t ∧ numD t = some n ∧ Q (.int (m - n)) H) := by
  intro pins s σ H x y v u Q I rx ry h
  obtain ⟨d, c, t, n, m, rfl, hd, hn, q⟩ := h
  obtain ⟨tk, rfl⟩ := rx
  cases hd with
  | bl b =>
    cases ry
    cases hn
    exact IntBool.sub_int_bool ⟨.int _, H, I.tok _, ⟨_, rfl⟩, q⟩
  | int i =>
    obtain ⟨t', rfl⟩ := ry
    cases hn
    exact sub_int ⟨.int _, H, I.tok _, ⟨_, rfl⟩, q⟩
  | _ => cases hn
def strN : PyData → Str
  | .int i => toString i
  | .bool b => if b = true then "True" else "False"
  | _ => ""
theorem call_strN : CallR X (.type "str") (fun xs H Q => ∃ d c v t n, xs = [v] ∧ Dq d c H v t ∧ numD t = some n ∧ n.natAbs.log2 < 1920 ∧ Q (.str (strN t)) H) := by
  intro pins s σ H xs us Q I r h
  obtain ⟨d, c, v, t, n, rfl, hd, hn, hz, q⟩ := h
  obtain ⟨u, rfl, rx⟩ := vals1 r
  cases hd with
  | bl b =>
    cases rx
    exact PySem.P.str_of_bool ⟨.str _, H, I.tok _, ⟨_, rfl⟩, q⟩
  | int i =>
    obtain ⟨t', rfl⟩ := rx
    cases hn
    exact PySem.P.str_of_int hz ⟨.str _, H, I.tok _, ⟨_, rfl⟩, q⟩
  | _ => cases hn
end
/-! over a text -/
theorem lc_str {x : Str} {g : TG} {tt : TT} {te : TE} {vs : List Nat} {σ : L2.St} {H1 : Hp} {D : Addr} {Qd : Hp → Prop} (Pv : Nat → Hp → Prop) (h0 : Pv 0 (upd H1 D (.lst [])))
    (hs : ∀ i c H, x.cps[i]? = some c → Pv i H → g (.str ⟨#[c]⟩) (wipe σ vs) H fun σ2 H2 => wipe σ2 vs = wipe σ vs ∧ tt σ2 H2 fun b H3 =>
      if b = true then te σ2 H3 fun y H4 => ∃ acc, H4 D = some (.lst acc) ∧ acc.length < sizeLine ∧ Pv (i + 1) (upd H4 D (.lst (acc ++ [y]))) else Pv (i + 1) H3) (hd : ∀ H, Pv x.cps.size H → Qd H) :
    ∃ W : Nat → Nat → Hp → Prop, (∃ m, W 0 m (upd H1 D (.lst []))) ∧ ∀ i m H, W i m H →
      ((Its x).stop i H ∧ Qd H) ∨ ((Its x).go i H ∧ ∃ Nx : Hp → Prop, (∀ H', Nx H' → ∃ m', m' < m ∧ W (i + 1) m' H') ∧ ∀ x2 H', (Its x).yld i H x2 H' → g x2 (wipe σ vs) H' fun σ2 H2 => wipe σ2 vs = wipe σ vs ∧ tt σ2 H2 fun b H3 =>
        if b = true then te σ2 H3 fun y H4 => ∃ acc, H4 D = some (.lst acc) ∧ acc.length < sizeLine ∧ Nx (upd H4 D (.lst (acc ++ [y]))) else Nx H3) := by
  refine ⟨fun i m H => m = x.cps.size - i ∧ i ≤ x.cps.size ∧ Pv i H, ⟨x.cps.size, by simp, Nat.zero_le _, h0⟩, ?_⟩
  rintro i m H ⟨rfl, hi, p⟩
  by_cases hlt : i < x.cps.size
  · refine .inr ⟨hlt, Pv (i + 1), fun H' p' => ⟨x.cps.size - (i + 1), by omega, rfl, hlt, p'⟩, fun v H' y => ?_⟩
    obtain ⟨e, c, hc, rfl⟩ := y
    subst e
    exact hs i c _ hc p
  · have e : i = x.cps.size := by omega
    subst e
    exact .inl ⟨Nat.le_refl _, hd H p⟩
end Ksec
set_option Elab.async false
set_option linter.all false
set_option maxRecDepth 100000
set_option maxHeartbeats 4000000
namespace Ksec
open PySem PySem.Spec PyProof.Rows L2
theorem isS_q (t : PyData) : isS "?" t = isQ t := by cases t <;> rfl
/-- texts are short -/
def shortS (t : PyData) : Prop := ∀ z, t = .str z → z.length ≤ 1000
theorem one_lt (a b : Nat) : ([a] < [b]) = (a < b) := by
  apply propext
  rw [List.cons_lt_cons_iff]
  constructor
  · rintro (h | ⟨_, h⟩)
    · exact h
    · exact absurd h (List.not_lt_nil _)
  · exact .inl
theorem le_a (c : Nat) : (!decide ((⟨#[c]⟩ : Str).cps.toList < (("a" : Str)).cps.toList)) = decide (97 ≤ c) := by
  have e : ((⟨#[c]⟩ : Str).cps.toList < (("a" : Str)).cps.toList) = (c < 97) := one_lt c 97
  by_cases h : 97 ≤ c
  · rw [decide_eq_true h, decide_eq_false (by rw [e]; omega)]
    rfl
  · rw [decide_eq_false h, decide_eq_true (by rw [e]; omega)]
    rfl
theorem le_z (c : Nat) : (!decide ((("z" : Str)).cps.toList < (⟨#[c]⟩ : Str).cps.toList)) = decide (c ≤ 122) := by
  have e : ((("z" : Str)).cps.toList < (⟨#[c]⟩ : Str).cps.toList) = (122 < c) := one_lt 122 c
  by_cases h : c ≤ 122
  · rw [decide_eq_true h, decide_eq_false (by rw [e]; omega)]
    rfl
  · rw [decide_eq_false h, decide_eq_true (by rw [e]; omega)]
    rfl
theorem take_one {l : List Nat} {i c : Nat} (h : l[i]? = some c) : l.take (i + 1) = l.take i ++ [c] := by
  have hl : i < l.length := by
    by_cases z : i < l.length
    · exact z
    · rw [List.getElem?_eq_none (by omega)] at h
      cases h
  rw [List.take_add_one, h]
  rfl
section
variable {P : Program} {w : World} {K : PySem.W.Frag} {mg : Str → Option Value} {base : Heap}
/-! is_whole -/
def spWhole : Sp := fun vs H Q _ => ∃ (d c : Addr) (x : V) (t : PyData), vs = [x] ∧ Dq d c H x t ∧ Q (.bl (isWhole t)) H
theorem ok_whole {f : Addr} {fd : FuncData} {k : Nat} (F : Fun K "is_whole" "is_whole" sWhole f fd) (mi : mg "isinstance" = none) (m1 : mg "int" = none) (m2 : mg "bool" = none) :
    FnOk P w K mg base CX0 (k + 1) f fd ["thing"] spWhole := by
  refine F.ok scWhole (fun vs H Q E h => ?_) (fun cdv A outer s H vs Q E hr h => ?_)
  · obtain ⟨_, _, x, _, rfl, _⟩ := h
    rfl
  · obtain ⟨d, c, x, t, rfl, hx, q⟩ := h
    refine ⟨_, pss_one (ps_ret (pe_and (pe_callB call_isi (by rfl) mi (by decide +kernel) (pa_cons (pv 0) (pa_cons (pe_bltn (v := .ty "int") (by rfl) m1 (by decide +kernel) rfl) pa_nil)))
      (pe_one (pe_not (pe_callB call_isi (by rfl) mi (by decide +kernel) (pa_cons (pv 0) (pa_cons (pe_bltn (v := .ty "bool") (by rfl) m2 (by decide +kernel) rfl) pa_nil))))))), ?_⟩
    obtain ⟨e1, e2, _, _⟩ := kits t
    refine ⟨x, rfl, x, .ty "int", _, _, _, rfl, .ty _, hx.tyx, kit_ty e1, _, rfl, ?_⟩
    cases t with
    | int i => exact iteT ⟨x, rfl, x, .ty "bool", _, _, _, rfl, .ty _, hx.tyx, kit_ty e2, _, rfl, q⟩
    | bool b => exact iteT ⟨x, rfl, x, .ty "bool", _, _, _, rfl, .ty _, hx.tyx, kit_ty e2, _, rfl, q⟩
    | _ => exact iteF q
end
end Ksec
set_option Elab.async false
set_option linter.all false
set_option maxRecDepth 100000
set_option maxHeartbeats 4000000
namespace Ksec
open PySem PySem.Spec PyProof.Rows L2
/-! things of small parts -/
mutual
def gd (L : Nat) : PyData → Bool
  | .none => true
  | .bool _ => true
  | .int i => decide (i.natAbs ≤ 10 ^ 39)
  | .str z => decide (z.length ≤ L) && z.cps.toList.all fun c => decide (c < 128)
  | .list xs => gdAll L xs
  | .tuple xs => gdAll L xs
  | .dict kvs => gdKv L kvs
def gdAll (L : Nat) : List PyData → Bool
  | [] => true
  | x :: xs => gd L x && gdAll L xs
def gdKv (L : Nat) : List (PyData × PyData) → Bool
  | [] => true
  | (k, v) :: r => gd L k && gd L v && gdKv L r
end
theorem gd_str {L : Nat} {z : Str} (h : gd L (.str z) = true) : z.length ≤ L ∧ ∀ c ∈ z.cps.toList, c < 128 := by
  have h' : (decide (z.length ≤ L) && z.cps.toList.all fun c => decide (c < 128)) = true := h
  rw [Bool.and_eq_true, List.all_eq_true] at h'
  exact ⟨of_decide_eq_true h'.1, fun c hc => of_decide_eq_true (h'.2 c hc)⟩
theorem gd_str_mk {L : Nat} {z : Str} (h1 : z.length ≤ L) (h2 : ∀ c ∈ z.cps.toList, c < 128) : gd L (.str z) = true := by
  show (decide (z.length ≤ L) && z.cps.toList.all fun c => decide (c < 128)) = true
  rw [Bool.and_eq_true, List.all_eq_true]
  exact ⟨decide_eq_true h1, fun c hc => decide_eq_true (h2 c hc)⟩
theorem gd_two {L : Nat} {a b : PyData} (h : gd L (.tuple [a, b]) = true) : gd L a = true ∧ gd L b = true := by
  have h' : (gd L a && (gd L b && true)) = true := h
  simpa using h'
theorem gd_two_mk {L : Nat} {a b : PyData} (h1 : gd L a = true) (h2 : gd L b = true) : gd L (.tuple [a, b]) = true := by
  show (gd L a && (gd L b && true)) = true
  rw [h1, h2]
  rfl
mutual
theorem gd_mono {L M : Nat} (h : L ≤ M) : ∀ t : PyData, gd L t = true → gd M t = true
  | .none, _ => rfl
  | .bool _, _ => rfl
  | .int _, g => g
  | .str z, g => gd_str_mk (Nat.le_trans (gd_str g).1 h) (gd_str g).2
  | .list xs, g => gdAll_mono h xs g
  | .tuple xs, g => gdAll_mono h xs g
  | .dict kvs, g => gdKv_mono h kvs g
theorem gdAll_mono {L M : Nat} (h : L ≤ M) : ∀ ts : List PyData, gdAll L ts = true → gdAll M ts = true
  | [], _ => rfl
  | x :: xs, g => by
    have g' : (gd L x && gdAll L xs) = true := g
    rw [Bool.and_eq_true] at g'
    show (gd M x && gdAll M xs) = true
    rw [gd_mono h x g'.1, gdAll_mono h xs g'.2]
    rfl
theorem gdKv_mono {L M : Nat} (h : L ≤ M) : ∀ ts : List (PyData × PyData), gdKv L ts = true → gdKv M ts = true
  | [], _ => rfl
  | (k, v) :: xs, g => by
    have g' : (gd L k && gd L v && gdKv L xs) = true := g
    rw [Bool.and_eq_true, Bool.and_eq_true] at g'
    show (gd M k && gd M v && gdKv M xs) = true
    rw [gd_mono h k g'.1.1, gd_mono h v g'.1.2, gdKv_mono h xs g'.2]
    rfl
end
theorem gd_int {i : Int} (h : i.natAbs ≤ 10 ^ 39) : i.natAbs.log2 < 1920 ∧ (PyData.shown (.int i)).length ≤ 41 := by
  constructor
  · by_cases z : i.natAbs = 0
    · rw [z]
      decide
    · have h2 : i.natAbs < 2 ^ 1920 := Nat.lt_of_le_of_lt h (by decide +kernel)
      exact (Nat.log2_lt z).mpr h2
  · have e := int_text_length_le10 (k := 40) (a := i) (by decide) (Nat.lt_of_le_of_lt h (by decide +kernel))
    show (Str.ofString (toString i)).length ≤ 41
    rw [PySem.ofString_length]
    exact e
mutual
theorem gd_show {L : Nat} : ∀ t : PyData, gd L t = true → t.showable = true ∧ t.leavesShort 41 = true
  | .none, _ => ⟨rfl, rfl⟩
  | .bool _, _ => ⟨rfl, rfl⟩
  | .int i, g => by
    have h := gd_int (of_decide_eq_true g)
    exact ⟨decide_eq_true h.1, decide_eq_true h.2⟩
  | .str z, g => by
    refine ⟨rfl, ?_⟩
    show (z.cps.toList.all fun c => decide (c < 16 ^ 8)) = true
    rw [List.all_eq_true]
    intro c hc
    exact decide_eq_true (Nat.lt_trans ((gd_str g).2 c hc) (by decide))
  | .list xs, g => gdAll_show xs g
  | .tuple xs, g => gdAll_show xs g
  | .dict kvs, g => gdKv_show kvs g
theorem gdAll_show {L : Nat} : ∀ ts : List PyData, gdAll L ts = true → PyData.showableAll ts = true ∧ PyData.leavesShortAll 41 ts = true
  | [], _ => ⟨rfl, rfl⟩
  | x :: xs, g => by
    have g' : (gd L x && gdAll L xs) = true := g
    rw [Bool.and_eq_true] at g'
    obtain ⟨a1, a2⟩ := gd_show x g'.1
    obtain ⟨b1, b2⟩ := gdAll_show xs g'.2
    constructor
    · show (x.showable && PyData.showableAll xs) = true
      rw [a1, b1]
      rfl
    · show (x.leavesShort 41 && PyData.leavesShortAll 41 xs) = true
      rw [a2, b2]
      rfl
theorem gdKv_show {L : Nat} : ∀ ts : List (PyData × PyData), gdKv L ts = true → PyData.showableKv ts = true ∧ PyData.leavesShortKv 41 ts = true
  | [], _ => ⟨rfl, rfl⟩
  | (k, v) :: xs, g => by
    have g' : (gd L k && gd L v && gdKv L xs) = true := g
    rw [Bool.and_eq_true, Bool.and_eq_true] at g'
    obtain ⟨a1, a2⟩ := gd_show k g'.1.1
    obtain ⟨e1, e2⟩ := gd_show v g'.1.2
    obtain ⟨b1, b2⟩ := gdKv_show xs g'.2
    constructor
    · show (k.showable && v.showable && PyData.showableKv xs) = true
      rw [a1, e1, b1]
      rfl
    · show (k.leavesShort 41 && v.leavesShort 41 && PyData.leavesShortKv 41 xs) = true
      rw [a2, e2, b2]
      rfl
end
theorem gd_fits {L : Nat} {t : PyData} (g : gd L t = true) (hb : t.bulk ≤ 300000) : t.shown.length ≤ sizeLine := by
  have h := PyData.shown_le_bulk 41 (by decide) t (gd_show t g).2
  have : (41 + 2) * t.bulk ≤ 43 * 300000 := Nat.mul_le_mul (by decide) hb
  exact Nat.le_trans h (Nat.le_trans (show _ ≤ 12900041 by omega) (by decide))
/-- of small parts, so deep and so great at most -/
structure Fit (L n m : Nat) (t : PyData) : Prop where
  g : gd L t = true
  d : t.depth ≤ n
  b : t.bulk ≤ m
theorem Fit.mono {L n m L' n' m' : Nat} {t : PyData} (h : Fit L n m t) (h1 : L ≤ L') (h2 : n ≤ n') (h3 : m ≤ m') : Fit L' n' m' t := ⟨gd_mono h1 t h.g, Nat.le_trans h.d h2, Nat.le_trans h.b h3⟩
theorem depth_two (a b : PyData) : (PyData.tuple [a, b]).depth = max a.depth b.depth + 1 := by
  show max a.depth (max b.depth 0) + 1 = _
  omega
theorem bulk_two (a b : PyData) : (PyData.tuple [a, b]).bulk = a.bulk + b.bulk + 2 := by
  show a.bulk + 1 + (b.bulk + 1 + 0) = _
  omega
theorem Fit.two {L n m : Nat} {a b : PyData} (h : Fit L n m (.tuple [a, b])) : Fit L (n - 1) m a ∧ Fit L (n - 1) m b := by
  have h1 := h.d
  have h2 := h.b
  rw [depth_two] at h1
  rw [bulk_two] at h2
  exact ⟨⟨(gd_two h.g).1, by omega, by omega⟩, ⟨(gd_two h.g).2, by omega, by omega⟩⟩
section
variable {P : Program} {w : World} {K : PySem.W.Frag} {mg : Str → Option Value} {base : Heap}
/-! is_word -/
def okS (z : Str) : Bool := z.cps.toList.all fun c => decide (97 ≤ c) && decide (c ≤ 122)
def spWord : Sp := fun vs H Q _ => ∃ (d c : Addr) (x : V) (t : PyData), vs = [x] ∧ Dq d c H x t ∧ gd 100 t = true ∧ ∀ H', Same H H' → Q (.bl (isWord t)) H'
theorem ok_word {f : Addr} {fd : FuncData} {k : Nat} {tk : Tok} (F : Fun K "is_word" "is_word" sWord f fd) (mi : mg "isinstance" = none) (m1 : mg "str" = none) (m2 : mg "len" = none) (m3 : mg "all" = none) (gW : mg "WORD_LETTERS" = some (.int 8 tk)) :
    FnOk P w K mg base CX0 (k + 1) f fd ["thing"] spWord := by
  refine F.ok scWord (fun vs H Q E h => ?_) (fun cdv A outer s H vs Q E hr h => ?_)
  · obtain ⟨_, _, x, _, rfl, _⟩ := h
    rfl
  · obtain ⟨d, c, x, t, rfl, hx, hg, q⟩ := h
    refine ⟨_, pss_cons (ps_if (pt_not (pt_val (pe_callB call_isi (by rfl) mi (by decide +kernel) (pa_cons (pv 0) (pa_cons (pe_bltn (v := .ty "str") (by rfl) m1 (by decide +kernel) rfl) pa_nil))))) (pss_one (ps_ret pe_bl)) pss_nil)
      (pss_one (ps_ret (pe_and (pe_chain op_le op_le pe_int (pe_callB call_len_str (by rfl) m2 PySem.boot_len (pa_cons (pv 0) pa_nil)) (pe_glob (v := .int 8) (by rfl) gW ⟨tk, rfl⟩))
        (pe_one (pe_callB (cr_all rfl) (by rfl) m3 (by decide +kernel) (pa_cons
          (pe_lc (own := [("sign", 1)]) (g := gName 1) (tt := tYes) rfl scWord.nd (pi_str (pv 0)) (blkOk_by (own := [("sign", 1)]) (N := ["thing", "sign"]) (sc := defScope sWord) (by decide +kernel))
            (fun _ _ _ _ _ => pg_name (i := 1) scWord.nd rfl (Or.inl rfl)) (fun _ _ _ _ _ => pts_nil) (fun _ _ _ _ _ => pe_chain op_le_str op_le_str pe_str (pv 1) pe_str)) pa_nil)))))), ?_⟩
    obtain ⟨_, _, _, e4⟩ := kits t
    refine ⟨x, rfl, x, .ty "str", _, _, _, rfl, .ty _, hx.tyx, kit_ty e4, _, rfl, ?_⟩
    cases hx with
    | str z =>
      have hz := (gd_str hg).1
      refine iteF ?_
      refine ⟨.str z, rfl, z, rfl, Nat.le_trans hz (by decide), 1, _, rfl, rfl, _, rfl, ?_⟩
      have fin : ∀ b H', Same H H' → b = isWordS z → Q (.bl b) H' := fun b H' s' e => by
        subst e
        exact q H' s'
      by_cases h1 : 1 ≤ z.length
      · rw [decide_eq_true (show (1 : Int) ≤ (z.length : Int) by omega)]
        refine iteT ⟨_, _, rfl, rfl, _, rfl, ?_⟩
        by_cases h2 : z.length ≤ 8
        · rw [decide_eq_true (show (z.length : Int) ≤ 8 by omega)]
          refine iteT ⟨.str z, rfl, z, rfl, fun D nD => ?_⟩
          refine lc_str (x := z) (fun i H' => Same H H' ∧ H' D = some (.lst ((z.cps.toList.take i).map fun c => V.bl (decide (97 ≤ c) && decide (c ≤ 122))))) ⟨same_upd nD, upd_same⟩ (fun i ch H' hch h' => ?_) (fun H' h' => ?_)
          · obtain ⟨s', e'⟩ := h'
            refine ⟨rfl, yes ?_⟩
            refine ⟨.str ⟨#[ch]⟩, rfl, ("a" : Str), ⟨#[ch]⟩, rfl, rfl, decide (97 ≤ ch), congrArg V.bl (le_a ch), ?_⟩
            have hch' : z.cps.toList[i]? = some ch := by
              rw [Array.getElem?_toList]
              exact hch
            have last : ∀ b, b = (decide (97 ≤ ch) && decide (ch ≤ 122)) → ∃ acc, H' D = some (.lst acc) ∧ acc.length < sizeLine ∧ Same H (upd H' D (.lst (acc ++ [V.bl b]))) ∧ upd H' D (.lst (acc ++ [V.bl b])) D = some (.lst ((z.cps.toList.take (i + 1)).map fun c => V.bl (decide (97 ≤ c) && decide (c ≤ 122)))) := fun b eb => by
              subst eb
              refine ⟨_, e', ?_, fun b o e => ?_, ?_⟩
              · rw [List.length_map, List.length_take, ← len_strL]
                exact Nat.lt_of_le_of_lt (show _ ≤ 8 by omega) (by decide)
              · by_cases hb : b = D
                · rw [hb, nD] at e
                  cases e
                · rw [upd_ne hb]
                  exact s' b o e
              · rw [upd_same, take_one hch', List.map_append]
                rfl
            by_cases ha : 97 ≤ ch
            · rw [decide_eq_true ha]
              refine iteT ⟨⟨#[ch]⟩, ("z" : Str), rfl, rfl, last _ ?_⟩
              rw [le_z, decide_eq_true ha]
              rfl
            · rw [decide_eq_false ha]
              refine iteF (last _ ?_)
              rw [decide_eq_false ha]
              rfl
          · obtain ⟨s', e'⟩ := h'
            refine ⟨D, z.cps.toList.map fun c => (decide (97 ≤ c) && decide (c ≤ 122)), rfl, .inl (.inl ?_), ?_⟩
            · rw [List.take_of_length_le (by simp)] at e'
              rw [e', List.map_map]
              rfl
            · refine fin _ H' s' ?_
              unfold isWordS
              rw [decide_eq_true h1, decide_eq_true h2, List.all_map]
              rfl
        · rw [decide_eq_false (show ¬ (z.length : Int) ≤ 8 by omega)]
          refine iteF (fin _ H (Same.refl _) ?_)
          unfold isWordS
          rw [decide_eq_true h1, decide_eq_false h2]
          rfl
      · rw [decide_eq_false (show ¬ (1 : Int) ≤ (z.length : Int) by omega)]
        refine iteF ⟨_, rfl, iteF (fin _ H (Same.refl _) ?_)⟩
        unfold isWordS
        rw [decide_eq_false h1]
        rfl
    | _ => exact iteT (q H (Same.refl _))
end
end Ksec
set_option Elab.async false
set_option linter.all false
set_option maxRecDepth 100000
set_option maxHeartbeats 4000000
namespace Ksec
open PySem PySem.Spec PyProof.Rows L2
theorem DqAll.length {d c : Addr} {H : Hp} : ∀ {vs : List V} {ts : List PyData}, DqAll d c H vs ts → vs.length = ts.length
  | _, _, .nil => rfl
  | _, _, .cons _ r => congrArg (· + 1) (DqAll.length r)
theorem isTerm_two (a b : PyData) (h : isQ a = false) : isTerm (.tuple [a, b]) = (isTerm a && isTerm b) := by
  cases b <;> simp [isTerm, h]
theorem isTerm_leaf {t : PyData} (h : isPairD t = false) : isTerm t = isLeaf t := by
  cases t with
  | none => rfl
  | bool b => rfl
  | int i => rfl
  | str z => simp [isTerm, isLeaf, isNil, isWhole, isWord, isUnkD]
  | list xs => rfl
  | dict xs => rfl
  | tuple xs =>
    match xs, h with
    | [], _ => simp [isTerm, isLeaf, isNil]
    | [_], _ => simp [isTerm, isLeaf, isNil, isWhole, isWord, isUnkD]
    | [a, b], h =>
      have ha : isQ a = true := by simpa [isPairD] using h
      cases b <;> simp [isTerm, isLeaf, isNil, isWhole, isWord, isUnkD, ha]
    | _ :: _ :: _ :: _, _ => simp [isTerm, isLeaf, isNil, isWhole, isWord, isUnkD]
section
variable {P : Program} {w : World} {K : PySem.W.Frag} {mg : Str → Option Value} {base : Heap}
/-! is_unknown -/
def spIsUnk : Sp := fun vs H Q _ => ∃ (d c : Addr) (x : V) (t : PyData), vs = [x] ∧ Dq d c H x t ∧ Q (.bl (isUnkD t)) H
theorem ok_isunk {f fW : Addr} {fd fdW : FuncData} {k : Nat} (F : Fun K "is_unknown" "is_unknown" sIsUnk f fd) (GW : FnOk P w K mg base CX0 (k + 1) fW fdW ["thing"] spWhole) (bW : Binds K fdW ["thing"] []) (gW : mg "is_whole" = some (.ref fW)) (kW : PySem.W.keepIn K (.ref fW) = true)
    (mi : mg "isinstance" = none) (m3 : mg "tuple" = none) (m4 : mg "len" = none) : FnOk P w K mg base CX0 (k + 2) f fd ["thing"] spIsUnk := by
  refine F.ok scIsUnk (fun vs H Q E h => ?_) (fun cdv A outer s H vs Q E hr h => ?_)
  · obtain ⟨_, _, x, _, rfl, _⟩ := h
    rfl
  · obtain ⟨d, c, x, t, rfl, hx, q⟩ := h
    refine ⟨_, pss_cons (ps_if (PW.pt (pw_or (pt_not (pt_val (pe_callB call_isi (by rfl) mi (by decide +kernel) (pa_cons (pv 0) (pa_cons (pe_bltn (v := .ty "tuple") (by rfl) m3 (by decide +kernel) rfl) pa_nil)))))
        (pw_or1 (pt_cmpR op_ne (pe_callB call_len_seq (by rfl) m4 PySem.boot_len (pa_cons (pv 0) pa_nil)) pe_int (nomark _))))) (pss_one (ps_ret pe_bl)) pss_nil)
      (pss_one (ps_ret (pe_and (pe_cmpR (op_eqQs hr.units) (pe_ix ix_tup (pv 0) pe_int (fun _ _ => rfl)) pe_str (nomark _))
        (pe_and (pe_call GW hr (by rfl) gW kW bW .nil pass0 (pa_cons (pe_ix ix_tup (pv 0) pe_int (fun _ _ => rfl)) pa_nil))
          (pe_one (pe_cmpR op_ge (pe_ix ix_tup (pv 0) pe_int (fun _ _ => rfl)) pe_int (nomark _))))))), ?_⟩
    obtain ⟨_, _, e3, _⟩ := kits t
    refine ⟨x, rfl, x, .ty "tuple", _, _, _, rfl, .ty _, hx.tyx, kit_ty e3, _, rfl, ?_⟩
    cases hx with
    | @tup a xs ds h0 hr' =>
      refine iteF ⟨.ref a, rfl, a, xs, rfl, .inr (.inl (.inl h0)), rfl, _, rfl, ?_⟩
      cases hr' with
      | nil => exact iteT q
      | @cons v1 _ t1 _ h1 r1 =>
        cases r1 with
        | nil => exact iteT q
        | @cons v2 _ t2 _ h2 r2 =>
          cases r2 with
          | nil =>
            refine iteF ?_
            refine ⟨.ref a, rfl, a, _, 0, v1, rfl, rfl, .inl (.inl h0), atI_nat (j := 0) rfl, d, c, t1, _, rfl, h1, _, rfl, ?_⟩
            rw [isS_q]
            cases hq : isQ t1 with
            | false =>
              refine iteF ?_
              have e : isUnkD (.tuple [t1, t2]) = false := by cases t2 <;> simp [isUnkD, hq]
              rw [e] at q
              exact q
            | true =>
              refine iteT ⟨.ref a, rfl, a, _, 1, v2, rfl, rfl, .inl (.inl h0), atI_nat (j := 1) rfl, d, c, v2, t2, rfl, h2, _, rfl, ?_⟩
              cases h2 with
              | int n =>
                refine iteT ⟨.ref a, rfl, a, _, 1, .int n, rfl, rfl, .inl (.inl h0), atI_nat (j := 1) rfl, n, 0, rfl, rfl, ?_⟩
                have e : isUnkD (.tuple [t1, .int n]) = decide ((0 : Int) ≤ n) := by simp [isUnkD, hq]
                rw [e] at q
                exact q
              | _ => exact iteF q
          | @cons v3 xs3 t3 ds3 h3 r3 =>
            have hl : ((v1 :: v2 :: v3 :: xs3).length : Int) ≠ 2 := by
              show ((xs3.length + 1 + 1 + 1 : Nat) : Int) ≠ 2
              omega
            have e : isUnkD (.tuple (t1 :: t2 :: t3 :: ds3)) = false := by cases t2 <;> rfl
            rw [decide_eq_false (fun z => hl (V.int.inj z))]
            rw [e] at q
            exact iteT q
    | _ => exact iteT (iteT q)
/-! is_pair -/
def spIsPair : Sp := fun vs H Q _ => ∃ (d c : Addr) (x : V) (t : PyData), vs = [x] ∧ Dq d c H x t ∧ Q (.bl (isPairD t)) H
theorem ok_ispair {f : Addr} {fd : FuncData} {k : Nat} (F : Fun K "is_pair" "is_pair" sIsPair f fd) (mi : mg "isinstance" = none) (m3 : mg "tuple" = none) (m4 : mg "len" = none) :
    FnOk P w K mg base CX0 (k + 1) f fd ["thing"] spIsPair := by
  refine F.ok scIsPair (fun vs H Q E h => ?_) (fun cdv A outer s H vs Q E hr h => ?_)
  · obtain ⟨_, _, x, _, rfl, _⟩ := h
    rfl
  · obtain ⟨d, c, x, t, rfl, hx, q⟩ := h
    refine ⟨_, pss_one (ps_ret (pe_and (pe_callB call_isi (by rfl) mi (by decide +kernel) (pa_cons (pv 0) (pa_cons (pe_bltn (v := .ty "tuple") (by rfl) m3 (by decide +kernel) rfl) pa_nil)))
        (pe_and (pe_cmpR op_eq (pe_callB call_len_seq (by rfl) m4 PySem.boot_len (pa_cons (pv 0) pa_nil)) pe_int (nomark _))
          (pe_one (pe_cmpR (op_neQs hr.units) (pe_ix ix_tup (pv 0) pe_int (fun _ _ => rfl)) pe_str (nomark _)))))), ?_⟩
    obtain ⟨_, _, e3, _⟩ := kits t
    refine ⟨x, rfl, x, .ty "tuple", _, _, _, rfl, .ty _, hx.tyx, kit_ty e3, _, rfl, ?_⟩
    cases hx with
    | @tup a xs ds h0 hr' =>
      refine iteT ⟨.ref a, rfl, a, xs, rfl, .inr (.inl (.inl h0)), rfl, _, rfl, ?_⟩
      cases hr' with
      | nil => exact iteF q
      | @cons v1 _ t1 _ h1 r1 =>
        cases r1 with
        | nil => exact iteF q
        | @cons v2 _ t2 _ h2 r2 =>
          cases r2 with
          | nil =>
            refine iteT ?_
            refine ⟨.ref a, rfl, a, _, 0, v1, rfl, rfl, .inl (.inl h0), atI_nat (j := 0) rfl, d, c, t1, _, rfl, h1, ?_⟩
            rw [isS_q]
            exact q
          | @cons v3 xs3 t3 ds3 h3 r3 =>
            have hl : ((v1 :: v2 :: v3 :: xs3).length : Int) ≠ 2 := by
              show ((xs3.length + 1 + 1 + 1 : Nat) : Int) ≠ 2
              omega
            rw [decide_eq_false (fun z => hl (V.int.inj z))]
            exact iteF q
    | _ => exact iteF q
/-! is_leaf -/
def spLeaf : Sp := fun vs H Q _ => ∃ (d c : Addr) (x : V) (t : PyData), vs = [x] ∧ Dq d c H x t ∧ gd 100 t = true ∧ ∀ H', Same H H' → Q (.bl (isLeaf t)) H'
theorem ok_leaf {f f1 f2 f3 : Addr} {fd d1 d2 d3 : FuncData} {k : Nat} (F : Fun K "is_leaf" "is_leaf" sLeaf f fd)
    (G1 : FnOk P w K mg base CX0 (k + 2) f1 d1 ["thing"] spWhole) (b1 : Binds K d1 ["thing"] []) (g1 : mg "is_whole" = some (.ref f1)) (k1 : PySem.W.keepIn K (.ref f1) = true)
    (G2 : FnOk P w K mg base CX0 (k + 2) f2 d2 ["thing"] spWord) (b2 : Binds K d2 ["thing"] []) (g2 : mg "is_word" = some (.ref f2)) (k2 : PySem.W.keepIn K (.ref f2) = true)
    (G3 : FnOk P w K mg base CX0 (k + 2) f3 d3 ["thing"] spIsUnk) (b3 : Binds K d3 ["thing"] []) (g3 : mg "is_unknown" = some (.ref f3)) (k3 : PySem.W.keepIn K (.ref f3) = true) : FnOk P w K mg base CX0 (k + 3) f fd ["thing"] spLeaf := by
  refine F.ok scLeaf (fun vs H Q E h => ?_) (fun cdv A outer s H vs Q E hr h => ?_)
  · obtain ⟨_, _, x, _, rfl, _⟩ := h
    rfl
  · obtain ⟨d, c, x, t, rfl, hx, hg, q⟩ := h
    refine ⟨_, pss_one (ps_ret (pe_or (pe_cmpR (op_eqQ0 hr.units) (pv 0) (pe_tup pa_nil) (nomark _)) (pe_or (pe_call G1 hr (by rfl) g1 k1 b1 .nil pass0 (pa_cons (pv 0) pa_nil))
      (pe_or (pe_call G2 hr (by rfl) g2 k2 b2 .nil pass0 (pa_cons (pv 0) pa_nil)) (pe_one (pe_call G3 hr (by rfl) g3 k3 b3 .nil pass0 (pa_cons (pv 0) pa_nil))))))), ?_⟩
    refine ⟨x, rfl, Nat.zero_le _, fun p np => ?_⟩
    have s1 : Same H (upd H p (.tup [])) := same_upd np
    have hx1 := hx.keep (kxSame s1)
    refine ⟨d, c, t, p, rfl, upd_same, hx1, _, rfl, ?_⟩
    unfold isLeaf at q
    cases hn : isNil t with
    | true =>
      rw [hn] at q
      exact iteT (q _ s1)
    | false =>
      rw [hn] at q
      refine iteF ⟨x, rfl, d, c, x, t, rfl, hx1, _, rfl, ?_⟩
      cases hw : isWhole t with
      | true =>
        rw [hw] at q
        exact iteT (q _ s1)
      | false =>
        rw [hw] at q
        refine iteF ⟨x, rfl, d, c, x, t, rfl, hx1, hg, fun H2 s2 => ⟨_, rfl, ?_⟩⟩
        cases hd : isWord t with
        | true =>
          rw [hd] at q
          exact iteT (q _ (s1.trans s2))
        | false =>
          rw [hd] at q
          exact iteF ⟨x, rfl, d, c, x, t, rfl, hx1.keep (kxSame s2), q _ (s1.trans s2)⟩
/-! is_term -/
def allT : List PyData → Bool
  | [] => true
  | t :: ts => isTerm t && allT ts
theorem gdAll_cons {L : Nat} {t : PyData} {ts : List PyData} (h : gdAll L (t :: ts) = true) : gd L t = true ∧ gdAll L ts = true := by
  have h' : (gd L t && gdAll L ts) = true := h
  simpa using h'
theorem len_bulk : ∀ ts : List PyData, ts.length ≤ PyData.bulkAll ts
  | [] => Nat.le_refl _
  | t :: ts => by
    have := len_bulk ts
    show ts.length + 1 ≤ t.bulk + 1 + PyData.bulkAll ts
    omega
def spIsTerm : Sp := fun vs H Q _ => ∃ (d c : Addr) (x : V) (t : PyData), vs = [x] ∧ Dq d c H x t ∧ gd 100 t = true ∧ t.bulk ≤ 300000 ∧ ∀ H', Same H H' → Q (.bl (isTerm t)) H'
theorem ok_isterm {f fP fL : Addr} {fd fdP fdL : FuncData} {k : Nat} (F : Fun K "is_term" "is_term" sIsTerm f fd)
    (GP : FnOk P w K mg base CX0 (k + 3) fP fdP ["thing"] spIsPair) (bP : Binds K fdP ["thing"] []) (gP : mg "is_pair" = some (.ref fP)) (kP : PySem.W.keepIn K (.ref fP) = true)
    (GL : FnOk P w K mg base CX0 (k + 3) fL fdL ["thing"] spLeaf) (bL : Binds K fdL ["thing"] []) (gL : mg "is_leaf" = some (.ref fL)) (kL : PySem.W.keepIn K (.ref fL) = true) : FnOk P w K mg base CX0 (k + 4) f fd ["thing"] spIsTerm := by
  refine F.ok scIsTerm (fun vs H Q E h => ?_) (fun cdv A outer s H vs Q E hr h => ?_)
  · obtain ⟨_, _, x, _, rfl, _⟩ := h
    rfl
  · obtain ⟨d, c, x, t, rfl, hx, hg, hb, q⟩ := h
    refine ⟨_, pss_cons (ps_set (i := 1) scIsTerm.nd rfl (.inl rfl) (pe_lst (pa_cons (pv 0) pa_nil)))
      (pss_cons (ps_while PassesOwn.never (pt_truth (pv 1) (by intro _; rfl))
        (pss_cons (ps_set (i := 2) scIsTerm.nd rfl (.inl rfl) (pe_bm0 PySem.F.plainAttrs_list PySem.F.slot_list_pop PySem.F.type_list_pop mt_pop (pv 1)))
          (pss_one (ps_if (pt_val (pe_call GP hr (by rfl) gP kP bP .nil pass0 (pa_cons (pv 2) pa_nil)))
            (pss_one (ps_expr (pe_bm PySem.F.plainAttrs_list PySem.F.slot_list_extend PySem.F.type_list_extend mt_extT (pv 1) (pa_cons (pv 2) pa_nil))))
            (pss_one (ps_if (pt_not (pt_val (pe_call GL hr (by rfl) gL kL bL .nil pass0 (pa_cons (pv 2) pa_nil)))) (pss_one (ps_ret pe_bl)) pss_nil))))))
      (pss_one (ps_ret pe_bl))), ?_⟩
    refine ⟨x, rfl, (by show 1 ≤ sizeLine; decide), fun l nl => ?_⟩
    have s1 : Same H (upd H l (.lst [x])) := same_upd nl
    refine ⟨fun m σ H' => ∃ (y2 : Option V) (vs : List V) (ts : List PyData), σ = [some x, some (.ref l), y2] ∧ m = PyData.bulkAll ts ∧ m ≤ 300001 ∧ allT ts = isTerm t ∧ H' l = some (.lst vs.reverse) ∧ DqAll d c H vs ts ∧ gdAll 100 ts = true ∧ Same H H',
      ⟨PyData.bulkAll [t], none, [x], [t], rfl, rfl, ?_, ?_, upd_same, .cons hx .nil, ?_, s1⟩, fun m σ H' hW => ?_⟩
    · show t.bulk + 1 + 0 ≤ 300001
      omega
    · show (isTerm t && true) = isTerm t
      rw [Bool.and_true]
    · show (gd 100 t && true) = true
      rw [hg]
      rfl
    obtain ⟨y2, vs, ts, rfl, rfl, hm, hu, hl, hA, hgs, sm⟩ := hW
    refine ⟨.ref l, rfl, _, .inl ⟨_, .inl (.inl hl), rfl⟩, ?_⟩
    cases hA with
    | nil =>
      refine iteF ?_
      have e : isTerm t = true := hu.symm
      rw [e] at q
      exact q _ sm
    | @cons v vs t1 ts hv hr' =>
      obtain ⟨g1, g2⟩ := gdAll_cons hgs
      have hbk : PyData.bulkAll (t1 :: ts) = t1.bulk + 1 + PyData.bulkAll ts := rfl
      have hu' : (isTerm t1 && allT ts) = isTerm t := hu
      have hvl := hr'.length
      have hlb := len_bulk ts
      have hrev : (v :: vs).reverse = vs.reverse ++ [v] := List.reverse_cons
      rw [hrev] at hl ⊢
      refine ite2 (fun _ => ?_) (fun e => absurd (by simp) e)
      have hl2 : upd H' l (.lst (vs.reverse ++ [v]).dropLast) l = some (.lst vs.reverse) := by rw [upd_same, List.dropLast_concat]
      have sm2 : Same H (upd H' l (.lst (vs.reverse ++ [v]).dropLast)) := fun b o e => by
        rw [upd_ne (ne_of_none e nl)]
        exact sm b o e
      refine ⟨fun σ' H'' => ∃ m', m' < PyData.bulkAll (t1 :: ts) ∧ ∃ (y2 : Option V) (vs : List V) (ts : List PyData), σ' = [some x, some (.ref l), y2] ∧ m' = PyData.bulkAll ts ∧ m' ≤ 300001 ∧ allT ts = isTerm t ∧ H'' l = some (.lst vs.reverse) ∧ DqAll d c H vs ts ∧ gdAll 100 ts = true ∧ Same H H'', fun σ' H'' h => h, ?_⟩
      refine ⟨.ref l, rfl, .inl ⟨rfl, _, .inl (.inl hl)⟩, l, _, v, rfl, rfl, hl, by simp, ?_⟩
      generalize upd H' l (.lst (vs.reverse ++ [v]).dropLast) = H2 at *
      have hv2 := hv.keep (kxSame sm2)
      refine ⟨v, rfl, d, c, v, t1, rfl, hv2, _, rfl, ?_⟩
      cases hp : isPairD t1 with
      | false =>
        refine iteF ⟨v, rfl, d, c, v, t1, rfl, hv2, g1, fun H3 s3 => ⟨_, rfl, ?_⟩⟩
        have hl3 := s3 _ _ hl2
        rw [isTerm_leaf hp] at hu'
        cases hlf : isLeaf t1 with
        | false =>
          rw [hlf] at hu'
          refine iteT ?_
          have e : isTerm t = false := hu'.symm
          rw [e] at q
          exact q _ (sm2.trans s3)
        | true =>
          rw [hlf] at hu'
          exact iteF ⟨PyData.bulkAll ts, by omega, _, vs, ts, rfl, rfl, by omega, hu', hl3, hr', g2, sm2.trans s3⟩
      | true =>
        cases hv2 with
        | @tup b xs ds h0 _ =>
          cases hv with
          | @tup _ xs' ds' h0' hd =>
            have exs : xs' = xs := by
              have := sm2 _ _ h0'
              rw [h0] at this
              exact (HO.tup.inj (Option.some.inj this)).symm
            subst exs
            cases hd with
            | nil => cases hp
            | @cons w1 _ u1 _ q1 r1 =>
              cases r1 with
              | nil => cases hp
              | @cons w2 _ u2 _ q2 r2 =>
                cases r2 with
                | cons _ _ => cases hp
                | nil =>
                  have hq : isQ u1 = false := by simpa [isPairD] using hp
                  obtain ⟨ga, gb⟩ := gd_two g1
                  have hbt := bulk_two u1 u2
                  refine iteT ⟨.ref l, rfl, .inl ⟨rfl, _, .inl (.inl hl2)⟩, _, rfl, l, b, _, _, rfl, rfl, hl2, h0, ?_, ?_⟩
                  · rw [List.length_reverse]
                    exact Nat.le_trans (show vs.length + 2 ≤ 400000 by omega) (by decide)
                  rw [isTerm_two u1 u2 hq] at hu'
                  refine ⟨PyData.bulkAll (u2 :: u1 :: ts), ?_, _, w2 :: w1 :: vs, u2 :: u1 :: ts, rfl, rfl, ?_, ?_, ?_, .cons q2 (.cons q1 hr'), ?_, fun b o e => ?_⟩
                  · show u2.bulk + 1 + (u1.bulk + 1 + PyData.bulkAll ts) < _
                    omega
                  · show u2.bulk + 1 + (u1.bulk + 1 + PyData.bulkAll ts) ≤ _
                    omega
                  · show (isTerm u2 && (isTerm u1 && allT ts)) = isTerm t
                    rw [← hu']
                    cases isTerm u1 <;> cases isTerm u2 <;> rfl
                  · rw [upd_same]
                    simp
                  · show (gd 100 u2 && (gd 100 u1 && gdAll 100 ts)) = true
                    rw [ga, gb, g2]
                    rfl
                  · rw [upd_ne (ne_of_none e nl)]
                    exact sm2 b o e
        | _ => cases hp
end
end Ksec
set_option Elab.async false
set_option linter.all false
set_option maxRecDepth 100000
set_option maxHeartbeats 4000000
namespace Ksec
open PySem PySem.Spec PyProof.Rows L2
theorem letter_in (c : Nat) : decide (c ∈ letters.cps.toList) = (decide (97 ≤ c) && decide (c ≤ 122)) := by
  by_cases h : 97 ≤ c ∧ c ≤ 122
  · rw [decide_eq_true h.1, decide_eq_true h.2]
    have key : ∀ k : Fin 26, 97 + k.val ∈ letters.cps.toList := by decide +kernel
    have := key ⟨c - 97, by omega⟩
    have e : 97 + (c - 97) = c := by omega
    rw [show 97 + (⟨c - 97, by omega⟩ : Fin 26).val = c from e] at this
    exact decide_eq_true this
  · have key : ∀ c ∈ letters.cps.toList, 97 ≤ c ∧ c ≤ 122 := by decide +kernel
    rw [decide_eq_false (fun z => h (key c z))]
    by_cases h1 : 97 ≤ c
    · rw [decide_eq_true h1, decide_eq_false (fun z => h ⟨h1, z⟩)]
      rfl
    · rw [decide_eq_false h1]
      rfl
def badS (l : List Nat) : List Nat := l.filter fun c => !(decide (97 ≤ c) && decide (c ≤ 122))
theorem bad_step {l : List Nat} {i c : Nat} (h : l[i]? = some c) : badS (l.take (i + 1)) = if (decide (97 ≤ c) && decide (c ≤ 122)) = true then badS (l.take i) else badS (l.take i) ++ [c] := by
  unfold badS
  rw [take_one h, List.filter_append]
  cases hb : (decide (97 ≤ c) && decide (c ≤ 122)) with
  | true => simp only [List.filter_cons, hb, List.filter_nil, Bool.not_true, if_true, Bool.false_eq_true, if_false, List.append_nil]
  | false => simp only [List.filter_cons, hb, List.filter_nil, Bool.not_false, if_true, Bool.false_eq_true, if_false]
theorem bad_nil (l : List Nat) : (badS l).isEmpty = l.all fun c => (decide (97 ≤ c) && decide (c ≤ 122)) := by
  unfold badS
  induction l with
  | nil => rfl
  | cons c r ih =>
    rw [List.all_cons, ← ih, List.filter_cons]
    cases (decide (97 ≤ c) && decide (c ≤ 122)) <;> rfl
theorem dpStrs {K : PySem.W.Frag} {H : Hp} : ∀ l : List Nat, DpAll K H (l.map fun c => V.str ⟨#[c]⟩) (l.map fun c => .str ⟨#[c]⟩)
  | [] => .nil
  | n :: r => .cons (.str _) (dpStrs r)
theorem layStrs : ∀ l : List Nat, (∀ c ∈ l, c < 128) → PyData.canLayAll0 (l.map fun c => .str ⟨#[c]⟩) = true
  | [], _ => rfl
  | n :: r, h => by
    show (PyData.strOk ⟨#[n]⟩ && PyData.canLayAll0 (r.map fun c => .str ⟨#[c]⟩)) = true
    rw [layStrs r fun c hc => h c (List.mem_cons_of_mem _ hc)]
    have hn := h n (List.mem_cons_self ..)
    have : PyData.strOk ⟨#[n]⟩ = true := by
      unfold PyData.strOk
      rw [← Array.all_toList, List.all_eq_true]
      intro c hc
      have e : c = n := by simpa using hc
      subst e
      exact decide_eq_true (by omega)
    rw [this]
    rfl
theorem depStrs : ∀ l : List Nat, PyData.depthAll (l.map fun c => .str ⟨#[c]⟩) = 0
  | [] => rfl
  | n :: r => by
    show max 0 (PyData.depthAll (r.map fun c => .str ⟨#[c]⟩)) = 0
    rw [depStrs r]
    rfl
theorem shpS {l : List Nat} (h : ∀ c ∈ l, c < 128) : SeqAt.shaped (.list (l.map fun c => .str ⟨#[c]⟩)) = true := by
  have h1 : (PyData.list (l.map fun c => .str ⟨#[c]⟩)).canLay0 = true := layStrs l h
  have h2 : (PyData.list (l.map fun c => .str ⟨#[c]⟩)).depth ≤ 64 := by
    show PyData.depthAll (l.map fun c => .str ⟨#[c]⟩) + 1 ≤ 64
    rw [depStrs]
    decide
  unfold SeqAt.shaped
  rw [h1, decide_eq_true h2]
  rfl
theorem eqv_nil (l : List Nat) : PyData.eqv (.list (l.map fun c => .str ⟨#[c]⟩)) (.list []) = l.isEmpty := by
  cases l with
  | nil => simp [PyData.eqv, PyData.eqvAll]
  | cons c r => simp [PyData.eqv, PyData.eqvAll]
section
variable {P : Program} {w : World} {K : PySem.W.Frag} {mg : Str → Option Value} {base : Heap}
/-! the law's own: whole -/
theorem ok_lwhole {f : Addr} {fd : FuncData} {k : Nat} (F : Fun K "_law_whole" "_law_whole" sLWhole f fd) (mi : mg "isinstance" = none) (m1 : mg "int" = none) (m2 : mg "bool" = none) :
    FnOk P w K mg base CX0 (k + 1) f fd ["_law_thing"] spWhole := by
  refine F.ok scLWhole (fun vs H Q E h => ?_) (fun cdv A outer s H vs Q E hr h => ?_)
  · obtain ⟨_, _, x, _, rfl, _⟩ := h
    rfl
  · obtain ⟨d, c, x, t, rfl, hx, q⟩ := h
    refine ⟨_, pss_one (ps_ret (pe_and (pe_callB call_isi (by rfl) mi (by decide +kernel) (pa_cons (pv 0) (pa_cons (pe_bltn (v := .ty "int") (by rfl) m1 (by decide +kernel) rfl) pa_nil)))
      (pe_one (pe_not (pe_callB call_isi (by rfl) mi (by decide +kernel) (pa_cons (pv 0) (pa_cons (pe_bltn (v := .ty "bool") (by rfl) m2 (by decide +kernel) rfl) pa_nil))))))), ?_⟩
    obtain ⟨e1, e2, _, _⟩ := kits t
    refine ⟨x, rfl, x, .ty "int", _, _, _, rfl, .ty _, hx.tyx, kit_ty e1, _, rfl, ?_⟩
    cases t with
    | int i => exact iteT ⟨x, rfl, x, .ty "bool", _, _, _, rfl, .ty _, hx.tyx, kit_ty e2, _, rfl, q⟩
    | bool b => exact iteT ⟨x, rfl, x, .ty "bool", _, _, _, rfl, .ty _, hx.tyx, kit_ty e2, _, rfl, q⟩
    | _ => exact iteF q
/-! the law's own: is_word -/
theorem ok_lword {f : Addr} {fd : FuncData} {k : Nat} (F : Fun K "_law_is_word" "_law_is_word" sLWord f fd) (mi : mg "isinstance" = none) (m1 : mg "str" = none) (m2 : mg "len" = none) :
    FnOk P w K mg base CX0 (k + 1) f fd ["_law_thing"] spWord := by
  refine F.ok scLWord (fun vs H Q E h => ?_) (fun cdv A outer s H vs Q E hr h => ?_)
  · obtain ⟨_, _, x, _, rfl, _⟩ := h
    rfl
  · obtain ⟨d, c, x, t, rfl, hx, hg, q⟩ := h
    refine ⟨_, pss_cons (ps_if (PW.pt (pw_or (pt_not (pt_val (pe_callB call_isi (by rfl) mi (by decide +kernel) (pa_cons (pv 0) (pa_cons (pe_bltn (v := .ty "str") (by rfl) m1 (by decide +kernel) rfl) pa_nil)))))
        (pw_or1 (pt_not (pt_chain op_le op_le pe_int (pe_callB call_len_str (by rfl) m2 PySem.boot_len (pa_cons (pv 0) pa_nil)) pe_int))))) (pss_one (ps_ret pe_bl)) pss_nil)
      (pss_one (ps_ret (pe_cmpR (op_eqD hr.units)
          (pe_lc (own := [("_law_sign", 1)]) (g := gName 1) rfl scLWord.nd (pi_str (pv 0)) (blkOk_by (own := [("_law_sign", 1)]) (N := ["_law_thing", "_law_sign"]) (sc := defScope sLWord) (by decide +kernel))
            (fun _ _ _ _ _ => pg_name (i := 1) scLWord.nd rfl (Or.inl rfl)) (fun _ _ _ _ _ => pts_one (pt_cmpR (r := rNotInS) op_notInS (pv 1) pe_str (by rfl))) (fun _ _ _ _ _ => pv 1)) (pe_lst pa_nil) (nomark _)))), ?_⟩
    obtain ⟨_, _, _, e4⟩ := kits t
    refine ⟨x, rfl, x, .ty "str", _, _, _, rfl, .ty _, hx.tyx, kit_ty e4, _, rfl, ?_⟩
    cases hx with
    | str z =>
      have hz := (gd_str hg).1
      have hc := (gd_str hg).2
      refine iteF ?_
      refine ⟨.str z, rfl, z, rfl, Nat.le_trans hz (by decide), 1, _, rfl, rfl, _, rfl, ?_⟩
      have fin : ∀ b H', Same H H' → b = isWordS z → Q (.bl b) H' := fun b H' s' e => by
        subst e
        exact q H' s'
      by_cases h1 : 1 ≤ z.length
      · rw [decide_eq_true (show (1 : Int) ≤ (z.length : Int) by omega)]
        refine iteT ⟨_, _, rfl, rfl, _, rfl, ?_⟩
        by_cases h2 : z.length ≤ 8
        · rw [decide_eq_true (show (z.length : Int) ≤ 8 by omega)]
          refine iteF ⟨.str z, rfl, z, rfl, fun D nD => ?_⟩
          refine lc_str (x := z) (fun i H' => Same H H' ∧ H' D = some (.lst ((badS (z.cps.toList.take i)).map fun c => V.str ⟨#[c]⟩))) ⟨same_upd nD, upd_same⟩ (fun i ch H' hch h' => ?_) (fun H' h' => ?_)
          · obtain ⟨s', e'⟩ := h'
            have hch' : z.cps.toList[i]? = some ch := by
              rw [Array.getElem?_toList]
              exact hch
            have bs := bad_step hch'
            refine ⟨rfl, .str ⟨#[ch]⟩, rfl, ch, letters, rfl, rfl, _, rfl, ?_⟩
            rw [letter_in]
            cases hb : (decide (97 ≤ ch) && decide (ch ≤ 122)) with
            | true =>
              rw [hb, if_pos rfl] at bs
              refine iteF ⟨s', ?_⟩
              rw [bs]
              exact e'
            | false =>
              rw [hb, if_neg Bool.false_ne_true] at bs
              refine iteT ⟨_, rfl, _, e', ?_, fun b o e => ?_, ?_⟩
              · rw [List.length_map]
                have o1 : (badS (z.cps.toList.take i)).length ≤ (z.cps.toList.take i).length := List.length_filter_le ..
                rw [List.length_take, ← len_strL] at o1
                exact Nat.lt_of_le_of_lt (show _ ≤ 8 by omega) (by decide)
              · by_cases hb : b = D
                · rw [hb, nD] at e
                  cases e
                · rw [upd_ne hb]
                  exact s' b o e
              · rw [upd_same, bs, List.map_append]
                rfl
          · obtain ⟨s', e'⟩ := h'
            rw [List.take_of_length_le (by simp)] at e'
            refine ⟨Nat.zero_le _, fun p np => ?_⟩
            have s2 : Same H' (upd H' p (.lst [])) := same_upd np
            refine ⟨_, _, .lst (.inl (.inl (s2 _ _ e'))) (dpStrs _), .lst (.inl (.inl upd_same)) .nil, shpS ?_, (by decide +kernel), ?_⟩
            · intro ch hch
              exact hc ch (List.mem_filter.mp hch).1
            rw [eqv_nil, bad_nil]
            refine fin _ _ (s'.trans s2) ?_
            unfold isWordS
            rw [decide_eq_true h1, decide_eq_true h2]
            rfl
        · rw [decide_eq_false (show ¬ (z.length : Int) ≤ 8 by omega)]
          refine iteT (fin _ H (Same.refl _) ?_)
          unfold isWordS
          rw [decide_eq_true h1, decide_eq_false h2]
          rfl
      · rw [decide_eq_false (show ¬ (1 : Int) ≤ (z.length : Int) by omega)]
        refine iteF ⟨_, rfl, iteT (fin _ H (Same.refl _) ?_)⟩
        unfold isWordS
        rw [decide_eq_false h1]
        rfl
    | _ => exact iteT (iteT (q H (Same.refl _)))
/-! the law's own: is_term -/
def spLTerm (n : Nat) : Sp := fun vs H Q _ => ∃ (d c : Addr) (x : V) (t : PyData), vs = [x] ∧ Dq d c H x t ∧ gd 100 t = true ∧ t.depth ≤ n ∧ ∀ H', Same H H' → Q (.bl (isTerm t)) H'
def spLTermP : Nat → Sp
  | 0 => fun _ _ _ _ => False
  | n + 1 => spLTerm n
theorem ok_lterm1 {f fH fW : Addr} {fd fdH fdW : FuncData} {k n : Nat} (F : Fun K "_law_is_term" "_law_is_term" sLTerm f fd)
    (GH : FnOk P w K mg base CX0 (k + 1) fH fdH ["_law_thing"] spWhole) (bH : Binds K fdH ["_law_thing"] []) (gH : mg "_law_whole" = some (.ref fH)) (kH : PySem.W.keepIn K (.ref fH) = true)
    (GW : FnOk P w K mg base CX0 (k + 1) fW fdW ["_law_thing"] spWord) (bW : Binds K fdW ["_law_thing"] []) (gW : mg "_law_is_word" = some (.ref fW)) (kW : PySem.W.keepIn K (.ref fW) = true)
    (mi : mg "isinstance" = none) (m1 : mg "tuple" = none) (m2 : mg "len" = none) (m3 : mg "str" = none) (G : FnOk P w K mg base CX0 (k + 1 + n) f fd ["_law_thing"] (spLTermP n)) (b : Binds K fd ["_law_thing"] []) (g : mg "_law_is_term" = some (.ref f)) : FnOk P w K mg base CX0 (k + 2 + n) f fd ["_law_thing"] (spLTerm n) := by
  rw [show k + 2 + n = k + 1 + n + 1 by omega]
  refine F.ok scLTerm (fun vs H Q E h => ?_) (fun cdv A outer s H vs Q E hr h => ?_)
  · obtain ⟨_, _, x, _, rfl, _⟩ := h
    rfl
  · obtain ⟨d, c, x, t, rfl, hx, hg, hn, q⟩ := h
    have hr1 := hr.mono (show k + 1 ≤ k + 1 + n by omega)
    refine ⟨_, pss_cons (ps_if (pt_not (pt_val (pe_callB call_isi (by rfl) mi (by decide +kernel) (pa_cons (pv 0) (pa_cons (pe_bltn (v := .ty "tuple") (by rfl) m1 (by decide +kernel) rfl) pa_nil)))))
        (pss_one (ps_ret (pe_or (pe_call GH hr1 (by rfl) gH kH bH .nil pass0 (pa_cons (pv 0) pa_nil)) (pe_one (pe_call GW hr1 (by rfl) gW kW bW .nil pass0 (pa_cons (pv 0) pa_nil)))))) pss_nil)
      (pss_cons (ps_if (pt_cmpR (op_eqQ0 hr.units) (pv 0) (pe_tup pa_nil) (nomark _)) (pss_one (ps_ret pe_bl)) pss_nil)
      (pss_cons (ps_if (pt_cmpR op_ne (pe_callB call_len_seq (by rfl) m2 PySem.boot_len (pa_cons (pv 0) pa_nil)) pe_int (nomark _)) (pss_one (ps_ret pe_bl)) pss_nil)
      (pss_cons (ps_if (PW.pt (pw_and (pt_val (pe_callB call_isi (by rfl) mi (by decide +kernel) (pa_cons (pe_ix ix_tup (pv 0) pe_int (fun _ _ => rfl)) (pa_cons (pe_bltn (v := .ty "str") (by rfl) m3 (by decide +kernel) rfl) pa_nil))))
          (pw_and1 (pt_cmpR (op_eqQs hr.units) (pe_ix ix_tup (pv 0) pe_int (fun _ _ => rfl)) pe_str (nomark _)))))
        (pss_one (ps_ret (pe_and (pe_call GH hr1 (by rfl) gH kH bH .nil pass0 (pa_cons (pe_ix ix_tup (pv 0) pe_int (fun _ _ => rfl)) pa_nil)) (pe_one (pe_cmpR op_ge (pe_ix ix_tup (pv 0) pe_int (fun _ _ => rfl)) pe_int (nomark _)))))) pss_nil)
      (pss_one (ps_ret (pe_and (pe_call G hr (by rfl) g F.kp b .nil pass0 (pa_cons (pe_ix ix_tup (pv 0) pe_int (fun _ _ => rfl)) pa_nil))
        (pe_one (pe_call G hr (by rfl) g F.kp b .nil pass0 (pa_cons (pe_ix ix_tup (pv 0) pe_int (fun _ _ => rfl)) pa_nil))))))))), ?_⟩
    obtain ⟨_, _, e3, _⟩ := kits t
    refine ⟨x, rfl, x, .ty "tuple", _, _, _, rfl, .ty _, hx.tyx, kit_ty e3, _, rfl, ?_⟩
    have leaf : tyD t ≠ "tuple" → ∀ b, (isWhole t || isWord t) = b → b = isTerm t := by
      intro hne b hb
      subst hb
      cases t with
      | tuple _ => exact absurd rfl hne
      | _ => simp [isTerm, isWhole, isWord]
    by_cases htu : tyD t = "tuple"
    · cases hx with
      | @tup a xs ds h0 hr' =>
        refine iteF ?_
        refine ⟨.ref a, rfl, Nat.zero_le _, fun p np => ?_⟩
        have s1 : Same H (upd H p (.tup [])) := same_upd np
        refine ⟨d, c, .tuple ds, p, rfl, upd_same, .tup (s1 _ _ h0) (DqAll.keep (kxSame s1) hr'), _, rfl, ?_⟩
        have h01 := s1 _ _ h0
        generalize upd H p (.tup []) = H1 at *
        have hr1' := DqAll.keep (kxSame s1) hr'
        cases hr1' with
        | nil =>
          have e : isTerm (.tuple []) = true := by simp [isTerm]
          rw [e] at q
          exact iteT (q _ s1)
        | @cons v1 vr1 t1 tr1 q1 r1 =>
          refine iteF ⟨.ref a, rfl, a, _, rfl, .inr (.inl (.inl h01)), rfl, _, rfl, ?_⟩
          cases r1 with
          | nil =>
            have e : isTerm (.tuple [t1]) = false := by simp [isTerm]
            rw [e] at q
            exact iteT (q _ s1)
          | @cons v2 vr2 t2 tr2 q2 r2 =>
            cases r2 with
            | @cons v3 xs3 t3 ds3 h3 r3 =>
              have hl : ((v1 :: v2 :: v3 :: xs3).length : Int) ≠ 2 := by
                show ((xs3.length + 1 + 1 + 1 : Nat) : Int) ≠ 2
                omega
              have e : isTerm (.tuple (t1 :: t2 :: t3 :: ds3)) = false := by simp [isTerm]
              rw [decide_eq_false (fun z => hl (V.int.inj z))]
              rw [e] at q
              exact iteT (q _ s1)
            | nil =>
              refine iteF ?_
              obtain ⟨g1, g2⟩ := gd_two hg
              rw [depth_two] at hn
              refine ⟨.ref a, rfl, a, _, 0, v1, rfl, rfl, .inl (.inl h01), atI_nat (j := 0) rfl, v1, .ty "str", _, _, _, rfl, .ty _, q1.tyx, kit_ty (kits t1).2.2.2, _, rfl, ?_⟩
              have rec_ : isQ t1 = false → tSeq (tRet (tAndV (tCall (spLTermP n) [] E0 (tCons (tOp (rIxT K) (tVar 0) (tC (V.int 0))) tNil)) (tCall (spLTermP n) [] E0 (tCons (tOp (rIxT K) (tVar 0) (tC (V.int 1))) tNil)))) (fun _ _ _ => True) { nx := fun _ H' => Q .non H', rt := Q } (L2.start [Str.ofString "_law_thing"] [V.ref a]) H1 := by
                intro hq
                cases n with
                | zero => exact absurd hn (by omega)
                | succ m =>
                  rw [isTerm_two t1 t2 hq] at q
                  refine ⟨.ref a, rfl, a, _, 0, v1, rfl, rfl, .inl (.inl h01), atI_nat (j := 0) rfl, d, c, v1, t1, rfl, q1, g1, by omega, fun H2 s2 => ⟨_, rfl, ?_⟩⟩
                  cases hb1 : isTerm t1 with
                  | false =>
                    rw [hb1] at q
                    exact iteF (q _ (s1.trans s2))
                  | true =>
                    rw [hb1] at q
                    exact iteT ⟨.ref a, rfl, a, _, 1, v2, rfl, rfl, .inl (.inl (s2 _ _ h01)), atI_nat (j := 1) rfl, d, c, v2, t2, rfl, q2.keep (kxSame s2), g2, by omega, fun H3 s3 => q _ (s1.trans (s2.trans s3))⟩
              cases t1 with
              | str z =>
                refine iteT ⟨.ref a, rfl, a, _, 0, v1, rfl, rfl, .inl (.inl h01), atI_nat (j := 0) rfl, d, c, _, _, rfl, q1, _, rfl, ?_⟩
                rw [isS_q]
                cases hq : isQ (.str z) with
                | false => exact iteF (rec_ hq)
                | true =>
                  refine iteT ⟨.ref a, rfl, a, _, 1, v2, rfl, rfl, .inl (.inl h01), atI_nat (j := 1) rfl, d, c, v2, t2, rfl, q2, _, rfl, ?_⟩
                  cases q2 with
                  | int m =>
                    refine iteT ⟨.ref a, rfl, a, _, 1, .int m, rfl, rfl, .inl (.inl h01), atI_nat (j := 1) rfl, m, 0, rfl, rfl, ?_⟩
                    have e : isTerm (.tuple [.str z, .int m]) = decide ((0 : Int) ≤ m) := by simp [isTerm, hq]
                    rw [e] at q
                    exact q _ s1
                  | _ =>
                    simp only [isTerm, hq, if_true] at q
                    exact iteF (q _ s1)
              | _ => exact iteF (rec_ rfl)
      | _ => exact absurd htu (by simp [tyD])
    · have e : (tyD t == "tuple") = false := beq_eq_false_iff_ne.mpr htu
      rw [e]
      refine iteT ⟨x, rfl, d, c, x, t, rfl, hx, _, rfl, ?_⟩
      cases hw : isWhole t with
      | true =>
        refine iteT ?_
        have e2 := leaf htu true (by rw [hw]; rfl)
        rw [← e2] at q
        exact q _ (Same.refl _)
      | false =>
        have e2 := leaf htu (isWord t) (by rw [hw]; rfl)
        rw [← e2] at q
        exact iteF ⟨x, rfl, d, c, x, t, rfl, hx, hg, q⟩
theorem ok_lterm {f fH fW : Addr} {fd fdH fdW : FuncData} {k : Nat} (F : Fun K "_law_is_term" "_law_is_term" sLTerm f fd)
    (GH : FnOk P w K mg base CX0 (k + 1) fH fdH ["_law_thing"] spWhole) (bH : Binds K fdH ["_law_thing"] []) (gH : mg "_law_whole" = some (.ref fH)) (kH : PySem.W.keepIn K (.ref fH) = true)
    (GW : FnOk P w K mg base CX0 (k + 1) fW fdW ["_law_thing"] spWord) (bW : Binds K fdW ["_law_thing"] []) (gW : mg "_law_is_word" = some (.ref fW)) (kW : PySem.W.keepIn K (.ref fW) = true)
    (mi : mg "isinstance" = none) (m1 : mg "tuple" = none) (m2 : mg "len" = none) (m3 : mg "str" = none) (b : Binds K fd ["_law_thing"] []) (g : mg "_law_is_term" = some (.ref f)) : ∀ n, FnOk P w K mg base CX0 (k + 2 + n) f fd ["_law_thing"] (spLTerm n)
  | 0 => ok_lterm1 (n := 0) F GH bH gH kH GW bW gW kW mi m1 m2 m3 ⟨fun _ _ _ _ h => h.elim, fun _ _ _ _ _ _ _ _ _ _ _ _ _ h => h.elim⟩ b g
  | n + 1 => ok_lterm1 (n := n + 1) F GH bH gH kH GW bW gW kW mi m1 m2 m3 (by
      have h := ok_lterm F GH bH gH kH GW bW gW kW mi m1 m2 m3 b g n
      rw [show k + 1 + (n + 1) = k + 2 + n by omega]
      exact h) b g
end
end Ksec
set_option Elab.async false
set_option linter.all false
set_option maxRecDepth 100000
set_option maxHeartbeats 4000000
namespace Ksec
open PySem PySem.Spec PyProof.Rows L2
/-! defs that are called where no repr is under way -/
structure GOk (P : Program) (w : World) (K : PySem.W.Frag) (mg : Str → Option Value) (base : Heap) (k : Nat) (f : Addr) (fd : FuncData) (ps : List Str) (sp : Sp) : Prop where
  len : ∀ vs H Q E, sp vs H Q E → vs.length = ps.length
  run : ∀ (A : Around) (outer : List Env) (s : Shared) (H : Hp) (args : Args) (us : List Value) (vs : List V) (Q : VK) (E : XK), A.guards = some [] → Room k A → Env0 P w K mg base A outer s H → BindsTo s fd args (ps.zip us) → Vals vs us → sp vs H Q E →
    codeAny (model P w) A (.call (.ref f) args) (CR CX0 outer P w H s Q E) s
theorem gok_of {P : Program} {w : World} {K : PySem.W.Frag} {mg : Str → Option Value} {base : Heap} {x qual : Str} {st : Stmt} {f : Addr} {fd : FuncData} {N ps : List Str} {k : Nat} {sp : Sp} (F : Fun K x qual st f fd) (S : FnScope N ps (defScope st))
    (len : ∀ vs H Q E, sp vs H Q E → vs.length = ps.length)
    (hbody : ∀ (cdv : Value) (A : Around) (outer : List Env) (s : Shared) (H : Hp) (vs : List V) (Q : VK) (E : XK), A.guards = some [] → Room k (A.deeper (envOfC qual (defScope st) s.heap.objs.size f cdv)) → sp vs H Q E →
      ∃ t, PSs (cxOf CX0 P w K mg base N qual (defScope st) f cdv A outer s H E).nox (defBody st) t ∧ t { nx := fun _ H' => Q .non H', rt := Q } (start N vs) H) : GOk P w K mg base (k + 1) f fd ps sp := by
  refine ⟨len, fun A outer s H args us vs Q E hg hr e0 hb r hsp => ?_⟩
  obtain ⟨oc, od, kV, doc, pm, an, cdv, ct, osl, rfl, lk, hcd⟩ := F.ex
  have hl := len _ _ _ _ hsp
  have old : ∀ b o, base.get? b = some o → s.heap.get? b = some o := fun b o e => (e0.bs b o e).1
  have kin := e0.mod.kin.keeps old
  have loc : ∀ y ∈ ps.zip us, (defScope st).names.lookup y.1 = some .local ∨ ((defScope st).names.lookup y.1 = some .cell ∧ ((cellsFrom (s.heap.objs.size + 1) (defScope st).names []).lookup y.1).isSome = true) := by
    rintro ⟨n, v⟩ hy
    cases S.par n (List.of_mem_zip hy).1 with
    | inl z => exact .inl z
    | inr z => exact .inr ⟨z, PySem.W.cellsFrom_some _ _ _ (.inl z)⟩
  refine codeAny_call_function hr.depth (kin _ _ lk) rfl S.co S.gen rfl (PySem.W.codeRec_of kin hcd) (hb _ _ _ _ (wpAny_newFunctionEnv_cells S.kind loc fun env he s1 xx => ?_))
  subst he
  refine ⟨(e0.mod.nolimit.keeps old).keeps xx.toInCall.keep, codeAny_func ?_⟩
  obtain ⟨t, ht, hq⟩ := hbody cdv A outer s H vs Q E hg (hr.deeper _) hsp
  have I := inv_start (E := E) (CX := CX0) S hr.hd e0 hl r xx
  have ends : ∀ {σ' : L2.St} {H' : Hp} {v : V} {u : Value} {s' : Shared}, Inv (cxOf CX0 P w K mg base N qual (defScope st) f cdv A outer s H E) [] σ' H' s' → RelV v u → Q v H' → CE outer P w H s Q u s' := fun J rv z => ⟨_, _, J.os, J.bare, J.base, J.hok, rv, z⟩
  refine wpAny_mono (ht.nox.run [] s1 (start N vs) H _ I hq) (fun fl s' hs => ?_) fun _ _ hs => hs
  match fl, hs with
  | .ret u, ⟨v, σ', H', J, rv, z⟩ => exact ends J rv z
  | .next, ⟨σ', H', J, z⟩ => exact ends (v := V.non) (u := Value.none) J rfl z
  | .brk, ⟨_, _, _, z⟩ => exact z.elim
  | .cont, ⟨_, _, _, z⟩ => exact z.elim
theorem pe_gcall {X : Cx} {k : Nat} {f : Addr} {fd : FuncData} {ps : List Str} {sp : Sp} {x : Str} {p pos : Pos} {e : Expr} {es : List Expr} {t : TA} (F : GOk X.prog X.w X.K X.mg X.base k f fd ps sp) (g0 : X.A.guards = some []) (hr : Room k X.A) (hg : Gl X x) (hm : X.mg x = some (.ref f))
    (hk : PySem.W.keepIn X.K (.ref f) = true) (hb : Binds X.K fd ps []) (ha : PA X (e :: es) t) (hdb : (x == ("__debug__" : Str)) = false := by decide) (he : starEach (e :: es) X.env = (false, eval e X.env) :: starEach es X.env := by rfl)
    (hpl : (backTo pos (starEach es X.env)).any (·.1) = false := by rfl) : PE X (.Call (.Name x p) (e :: es) [] pos) (tCall sp [] E0 t) := by
  constructor
  intro pins s σ H Q I h
  apply wpAny_Call_Name_kw
  apply ld_glob I hg hm (hd := hdb)
  refine PySem.W.callWith_K (h₀ := X.base) I.ok.mod.kin hk (thn (ha.run pos pins s σ H _ I h) ?_) he hpl
  rintro us s1 ⟨vs, H1, I1, r, q⟩
  refine ⟨I1.kIn, wpAny_call ?_⟩
  rw [List.append_nil] at q
  have hl : us.length = ps.length := by rw [← r.length]; exact F.len _ _ _ _ q
  have bd := hb s1 us I1.kIn (by rw [List.append_nil]; exact hl)
  rw [List.append_nil] at bd
  refine codeAny_mono (F.run X.A X.stack s1 H1 ⟨us, []⟩ us vs Q E0 g0 hr I1.env0 bd r q) fun rr s' hq => ?_
  match rr, hq with
  | .ok (.ret u), hq => exact I1.after hq
  | .ok .next, hq => exact hq.elim
  | .ok .brk, hq => exact hq.elim
  | .ok .cont, hq => exact hq.elim
  | .error e, hq => exact hq.elim
/-- the law's own call, where no repr is under way -/
theorem glaw {P : Program} {w : World} {K : PySem.W.Frag} {mg mb : Str → Option Value} {k : Nat} {fa a : Addr} {fd : FuncData} {x : Str} {sp : Sp} {s₁ : Shared} {vs : List Value} {ns : List Int} (KX : K.In s₁.heap) (hns : s₁.heap.Ns mainGlobals mg)
    (hb : s₁.heap.Ns builtinsNs mb) (hbb : ∀ x : Str, x ≠ "__name__" → mb x = bootBuiltins x) (hlim : s₁.heap.NoLimit) (hg : s₁.gens = #[]) (ha : s₁.heap.get? a = some { cls := .type "list", data := .seq vs.toArray }) (hi : IntsAre vs ns) (hl : ns.length ≤ sizeLine) (hr : Room k callerA)
    (F : ∀ base : Heap, K.In base → base.Ns mainGlobals mg → GOk P w K mg base k fa fd [x] sp) (hbind : ∀ (s : Shared) (u : Value), BindsTo s fd ⟨[u], []⟩ [(x, u)])
    (hsp : ∀ H : Hp, SqL K H a (ns.map V.int) → sp [.ref a] H (fun v _ => v = .bl true) fun _ _ _ => False) :
    codeAny (model P w) callerA (.call (.ref fa) ⟨[.ref a], []⟩) (fun r s' => r = .ok (.ret (.bool true)) ∧ OldK s₁.heap s'.heap ∧ s'.os = s₁.os ∧ AllBare s'.gens) s₁ := by
  have rv := vals_ints hi
  have from_ : ∀ H : Hp, Only H → SqL K H a (ns.map V.int) → HOk P w H s₁.heap → (∀ b u, H b = some u → b = a ∧ K.lookup a = none) → codeAny (model P w) callerA (.call (.ref fa) ⟨[.ref a], []⟩) (fun r s' => r = .ok (.ret (.bool true)) ∧ OldK s₁.heap s'.heap ∧ s'.os = s₁.os ∧ AllBare s'.gens) s₁ := by
    intro H hO hS hok hA
    have free : ∀ {b : Addr} {o : Obj}, s₁.heap.get? b = some o → (b = a → K.lookup a = none → False) → H b = none := fun {b o} e no => by
      cases z : H b with
      | none => rfl
      | some u => exact (no (hA b u z).1 (hA b u z).2).elim
    have nsK : ∀ {b : Addr} {m : Str → Option Value}, s₁.heap.Ns b m → (hidT s₁.heap H).Ns b m := by
      rintro b m ⟨o, es, ep, e, d, r⟩
      refine ⟨o, es, ep, hidT_get e (free e fun z _ => ?_), d, r⟩
      subst z
      rw [ha] at e
      cases e
      cases d
    have hKb : K.In (hidT s₁.heap H) := fun b o e => hidT_get (KX b o e) (free (KX b o e) fun z n => by
      subst z
      rw [e] at n
      cases n)
    have e0 : Env0 P w K mg (hidT s₁.heap H) callerA [] s₁ H :=
      ⟨rfl, ⟨hKb, nsK hns, ⟨mb, nsK hb, hbb⟩, hlim.elim fun mc h => ⟨mc, nsK h.1, h.2⟩⟩, fun _ _ e => of_hidT e, Nat.le_of_eq (hidT_size _ _), True.intro, fun b (z : b ∈ ([] : List Addr)) => absurd z List.not_mem_nil, hok, .of_eq hg⟩
    refine codeAny_mono ((F _ hKb (nsK hns)).run callerA [] s₁ H ⟨[.ref a], []⟩ [.ref a] [.ref a] _ _ rfl hr e0 (hbind s₁ (.ref a)) (.cons rfl .nil) (hsp H hS)) ?_
    intro r s' h
    match r, h with
    | .error e, h => exact h.elim
    | .ok .next, h => exact h.elim
    | .ok .brk, h => exact h.elim
    | .ok .cont, h => exact h.elim
    | .ok (.ret u), ⟨v, H', os, bare, un, hok', r', q⟩ =>
      cases (show v = .bl true from q)
      cases (show u = Value.bool true from r')
      refine ⟨rfl, OldK.of_keep fun b o e => ?_, os, bare⟩
      rcases hO b with z | ⟨ob, xs, z⟩
      · exact un.keep b o e z (fun (z : b ∈ ([] : List Addr)) => absurd z List.not_mem_nil) (fun (z : b ∈ ([] : List Addr)) => absurd z List.not_mem_nil)
      · have z1 := (hok b _ z).1
        have z2 := (hok' b _ (un.frzs b ob _ z)).1
        rw [e] at z1
        cases z1
        exact z2
  cases hk : K.lookup a with
  | some o =>
    have e := KX a o hk
    rw [ha] at e
    cases e
    exact from_ (fun _ => none) (fun _ => .inl rfl) (.inr ⟨_, vs.toArray, _, hk, rfl, rfl, rfl, by rw [List.size_toArray, hi.length]; exact hl, by simpa using rv⟩) (fun b u z => nomatch (show (none : Option HO) = some u from z)) (fun b u z => nomatch (show (none : Option HO) = some u from z))
  | none =>
    refine from_ (upd (fun _ => none) a (.frz { cls := .type "list", data := .seq vs.toArray } (.lst (ns.map V.int)))) (fun b => ?_) (.inl (.inr ⟨_, upd_same⟩)) (fun b u z => ?_) (fun b u z => ?_)
    all_goals by_cases hb' : b = a
    · exact .inr ⟨_, _, by rw [hb']; exact upd_same⟩
    · exact .inl (upd_ne hb')
    · subst hb'
      rw [upd_same] at z
      cases z
      exact ⟨ha, by rw [List.length_map]; exact hl, vs, _, rv, ha⟩
    · rw [upd_ne hb'] at z
      cases z
    · exact ⟨hb', hk⟩
    · rw [upd_ne hb'] at z
      cases z
theorem gwalk {l : PySem.W.OpenLaw} {n k : Nat} {q : Program} {loose : List Str} {XP : (Str → Option Value) → Heap → Prop} {YP : World → Heap → Prop} {d : DefRec} {K : Params → PySem.W.Frag} {sp : PySem.W.Frag → Sp} {x : Str} (hn : l.most = some n) (hn2 : n ≤ sizeLine) (hdf : d.params.defaults = [])
    (hr : Room k callerA) (hY : ∀ (w : World) (h : Heap), YP w h → (K w.params).In h)
    (F : ∀ (w : World) (mg : Str → Option Value) (fa : Addr) (h : Heap), (K w.params).In h → h.Ns mainGlobals mg → mg d.name = some (.ref fa) → ∃ fd : FuncData, (∀ (s : Shared) (u : Value), BindsTo s fd ⟨[u], []⟩ [(x, u)]) ∧
      ∀ base : Heap, (K w.params).In base → base.Ns mainGlobals mg → GOk l.prog w (K w.params) mg base k fa fd [x] (sp (K w.params)))
    (hsp : ∀ (K : PySem.W.Frag) (H : Hp) (a : Addr) (ns : List Int), ns.length ≤ n → SqL K H a (ns.map V.int) → sp K [.ref a] H (fun v _ => v = .bl true) fun _ _ _ => False) :
    PySem.W.WalkO q loose XP YP l.row.toRowW d [] (fun f vs => PySem.call f vs) := by
  refine Att.attach_call hn hdf fun w s₀ s₁ mg mb fa o pm cd doc a vs ns G Y ho hd hcd hmg hobj hints hlen hg => ?_
  obtain ⟨fd, bd, hF⟩ := F w mg fa _ (hY w _ Y) G.T.g hmg
  exact glaw (hY w _ Y) G.T.g G.T.b G.T.builtins G.T.nolimit hg hobj hints (Nat.le_trans hlen hn2) hr hF bd fun H hS => hsp _ H a ns hlen hS
end Ksec
set_option Elab.async false
set_option linter.all false
set_option maxRecDepth 100000
set_option maxHeartbeats 4000000
namespace Ksec
open PySem PySem.Spec PyProof.Rows L2
abbrev sRight : Stmt := topS 21
theorem scRight : FnScope ["_law_thing", "_law_kept"] ["_law_thing"] (defScope sRight) := ⟨rfl, rfl, rfl, by decide +kernel, rfl, by decide +kernel, by decide +kernel⟩
theorem room70 {k : Nat} {A : Around} (r : Room k A) : A.units + 70 < cLine := by
  have := r.un
  omega
section
variable {P : Program} {w : World} {K : PySem.W.Frag} {mg : Str → Option Value} {base : Heap}
def spRight : Sp := fun vs H Q _ => ∃ (d c : Addr) (x : V) (t : PyData), vs = [x] ∧ Dq d c H x t ∧ Fit 100 62 300000 t ∧ ∀ H', Same H H' → Q (.bl true) H'
theorem ok_right {f f1 f2 f3 f4 : Addr} {fd d1 d2 d3 d4 : FuncData} (F : Fun K "_law_right" "_law_right" sRight f fd)
    (G1 : FnOk P w K mg base CX0 70 f1 d1 ["thing"] spIsTerm) (b1 : Binds K d1 ["thing"] []) (g1 : mg "is_term" = some (.ref f1)) (k1 : PySem.W.keepIn K (.ref f1) = true)
    (G2 : FnOk P w K mg base CX0 70 f2 d2 ["_law_thing"] (spLTerm 62)) (b2 : Binds K d2 ["_law_thing"] []) (g2 : mg "_law_is_term" = some (.ref f2)) (k2 : PySem.W.keepIn K (.ref f2) = true)
    (G3 : FnOk P w K mg base CX0 70 f3 d3 ["thing"] spWord) (b3 : Binds K d3 ["thing"] []) (g3 : mg "is_word" = some (.ref f3)) (k3 : PySem.W.keepIn K (.ref f3) = true)
    (G4 : FnOk P w K mg base CX0 70 f4 d4 ["_law_thing"] spWord) (b4 : Binds K d4 ["_law_thing"] []) (g4 : mg "_law_is_word" = some (.ref f4)) (k4 : PySem.W.keepIn K (.ref f4) = true)
    (mp : mg "repr" = none) : GOk P w K mg base 71 f fd ["_law_thing"] spRight := by
  refine gok_of F scRight (fun vs H Q E h => ?_) (fun cdv A outer s H vs Q E g0 hr h => ?_)
  · obtain ⟨_, _, x, _, rfl, _⟩ := h
    rfl
  · obtain ⟨d, c, x, t, rfl, hx, hf, q⟩ := h
    refine ⟨_, pss_cons (ps_set (i := 1) scRight.nd rfl (.inl rfl) (pe_callB (call_reprQ g0 (room70 hr)) (by rfl) mp (by decide +kernel) (pa_cons (pv 0) pa_nil)))
      (pss_cons (ps_if (PW.pt (pw_or (pt_cmpR op_ne (pe_callB (call_reprQ g0 (room70 hr)) (by rfl) mp (by decide +kernel) (pa_cons (pe_call G1 hr (by rfl) g1 k1 b1 .nil pass0 (pa_cons (pv 0) pa_nil)) pa_nil)) (pe_callB (call_reprQ g0 (room70 hr)) (by rfl) mp (by decide +kernel) (pa_cons (pe_call G2 hr (by rfl) g2 k2 b2 .nil pass0 (pa_cons (pv 0) pa_nil)) pa_nil)) (nomark _))
        (pw_or1 (pt_cmpR op_ne (pe_callB (call_reprQ g0 (room70 hr)) (by rfl) mp (by decide +kernel) (pa_cons (pe_call G3 hr (by rfl) g3 k3 b3 .nil pass0 (pa_cons (pv 0) pa_nil)) pa_nil)) (pe_callB (call_reprQ g0 (room70 hr)) (by rfl) mp (by decide +kernel) (pa_cons (pe_call G4 hr (by rfl) g4 k4 b4 .nil pass0 (pa_cons (pv 0) pa_nil)) pa_nil)) (nomark _))))) (pss_one (ps_ret pe_bl)) pss_nil)
      (pss_one (ps_ret (pe_cmpR op_eq (pe_callB (call_reprQ g0 (room70 hr)) (by rfl) mp (by decide +kernel) (pa_cons (pv 0) pa_nil)) (pv 1) (nomark _))))), ?_⟩
    have h1 := (gd_show t hf.g).1
    have h2 : t.depth ≤ 64 := Nat.le_trans hf.d (by decide)
    have h3 := gd_fits hf.g hf.b
    have hb : ∀ b : Bool, (PyData.bool b).shown.length ≤ sizeLine := fun b => by cases b <;> decide +kernel
    have no : ∀ z : Str, (!decide (V.str z = V.str z)) = false := fun z => by rw [decide_eq_true rfl]; rfl
    refine ⟨x, rfl, d, c, x, t, rfl, hx, h1, h2, h3, ?_⟩
    refine ⟨x, rfl, d, c, x, t, rfl, hx, hf.g, hf.b, fun H1 s1 => ⟨d, c, _, _, rfl, .bl _, rfl, Nat.zero_le _, hb _, ?_⟩⟩
    refine ⟨x, rfl, d, c, x, t, rfl, hx.keep (kxSame s1), hf.g, hf.d, fun H2 s2 => ⟨d, c, _, _, rfl, .bl _, rfl, Nat.zero_le _, hb _, rfl, _, rfl, ?_⟩⟩
    rw [no]
    refine iteF ⟨x, rfl, d, c, x, t, rfl, hx.keep (kxSame (s1.trans s2)), hf.g, fun H3 s3 => ⟨d, c, _, _, rfl, .bl _, rfl, Nat.zero_le _, hb _, ?_⟩⟩
    refine ⟨x, rfl, d, c, x, t, rfl, hx.keep (kxSame (s1.trans (s2.trans s3))), hf.g, fun H4 s4 => ⟨d, c, _, _, rfl, .bl _, rfl, Nat.zero_le _, hb _, rfl, _, rfl, ?_⟩⟩
    rw [no]
    have s5 := s1.trans (s2.trans (s3.trans s4))
    refine iteF ⟨x, rfl, d, c, x, t, rfl, hx.keep (kxSame s5), h1, h2, h3, .str _, rfl, rfl, ?_⟩
    rw [decide_eq_true rfl]
    exact q _ s5
end
end Ksec
set_option Elab.async false
set_option linter.all false
set_option maxRecDepth 100000
set_option maxHeartbeats 4000000
namespace Ksec
open PySem PySem.Spec PyProof.Rows L2
/-! things that are written down -/
theorem PE.weak {X : Cx} {e : Expr} {t t' : TE} (h : PE X e t) (m : ∀ σ H Q, t' σ H Q → t σ H Q) : PE X e t' := ⟨fun pins s σ H Q I q => h.run pins s σ H Q I (m σ H Q q)⟩
theorem PA.weak {X : Cx} {es : List Expr} {t t' : TA} (h : PA X es t) (m : ∀ σ H Q, t' σ H Q → t σ H Q) : PA X es t' := ⟨fun pos pins s σ H Q I q => h.run pos pins s σ H Q I (m σ H Q q)⟩
/-- what is known ahead, and stays -/
structure PreOk (d c : Addr) (Pre : L2.St → Hp → Prop) : Prop where
  st : ∀ {σ : L2.St} {H H' : Hp}, Pre σ H → Same H H' → Pre σ H'
  dd : ∀ {σ : L2.St} {H : Hp}, Pre σ H → ∃ o, H d = some o
  cc : ∀ {σ : L2.St} {H : Hp}, Pre σ H → ∃ o, H c = some o
def tD (d c : Addr) (Pre : L2.St → Hp → Prop) (u : PyData) : TE := fun σ H Q => Pre σ H ∧ ∀ H' v, Same H H' → Dq d c H' v u → Q v H'
def tDs (d c : Addr) (Pre : L2.St → Hp → Prop) (us : List PyData) : TA := fun σ H Q => Pre σ H ∧ ∀ H' vs, Same H H' → DqAll d c H' vs us → Q vs H'
section
variable {X : Cx} {d c : Addr} {Pre : L2.St → Hp → Prop}
theorem pd_of {e : Expr} {te : TE} {u : PyData} (v : V) (h : PE X e te) (hv : ∀ H, Dq d c H v u) (m : ∀ (σ : L2.St) (H : Hp) (Q : VK), Q v H → te σ H Q) : PE X e (tD d c Pre u) :=
  PE.weak h fun σ H Q ⟨_, q⟩ => m σ H Q (q H v (Same.refl _) (hv H))
theorem pd_int {i : Int} {j : Nat} {pos : Pos} : PE X (.Constant (.int i) j pos) (tD d c Pre (.int i)) := pd_of (.int i) pe_int (fun _ => .int i) fun _ _ _ q => q
theorem pd_str {x : Str} {j : Nat} {pos : Pos} : PE X (.Constant (.str x) j pos) (tD d c Pre (.str x)) := pd_of (.str x) pe_str (fun _ => .str x) fun _ _ _ q => q
theorem pd_bl {b : Bool} {j : Nat} {pos : Pos} : PE X (.Constant (.bool b) j pos) (tD d c Pre (.bool b)) := pd_of (.bl b) pe_bl (fun _ => .bl b) fun _ _ _ q => q
theorem pd_non {j : Nat} {pos : Pos} : PE X (.Constant .none j pos) (tD d c Pre .none) := pd_of .non pe_non (fun _ => .non) fun _ _ _ q => q
theorem pd_neg {i : Int} {j : Nat} {p1 p2 : Pos} : PE X (.UnaryOp .USub (.Constant (.int i) j p1) p2) (tD d c Pre (.int (-i))) := pd_of (.int (-i)) (pe_un un_neg pe_int) (fun _ => .int _) fun _ _ _ q => ⟨i, rfl, q⟩
theorem pd_pow {j k : Nat} {p1 p2 p3 : Pos} : PE X (.BinOp (.Constant (.int 10) j p1) .Pow (.Constant (.int 39) k p2) p3) (tD d c Pre (.int (10 ^ 39))) :=
  pd_of (.int (10 ^ 39)) (pe_op op_pow pe_int pe_int) (fun _ => .int _) fun _ _ _ q => ⟨10, 39, rfl, rfl, ⟨by decide, by decide, by decide⟩, q⟩
theorem pd_var {e : Expr} {u : PyData} (i : Nat) (h : PE X e (tVar i)) (hp : ∀ σ H, Pre σ H → ∃ x, σ[i]? = some (some x) ∧ Dq d c H x u) : PE X e (tD d c Pre u) :=
  PE.weak h fun σ H Q ⟨p, q⟩ => by
    obtain ⟨x, e, hx⟩ := hp σ H p
    exact ⟨x, e, q H x (Same.refl _) hx⟩
theorem pd_nil : PA X [] (tDs d c Pre []) := PA.weak pa_nil fun σ H Q ⟨_, q⟩ => q H [] (Same.refl _) .nil
theorem pd_cons (hP : PreOk d c Pre) {e : Expr} {es : List Expr} {u : PyData} {us : List PyData} (h : PE X e (tD d c Pre u)) (hr : PA X es (tDs d c Pre us)) (hs : starEach (e :: es) X.env = (false, eval e X.env) :: starEach es X.env := by rfl) :
    PA X (e :: es) (tDs d c Pre (u :: us)) :=
  PA.weak (pa_cons h hr hs) fun σ H Q ⟨p, q⟩ => ⟨p, fun H1 v s1 hv => ⟨hP.st p s1, fun H2 vs s2 hvs => q H2 (v :: vs) (s1.trans s2) (.cons (hv.keep (kxSame s2)) hvs)⟩⟩
theorem len_dq {H : Hp} {vs : List V} {us : List PyData} (h : DqAll d c H vs us) (hl : us.length ≤ 100) : vs.length ≤ sizeLine := by
  rw [h.length]
  exact Nat.le_trans hl (by decide)
theorem pd_tup {es : List Expr} {us : List PyData} {x1 : Nat} {pos : Pos} (h : PA X es (tDs d c Pre us)) (hl : us.length ≤ 100 := by exact Nat.le_of_ble_eq_true rfl) : PE X (.Tuple es x1 pos) (tD d c Pre (.tuple us)) :=
  PE.weak (pe_tup h) fun σ H Q ⟨p, q⟩ => ⟨p, fun H1 vs s1 hvs => ⟨len_dq hvs hl, fun a na => q _ _ (s1.trans (same_upd na)) (.tup upd_same (DqAll.keep (kxSame (same_upd na)) hvs))⟩⟩
theorem pd_lst (hP : PreOk d c Pre) {es : List Expr} {us : List PyData} {pos : Pos} (h : PA X es (tDs d c Pre us)) (hl : us.length ≤ 100 := by exact Nat.le_of_ble_eq_true rfl) : PE X (.List es pos) (tD d c Pre (.list us)) :=
  PE.weak (pe_lstS h) fun σ H Q ⟨p, q⟩ => ⟨p, fun H1 vs s1 hvs => ⟨len_dq hvs hl, fun a na ns => by
    obtain ⟨o1, h1⟩ := hP.dd (hP.st p s1)
    obtain ⟨o2, h2⟩ := hP.cc (hP.st p s1)
    exact q _ _ (s1.trans (same_upd na)) (.lst (ne_of_none h1 na).symm (ne_of_none h2 na).symm ns upd_same (DqAll.keep (kxSame (same_upd na)) hvs))⟩⟩
theorem pd_dict0 {pos : Pos} : PE X (.Dict [] [] pos) (tD d c Pre (.dict [])) := PE.weak pe_dnewK fun σ H Q ⟨p, q⟩ => fun a na => q _ _ (same_upd na) (.dct upd_same .nil)
theorem pd_dict1 {i : Int} {j : Nat} {p1 pos : Pos} {e : Expr} {te : TE} {u : PyData} (he : PE X e te) (hp : ∀ σ H, Pre σ H → ∃ v, Dq d c H v u ∧ ∀ (H' : Hp) (Q : VK), Q v H' → te σ H' Q) :
    PE X (.Dict [some (.Constant (.int i) j p1)] [e] pos) (tD d c Pre (.dict [(.int i, u)])) :=
  PE.weak (pe_disp (pps_cons pe_int he pps_nil) rfl rfl (by simp) (by simp)) fun σ H Q ⟨p, q⟩ => fun a na => by
    obtain ⟨v, hv, hq⟩ := hp σ H p
    refine hq _ _ ⟨upd_same, [(Sum.inl i, v)], rfl, by simp, ?_⟩
    have s1 : Same H (upd (upd H a (.dK [])) a (.dK (mergeK [] [(Sum.inl i, v)]))) := fun b o e => by
      rw [upd_ne (ne_of_none e na), upd_ne (ne_of_none e na)]
      exact e
    exact q _ _ s1 (.dct upd_same (.cons (k := Sum.inl i) (hv.keep (kxSame s1)) .nil))
end
end Ksec
set_option Elab.async false
set_option linter.all false
set_option maxRecDepth 100000
set_option maxHeartbeats 4000000
namespace Ksec
open PySem PySem.Spec PyProof.Rows L2
abbrev sOdd : Stmt := topS 19
theorem scOdd : FnScope ["_law_deck_here", "_law_thing", "_law_some"] ["_law_deck_here", "_law_thing"] (defScope sOdd) := ⟨rfl, rfl, rfl, by decide +kernel, rfl, by decide +kernel, by decide +kernel⟩
def odd1 : List PyData := [.none, .bool true, .bool false, .int 0, .int (-1), .int (10 ^ 39), .str "", .str "A", .str "abcdefghi", .str "a b", .str "?", .str "a\n", .tuple [], .tuple [.int 1], .tuple [.int 1, .int 2, .int 3], .list [], .dict []]
def odd2 : List PyData := [.tuple [.str "?"], .tuple [.str "?", .int (-1)], .tuple [.str "?", .bool true], .tuple [.str "?", .str "a"], .tuple [.str "?", .int 1, .int 2], .tuple [.str "?", .tuple []], .tuple [.str "?", .none], .tuple [.none, .int 1]]
def odd3 (t : PyData) : List PyData := [.list [t], .tuple [t], .dict [(.int 0, t)], .tuple [.str "?", t], .tuple [t, .str "?"], .tuple [.str "?", .int 999], .tuple [.str "??", .int 1], .tuple [.int 1, .list [.int 2]]]
def oddE : List PyData := [.tuple [.str "?", .int 999], .tuple [.str "??", .int 1], .tuple [.int 1, .list [.int 2]]]
def oddL (t : PyData) : List PyData := odd1 ++ odd2 ++ odd3 t
theorem DqAll.app {d c : Addr} {H : Hp} {ws : List V} {us : List PyData} (h2 : DqAll d c H ws us) : ∀ {vs : List V} {ts : List PyData}, DqAll d c H vs ts → DqAll d c H (vs ++ ws) (ts ++ us)
  | _, _, .nil => h2
  | _, _, .cons h r => .cons h (DqAll.app h2 r)
theorem DqAll.mem {d c : Addr} {H : Hp} {v : V} : ∀ {vs : List V} {ts : List PyData}, DqAll d c H vs ts → v ∈ vs → ∃ t ∈ ts, Dq d c H v t
  | _, _, .cons h r, hm => by
    rcases List.mem_cons.mp hm with e | hm
    · subst e
      exact ⟨_, List.mem_cons_self .., h⟩
    · obtain ⟨t, ht, q⟩ := DqAll.mem r hm
      exact ⟨t, List.mem_cons_of_mem _ ht, q⟩
section
variable {P : Program} {w : World} {K : PySem.W.Frag} {mg : Str → Option Value} {base : Heap}
def spOdd : Sp := fun vs H Q _ => ∃ (d c : Addr) (x : V) (t : PyData), vs = [.ref d, x] ∧ Dk H d c ∧ Dq d c H x t ∧ ∀ H' y u, Dk H' d c → Kp d c H H' → Dq d c H' y u → u ∈ oddL t → Q y H'
theorem ok_odd {f fD : Addr} {fd fdD : FuncData} {k : Nat} (F : Fun K "_law_odd" "_law_odd" sOdd f fd) (GD : FnOk P w K mg base CX0 (k + 1) fD fdD ["_law_deck_here", "_law_many"] spDraw) (bD : Binds K fdD ["_law_deck_here", "_law_many"] [])
    (gD : mg "_law_draw" = some (.ref fD)) (kD : PySem.W.keepIn K (.ref fD) = true) (ml : mg "len" = none) : FnOk P w K mg base CX0 (k + 2) f fd ["_law_deck_here", "_law_thing"] spOdd := by
  refine F.ok scOdd (fun vs H Q E h => ?_) (fun cdv A outer s H vs Q E hr h => ?_)
  · obtain ⟨_, _, x, _, rfl, _⟩ := h
    rfl
  · obtain ⟨d, c, x, t, rfl, hD, hx, q⟩ := h
    obtain ⟨Pre, hPre⟩ : ∃ Pre : L2.St → Hp → Prop, Pre = fun σ H => ∃ y2, σ = [some (.ref d), some x, y2] ∧ Dq d c H x t ∧ Dk H d c := ⟨_, rfl⟩
    have hP : PreOk d c Pre := by
      subst hPre
      refine ⟨?_, ?_, ?_⟩
      · rintro σ H H' ⟨y2, e, h1, h2⟩ s'
        exact ⟨y2, e, h1.keep (kxSame s'), h2.same s'⟩
      · rintro σ H ⟨y2, e, h1, h2⟩
        obtain ⟨⟨_, z⟩, _⟩ := h2.lists
        exact ⟨_, z⟩
      · rintro σ H ⟨y2, e, h1, h2⟩
        obtain ⟨_, ⟨_, z⟩⟩ := h2.lists
        exact ⟨_, z⟩
    have hT : ∀ σ H, Pre σ H → ∃ x, σ[1]? = some (some x) ∧ Dq d c H x t := by
      subst hPre
      rintro σ H ⟨y2, rfl, h1, h2⟩
      exact ⟨x, rfl, h1⟩
    have hT2 : ∀ σ H, Pre σ H → ∃ v, Dq d c H v t ∧ ∀ (H' : Hp) (Q : VK), Q v H' → tVar 1 σ H' Q := by
      subst hPre
      rintro σ H ⟨y2, rfl, h1, h2⟩
      exact ⟨x, h1, fun H' Q q => ⟨x, rfl, q⟩⟩
    refine ⟨_, pss_cons (ps_set (i := 2) scOdd.nd rfl (.inl rfl) (pe_lst (t := tDs d c Pre odd1) (pd_cons hP pd_non (pd_cons hP pd_bl (pd_cons hP pd_bl (pd_cons hP pd_int (pd_cons hP pd_neg (pd_cons hP pd_pow (pd_cons hP pd_str (pd_cons hP pd_str (pd_cons hP pd_str (pd_cons hP pd_str (pd_cons hP pd_str (pd_cons hP pd_str (pd_cons hP (pd_tup pd_nil) (pd_cons hP (pd_tup (pd_cons hP pd_int pd_nil)) (pd_cons hP (pd_tup (pd_cons hP pd_int (pd_cons hP pd_int (pd_cons hP pd_int pd_nil)))) (pd_cons hP (pd_lst hP pd_nil) (pd_cons hP pd_dict0 pd_nil)))))))))))))))))))
      (pss_cons (ps_set (i := 2) scOdd.nd rfl (.inl rfl) (pe_op op_cat (pv 2) (pe_lst (t := tDs d c Pre odd2) (pd_cons hP (pd_tup (pd_cons hP pd_str pd_nil)) (pd_cons hP (pd_tup (pd_cons hP pd_str (pd_cons hP pd_neg pd_nil))) (pd_cons hP (pd_tup (pd_cons hP pd_str (pd_cons hP pd_bl pd_nil))) (pd_cons hP (pd_tup (pd_cons hP pd_str (pd_cons hP pd_str pd_nil))) (pd_cons hP (pd_tup (pd_cons hP pd_str (pd_cons hP pd_int (pd_cons hP pd_int pd_nil)))) (pd_cons hP (pd_tup (pd_cons hP pd_str (pd_cons hP (pd_tup pd_nil) pd_nil))) (pd_cons hP (pd_tup (pd_cons hP pd_str (pd_cons hP pd_non pd_nil))) (pd_cons hP (pd_tup (pd_cons hP pd_non (pd_cons hP pd_int pd_nil))) pd_nil)))))))))))
      (pss_cons (ps_set (i := 2) scOdd.nd rfl (.inl rfl) (pe_op op_cat (pv 2) (pe_lst (t := tDs d c Pre (odd3 t)) (pd_cons hP (pd_lst hP (pd_cons hP (pd_var 1 (pv 1) hT) pd_nil)) (pd_cons hP (pd_tup (pd_cons hP (pd_var 1 (pv 1) hT) pd_nil)) (pd_cons hP (pd_dict1 (pv 1) hT2) (pd_cons hP (pd_tup (pd_cons hP pd_str (pd_cons hP (pd_var 1 (pv 1) hT) pd_nil))) (pd_cons hP (pd_tup (pd_cons hP (pd_var 1 (pv 1) hT) (pd_cons hP pd_str pd_nil))) (pd_cons hP (pd_tup (pd_cons hP pd_str (pd_cons hP pd_int pd_nil))) (pd_cons hP (pd_tup (pd_cons hP pd_str (pd_cons hP pd_int pd_nil))) (pd_cons hP (pd_tup (pd_cons hP pd_int (pd_cons hP (pd_lst hP (pd_cons hP pd_int pd_nil)) pd_nil))) pd_nil)))))))))))
      (pss_one (ps_ret (pe_ix ix_list (pv 2) (pe_call GD hr (by rfl) gD kD bD .nil pass0 (pa_cons (pv 0) (pa_cons (pe_callB call_len_seq (by rfl) ml PySem.boot_len (pa_cons (pv 2) pa_nil)) pa_nil))) (fun _ _ => rfl)))))), ?_⟩
    have mk : ∀ {H' : Hp} {y2 : Option V}, Same H H' → Pre [some (.ref d), some x, y2] H' := by
      subst hPre
      intro H' y2 s'
      exact ⟨y2, rfl, hx.keep (kxSame s'), hD.same s'⟩
    refine ⟨mk (Same.refl _), fun H1 vs1 s1 hv1 => ⟨len_dq hv1 (by decide), fun p1 np1 => ?_⟩⟩
    have n1 : vs1.length = 17 := hv1.length
    have s1' := s1.trans (same_upd (o := .lst vs1) np1)
    refine ⟨.ref p1, rfl, mk s1', fun H2 vs2 s2 hv2 => ⟨len_dq hv2 (by decide), fun p2 np2 => ?_⟩⟩
    have n2 : vs2.length = 8 := hv2.length
    have s2' := s2.trans (same_upd (o := .lst vs2) np2)
    refine ⟨p1, p2, vs1, vs2, rfl, rfl, s2' _ _ upd_same, upd_same, ?_, fun p3 np3 => ?_⟩
    · rw [n1, n2]
      decide
    have s3' := (same_upd (o := .lst vs2) np2).trans (same_upd (o := .lst (vs1 ++ vs2)) np3)
    have hv12 := DqAll.app (hv2.keep (kxSame s3')) (hv1.keep (kxSame ((same_upd (o := .lst vs1) np1).trans (s2.trans s3'))))
    refine ⟨.ref p3, rfl, mk (s1'.trans (s2.trans s3')), fun H4 vs4 s4 hv4 => ⟨len_dq hv4 (by show 8 ≤ 100; decide), fun p4 np4 => ?_⟩⟩
    have n4 : vs4.length = 8 := hv4.length
    have s4' := s4.trans (same_upd (o := .lst vs4) np4)
    refine ⟨p3, p4, vs1 ++ vs2, vs4, rfl, rfl, s4' _ _ upd_same, upd_same, ?_, fun p5 np5 => ?_⟩
    · rw [List.length_append, n1, n2, n4]
      decide
    have s5' := (same_upd (o := .lst vs4) np4).trans (same_upd (o := .lst (vs1 ++ vs2 ++ vs4)) np5)
    have hv5 := DqAll.app (hv4.keep (kxSame s5')) (hv12.keep (kxSame (s4.trans s5')))
    have s6 := s1'.trans (s2.trans (s3'.trans (s4.trans s5')))
    have n5 : (vs1 ++ vs2 ++ vs4).length = 33 := by rw [List.length_append, List.length_append, n1, n2, n4]
    have hp5 : upd (upd H4 p4 (.lst vs4)) p5 (.lst (vs1 ++ vs2 ++ vs4)) p5 = some (.lst (vs1 ++ vs2 ++ vs4)) := upd_same
    have e1 := (hD.same (s1'.trans (s2.trans (s3'.trans (s4.trans (same_upd (o := .lst vs4) np4)))))).ne1 np5
    have e2 := (hD.same (s1'.trans (s2.trans (s3'.trans (s4.trans (same_upd (o := .lst vs4) np4)))))).ne2 np5
    have hD6 := hD.same s6
    generalize upd (upd H4 p4 (.lst vs4)) p5 (.lst (vs1 ++ vs2 ++ vs4)) = H6 at *
    refine ⟨.ref p5, rfl, .ref d, rfl, .ref p5, rfl, p5, _, rfl, .inl (.inl (.inl hp5)), d, c, _, rfl, hD6, ?_, ?_, fun H7 r hD7 kp7 r0 r1 => ?_⟩
    · rw [n5]
      decide
    · rw [n5]
      decide
    obtain ⟨v, hv, ev⟩ := item_at r0 r1
    obtain ⟨u, hu, hvu⟩ := hv5.mem hv
    exact ⟨p5, _, r, v, rfl, rfl, .inl (.inl (kp7 _ _ e1 e2 hp5)), ev, q H7 v u hD7 ((kpSame s6).trans kp7) (hvu.keep (kxKp hD6 kp7)) hu⟩
/-! what comes of it -/
theorem odd_fit {L n m : Nat} {t : PyData} (h : Fit L n m t) (hL : 41 ≤ L) : ∀ u ∈ oddL t, Fit L (max (n + 1) 2) (m + 20) u := by
  have lits : ∀ u ∈ odd1 ++ odd2 ++ oddE, Fit L (max (n + 1) 2) (m + 20) u := by
    have key : (odd1 ++ odd2 ++ oddE).all (fun u => gd 41 u && decide (u.depth ≤ 2) && decide (u.bulk ≤ 20)) = true := by decide +kernel
    intro u hu
    have h2 := List.all_eq_true.mp key u hu
    simp only [Bool.and_eq_true, decide_eq_true_eq] at h2
    exact ⟨gd_mono hL u h2.1.1, by have := h2.1.2; omega, by have := h2.2; omega⟩
  have gq : gd L (.str "?") = true := gd_mono hL _ (by decide +kernel)
  have hg := h.g
  have hd := h.d
  have hb := h.b
  have own : ∀ u ∈ ([.list [t], .tuple [t], .dict [(.int 0, t)], .tuple [.str "?", t], .tuple [t, .str "?"]] : List PyData), Fit L (max (n + 1) 2) (m + 20) u := by
    intro u hu
    simp only [List.mem_cons, List.not_mem_nil, or_false] at hu
    rcases hu with rfl | rfl | rfl | rfl | rfl
    · refine ⟨?_, ?_, ?_⟩
      · show (gd L t && true) = true
        rw [hg]
        rfl
      · show max t.depth 0 + 1 ≤ _
        omega
      · show t.bulk + 1 + 0 ≤ _
        omega
    · refine ⟨?_, ?_, ?_⟩
      · show (gd L t && true) = true
        rw [hg]
        rfl
      · show max t.depth 0 + 1 ≤ _
        omega
      · show t.bulk + 1 + 0 ≤ _
        omega
    · refine ⟨?_, ?_, ?_⟩
      · show (gd L (.int 0) && gd L t && true) = true
        rw [hg]
        rfl
      · show max (max (PyData.int 0).depth t.depth) 0 + 1 ≤ _
        have : (PyData.int 0).depth = 0 := rfl
        omega
      · show (PyData.int 0).bulk + t.bulk + 2 + 0 ≤ _
        have : (PyData.int 0).bulk = 0 := rfl
        omega
    · refine ⟨gd_two_mk gq hg, ?_, ?_⟩
      · rw [depth_two]
        have : (PyData.str "?").depth = 0 := rfl
        omega
      · rw [bulk_two]
        have : (PyData.str "?").bulk = 1 := rfl
        omega
    · refine ⟨gd_two_mk hg gq, ?_, ?_⟩
      · rw [depth_two]
        have : (PyData.str "?").depth = 0 := rfl
        omega
      · rw [bulk_two]
        have : (PyData.str "?").bulk = 1 := rfl
        omega
  intro u hu
  have split : u ∈ odd1 ++ odd2 ∨ u ∈ ([.list [t], .tuple [t], .dict [(.int 0, t)], .tuple [.str "?", t], .tuple [t, .str "?"]] : List PyData) ++ oddE := List.mem_append.mp hu
  rcases split with h1 | h1
  · exact lits u (List.mem_append.mpr (.inl h1))
  · rcases List.mem_append.mp h1 with h2 | h2
    · exact own u h2
    · exact lits u (List.mem_append.mpr (.inr h2))
end
end Ksec
set_option Elab.async false
set_option linter.all false
set_option maxRecDepth 100000
set_option maxHeartbeats 4000000
namespace Ksec
open PySem PySem.Spec PyProof.Rows L2
/-! t[::-1], t a tuple -/
theorem fm_congr {α β : Type} {f g : α → Option β} : ∀ l : List α, (∀ k ∈ l, f k = g k) → l.filterMap f = l.filterMap g
  | [], _ => rfl
  | k :: r, h => by
    rw [List.filterMap_cons, List.filterMap_cons, h k (List.mem_cons_self ..), fm_congr r fun j hj => h j (List.mem_cons_of_mem _ hj)]
theorem rev_pick (xs : Array Value) : ((List.range xs.size).filterMap fun (k : Nat) => xs[((xs.size : Int) - 1 + (k : Int) * -1).toNat]?).toArray = xs.toList.reverse.toArray := by
  have e : (List.range xs.size).filterMap (fun (k : Nat) => xs[((xs.size : Int) - 1 + (k : Int) * -1).toNat]?) = (List.range xs.size).filterMap (fun k => xs[xs.size - 1 - k]?) := by
    refine fm_congr _ fun k hk => ?_
    have := List.mem_range.mp hk
    rw [show ((xs.size : Int) - 1 + (k : Int) * -1).toNat = xs.size - 1 - k by omega]
  rw [e, ← PySem.W.krv_all xs, ← List.filterMap_reverse, ← PySem.W.krv_range, List.filterMap_map]
  rfl
theorem rev_adjust (n : Nat) : Builtin.Slice.sliceAdjust none none (-1) (n : Int) = ((n : Int) - 1, -1) := by
  unfold Builtin.Slice.sliceAdjust
  simp
theorem rev_places (n : Nat) : Builtin.Slice.slicePlaces ((n : Int) - 1) (-1) (-1) = n := by
  unfold Builtin.Slice.slicePlaces
  simp
  try omega
theorem sliceApplied_rev {prog : Program} {w : World} {A : Around} {E : Value → Shared → Prop} {s : Shared} {sl : Addr} {tk : Tok} {n : Nat} {Q : Int × Int × Nat → Shared → Prop} (hs : s.heap.IsSliceOf sl .none .none (.int (-1) tk)) (h : Q ((n : Int) - 1, -1, n) s) :
    wpAny (model prog w) A (Builtin.Slice.sliceApplied (.ref sl) (pure (n : Int))) Q E s := by
  obtain ⟨os, hos, hcs, hds⟩ := id hs
  unfold Builtin.Slice.sliceApplied Builtin.Slice.sliceFields
  refine wpAny_bind (wpAny_bind (wpAny_field hos hds (x := .none) rfl (wpAny_bind (wpAny_field hos hds (x := .none) rfl (wpAny_bind (wpAny_field hos hds (x := .int (-1) tk) rfl (wpAny_pure ?_)))))))
  refine wpAny_bind (slicePart_int ?_)
  show wpAny _ _ (if ((-1 : Int) == 0) = true then _ else _) _ _ s
  rw [if_neg (by decide)]
  refine wpAny_bind (slicePart_none (wpAny_bind (slicePart_none (wpAny_bind (wpAny_pure ?_)))))
  show wpAny _ _ (match Builtin.Slice.sliceAdjust none none (-1) (n : Int) with | (lo, hi) => pure (lo, (-1 : Int), Builtin.Slice.slicePlaces lo hi (-1))) _ _ s
  rw [rev_adjust n]
  show wpAny _ _ (pure ((n : Int) - 1, (-1 : Int), Builtin.Slice.slicePlaces ((n : Int) - 1) (-1) (-1))) _ _ s
  rw [rev_places]
  exact wpAny_pure h
theorem getItem_tuple_rev {prog : Program} {w : World} {A : Around} {E : Value → Shared → Prop} {s : Shared} {t sl : Addr} {items : Array Value} {tk : Tok} {Q : Value → Shared → Prop} (ht : IsTup s.heap t items) (hs : s.heap.IsSliceOf sl .none .none (.int (-1) tk))
    (h : Q (.ref s.heap.objs.size) { s with heap := s.heap.push { cls := .type "tuple", data := .seq items.toList.reverse.toArray } }) (hsz : items.size ≤ sizeLine) : wpAny (model prog w) A (getItem (.ref t) (.ref sl)) Q E s := by
  have htake : sizeOk (.seq items.toList.reverse.toArray) := by
    show items.toList.reverse.toArray.size ≤ sizeLine
    rw [List.size_toArray, List.length_reverse, Array.length_toList]
    exact hsz
  obtain ⟨os, hos, hcs, hds⟩ := id hs
  have hTs : s.TypeIs (.ref sl) "slice" := ⟨os, hos, hcs⟩
  unfold getItem
  try with_reducible refine wpAny_holding ?_
  first | refine wpAny_bind (wpAny_pure ?_) | skip
  refine wpAny_bind (wpAny_sequenceKey ht.typeIs (by decide) ?_)
  refine wpAny_bind (wpAny_callSpecial?_slot (name := Str.ofString "__getitem__") ht.typeIs PyProof.Rows.slot_tuple_getitem (wpAny_call_entry PyProof.Rows.slot_tuple_getitem ht.typeIs PyProof.Rows.entry_tuple_getitem ?_ (PyProof.Rows.args_tuple_getitem _ _)))
  show wpAny _ _ (Builtin.Tuple.tupleItemsOf (.ref t) >>= _) _ _ s
  refine wpAny_bind (tupleItemsOf_ ht ?_)
  refine wpAny_bind (wpAny_typeOf hTs ?_)
  rw [if_pos (by decide)]
  refine wpAny_bind (sliceApplied_rev hs ?_)
  have hno : ¬ (((items.size : Int) - 1 == 0 && (-1 : Int) == 1 && items.size == items.size) = true) := by simp
  show wpAny _ _ (if ((items.size : Int) - 1 == 0 && (-1 : Int) == 1 && items.size == items.size) = true then _ else _) _ _ s
  rw [if_neg hno, rev_pick]
  first
    | exact wpAny_bind (m := Builtin.Tuple.tupleExact _) (wpAny_newObj_type (wpAny_pure ⟨_, rfl, wpAny_pure h⟩) htake)
    | exact wpAny_bind (wpAny_bind (m := Builtin.Tuple.tupleExact _) (wpAny_newObj_type (wpAny_pure ⟨_, rfl, wpAny_pure h⟩) htake))
def tRevT (K : PySem.W.Frag) (te : TE) : TE := fun σ H Q => te σ H fun x H1 => ∃ a xs, x = .ref a ∧ SqT K H1 a xs ∧ ∀ p, H1 p = none → Q (.ref p) (upd H1 p (.tup xs.reverse))
theorem pe_revT {X : Cx} {e : Expr} {te : TE} {k : Nat} {p1 p2 p3 pos : Pos} (he : PE X e te) : PE X (.Subscript e (.Slice none none (some (.UnaryOp .USub (.Constant (.int 1) k p1) p2)) p3) pos) (tRevT X.K te) := by
  refine ⟨fun pins s σ H Q I h => ?_⟩
  refine Subscript_ (thn (he.run pins s σ H _ I h) fun v s1 ⟨x, H1, I1, r1, q1⟩ => ?_)
  obtain ⟨a, xs, rfl, hx, q⟩ := q1
  cases r1
  have hst : PO X (some (.UnaryOp .USub (.Constant (.int 1) k p1) p2)) (tPart (tUn (rU fun i => .int (-i)) (tC (.int 1)))) := po_some (pe_un un_neg pe_int)
  refine wpAny_Slice (thn (po_none.run pins s1 σ H1 (fun o H2 => o = none ∧ H2 = H1) I1 ⟨rfl, rfl⟩) fun vl s2 ⟨l, H2, I2, pl, el, e2⟩ => ?_)
  subst el e2
  refine thn (po_none.run pins s2 σ H2 (fun o H3 => o = none ∧ H3 = H2) I2 ⟨rfl, rfl⟩) fun vu s3 ⟨u, H3, I3, pu, eu, e3⟩ => ?_
  subst eu e3
  refine thn (hst.run pins s3 σ H3 (fun o H4 => o = some (-1) ∧ H4 = H3) I3 ⟨1, rfl, -1, rfl, rfl, rfl⟩) fun vs s4 ⟨o, H4, I4, ps, eo, e4⟩ => ?_
  subst eo e4
  obtain rfl : vl = .none := by
    cases pl
    rfl
  obtain rfl : vu = .none := by
    cases pu
    rfl
  obtain ⟨tk, rfl⟩ : ∃ tk, vs = .int (-1) tk := by
    cases ps
    exact ⟨_, rfl⟩
  have I5 : Inv X pins σ H4 { s4 with heap := s4.heap.push { cls := .type "slice", data := .fields #[.none, .none, .int (-1) tk] } } := I4.kept (t' := s4.toks) fun b ob q => Heap.get?_push_of_some _ q
  obtain ⟨its, r, ht, hz⟩ := I5.tuple hx
  have hlen := r.length
  show wpAny (model X.prog X.w) X.A (subscriptTail e (.Slice none none (some (.UnaryOp .USub (.Constant (.int 1) k p1) p2)) p3) (.ref a) (.ref s4.heap.objs.size)) (EP X pins σ Q) X.xe { s4 with heap := s4.heap.push { cls := .type "slice", data := .fields #[.none, .none, .int (-1) tk] } }
  refine tail_any (ops := [.ref a, .ref s4.heap.objs.size]) ht.typeIs (PyProof.Rows.slot_tuple_getitem.lookup) ?_ (by with_unfolding_all rfl)
  refine getItem_tuple_rev ht (Heap.IsSliceOf.new _ .none .none (.int (-1) tk)) ?_ (by rw [List.size_toArray]; omega)
  refine ⟨.ref _, _, I5.laid (t' := s4.toks) (o := .tup xs.reverse) (fun b ob q => Heap.get?_push_of_some _ q) (Nat.le_refl _) ?_, rfl, q _ (I5.hok.fresh (Nat.le_refl _))⟩
  exact ⟨by rw [List.length_reverse]; exact hz, _, r.reverse, IsTup.new _ _⟩
end Ksec
set_option Elab.async false
set_option linter.all false
set_option maxRecDepth 100000
set_option maxHeartbeats 4000000
namespace Ksec
open PySem PySem.Spec PyProof.Rows L2
/-! rows of things -/
theorem gdAll_app {L : Nat} : ∀ (ts us : List PyData), gdAll L (ts ++ us) = (gdAll L ts && gdAll L us)
  | [], us => by
    show gdAll L us = (true && gdAll L us)
    rw [Bool.true_and]
  | t :: ts, us => by
    show (gd L t && gdAll L (ts ++ us)) = ((gd L t && gdAll L ts) && gdAll L us)
    rw [gdAll_app ts us, Bool.and_assoc]
theorem depAll_app : ∀ (ts us : List PyData), PyData.depthAll (ts ++ us) = max (PyData.depthAll ts) (PyData.depthAll us)
  | [], us => by
    show PyData.depthAll us = max 0 (PyData.depthAll us)
    omega
  | t :: ts, us => by
    show max t.depth (PyData.depthAll (ts ++ us)) = max (max t.depth (PyData.depthAll ts)) (PyData.depthAll us)
    rw [depAll_app ts us]
    omega
theorem blkAll_app : ∀ (ts us : List PyData), PyData.bulkAll (ts ++ us) = PyData.bulkAll ts + PyData.bulkAll us
  | [], us => by
    show PyData.bulkAll us = 0 + PyData.bulkAll us
    omega
  | t :: ts, us => by
    show t.bulk + 1 + PyData.bulkAll (ts ++ us) = t.bulk + 1 + PyData.bulkAll ts + PyData.bulkAll us
    rw [blkAll_app ts us]
    omega
theorem gdAll_rev {L : Nat} : ∀ ts : List PyData, gdAll L ts.reverse = gdAll L ts
  | [] => rfl
  | t :: ts => by
    rw [List.reverse_cons, gdAll_app, gdAll_rev ts]
    show (gdAll L ts && (gd L t && true)) = (gd L t && gdAll L ts)
    rw [Bool.and_true, Bool.and_comm]
theorem depAll_rev : ∀ ts : List PyData, PyData.depthAll ts.reverse = PyData.depthAll ts
  | [] => rfl
  | t :: ts => by
    rw [List.reverse_cons, depAll_app, depAll_rev ts]
    show max (PyData.depthAll ts) (max t.depth 0) = max t.depth (PyData.depthAll ts)
    omega
theorem blkAll_rev : ∀ ts : List PyData, PyData.bulkAll ts.reverse = PyData.bulkAll ts
  | [] => rfl
  | t :: ts => by
    rw [List.reverse_cons, blkAll_app, blkAll_rev ts]
    show PyData.bulkAll ts + (t.bulk + 1 + 0) = t.bulk + 1 + PyData.bulkAll ts
    omega
/-- what a row of things is, whatever it stands in -/
theorem Fit.row {L n m : Nat} {ts : List PyData} (h : Fit L n m (.tuple ts)) : gdAll L ts = true ∧ PyData.depthAll ts + 1 ≤ n ∧ PyData.bulkAll ts ≤ m := ⟨h.g, h.d, h.b⟩
theorem Fit.tup {L n m : Nat} {ts : List PyData} (h1 : gdAll L ts = true) (h2 : PyData.depthAll ts + 1 ≤ n) (h3 : PyData.bulkAll ts ≤ m) : Fit L n m (.tuple ts) := ⟨h1, h2, h3⟩
theorem Fit.lst {L n m : Nat} {ts : List PyData} (h1 : gdAll L ts = true) (h2 : PyData.depthAll ts + 1 ≤ n) (h3 : PyData.bulkAll ts ≤ m) : Fit L n m (.list ts) := ⟨h1, h2, h3⟩
def tupL (ds : List PyData) : List PyData := [.list ds, .tuple (ds ++ [.int 0]), .tuple (ds.take 1), .tuple ds.reverse]
theorem tup_fit {L n m : Nat} {ds : List PyData} (h : Fit L n m (.tuple ds)) : ∀ u ∈ tupL ds, Fit (L + 1) (n + 2) (m + 50) u := by
  obtain ⟨h1, h2, h3⟩ := h.row
  intro u hu
  refine Fit.mono (L := L) (n := n) (m := m + 1) ?_ (by omega) (by omega) (by omega)
  simp only [tupL, List.mem_cons, List.not_mem_nil, or_false] at hu
  rcases hu with rfl | rfl | rfl | rfl
  · exact .lst h1 h2 (by omega)
  · refine .tup ?_ ?_ ?_
    · rw [gdAll_app, h1]
      rfl
    · rw [depAll_app]
      have : PyData.depthAll [.int 0] = 0 := rfl
      omega
    · rw [blkAll_app]
      have : PyData.bulkAll [.int 0] = 1 := rfl
      omega
  · cases ds with
    | nil =>
      show Fit _ _ _ (.tuple [])
      exact .tup h1 h2 (by omega)
    | cons t r =>
      show Fit _ _ _ (.tuple [t])
      have h1' := (gdAll_cons h1).1
      have h2' : max t.depth (PyData.depthAll r) + 1 ≤ n := h2
      have h3' : t.bulk + 1 + PyData.bulkAll r ≤ m := h3
      refine .tup ?_ ?_ ?_
      · show (gd L t && true) = true
        rw [h1']
        rfl
      · show max t.depth 0 + 1 ≤ n
        omega
      · show t.bulk + 1 + 0 ≤ m + 1
        omega
  · refine .tup ?_ ?_ ?_
    · rw [gdAll_rev]
      exact h1
    · rw [depAll_rev]
      exact h2
    · rw [blkAll_rev]
      omega
/-! texts -/
theorem fit_str {L n m : Nat} {z : Str} (h1 : z.length ≤ L) (h2 : ∀ c ∈ z.cps.toList, c < 128) (h3 : z.length ≤ m) : Fit L n m (.str z) := ⟨gd_str_mk h1 h2, Nat.zero_le _, h3⟩
theorem app_low {a b : Str} (h1 : ∀ c ∈ a.cps.toList, c < 128) (h2 : ∀ c ∈ b.cps.toList, c < 128) : ∀ c ∈ (a ++ b).cps.toList, c < 128 := fun c hc => by
  have e : (a ++ b).cps.toList = a.cps.toList ++ b.cps.toList := by
    show (a.cps ++ b.cps).toList = _
    rw [Array.toList_append]
  rw [e] at hc
  exact (List.mem_append.mp hc).elim (h1 c) (h2 c)
theorem cut_low {z : Str} (h : ∀ c ∈ z.cps.toList, c < 128) (lo hi : Option Int) : ∀ c ∈ (cutS z lo hi).cps.toList, c < 128 := fun c hc => by
  unfold cutS at hc
  exact h c (List.mem_of_mem_drop (List.mem_of_mem_take (by simpa using hc)))
theorem up_key : ∀ c : Fin 128, ((Unicode.upperOf c.val).all fun d => decide (d < 128)) = true ∧ (Unicode.upperOf c.val).length = 1 := by decide +kernel
theorem up_low {z : Str} (h : ∀ c ∈ z.cps.toList, c < 128) : (∀ c ∈ (Txt.upper z).cps.toList, c < 128) ∧ (Txt.upper z).length = z.length := by
  have key : ∀ c, c < 128 → (∀ d ∈ Unicode.upperOf c, d < 128) ∧ (Unicode.upperOf c).length = 1 := fun c hc => by
    obtain ⟨k1, k2⟩ := up_key ⟨c, hc⟩
    exact ⟨fun d hd => of_decide_eq_true (List.all_eq_true.mp k1 d hd), k2⟩
  have e : (Txt.upper z).cps = (z.cps.map fun c => (Unicode.upperOf c).toArray).flatten := by
    show (z.cps.mapIdx fun i c => (Unicode.upperOf c).toArray).flatten = _
    congr 1
    apply Array.ext
    · simp
    · intro i h1 h2
      simp
  have e2 : (Txt.upper z).cps.toList = (z.cps.toList.map fun c => Unicode.upperOf c).flatten := by
    rw [e, Array.toList_flatten, Array.toList_map, List.map_map]
    simp [Function.comp_def]
  constructor
  · intro c hc
    rw [e2] at hc
    obtain ⟨l, hl, hcl⟩ := List.mem_flatten.mp hc
    obtain ⟨b, hb, rfl⟩ := List.mem_map.mp hl
    exact (key b (h b hb)).1 c hcl
  · rw [len_strL, len_strL z, e2]
    have : ∀ l : List Nat, (∀ c ∈ l, c < 128) → ((l.map fun c => Unicode.upperOf c).flatten).length = l.length := by
      intro l
      induction l with
      | nil => intro _; rfl
      | cons c r ih =>
        intro hl
        rw [List.map_cons, List.flatten_cons, List.length_append, ih fun b hb => hl b (List.mem_cons_of_mem _ hb), (key c (hl c (List.mem_cons_self ..))).2, List.length_cons]
        omega
    exact this _ h
theorem num_fit {L n m : Nat} {t : PyData} {i : Int} (h : Fit L n m t) (hn : numD t = some i) (hL : 41 ≤ L) : i.natAbs ≤ 10 ^ 39 ∧ Fit (L + 1) (n + 2) (m + 50) (.str (strN t)) := by
  cases t with
  | int j =>
    obtain rfl : j = i := Option.some.inj hn
    have hj : j.natAbs ≤ 10 ^ 39 := of_decide_eq_true h.g
    have h2 := (gd_int hj).2
    have h3 : (strN (.int j)).length ≤ 41 := h2
    refine ⟨hj, fit_str (by omega) (fun c hc => ?_) (by omega)⟩
    by_cases z : c < 128
    · exact z
    · exact absurd hc (int_text_free' c ⟨by omega, by omega⟩ _)
  | bool b =>
    cases hn
    refine ⟨?_, ?_⟩
    · cases b <;> decide +kernel
    · cases b
      · exact fit_str (Nat.le_trans (show _ ≤ 5 by decide +kernel) (by omega)) (by decide +kernel) (Nat.le_trans (show _ ≤ 5 by decide +kernel) (by omega))
      · exact fit_str (Nat.le_trans (show _ ≤ 5 by decide +kernel) (by omega)) (by decide +kernel) (Nat.le_trans (show _ ≤ 5 by decide +kernel) (by omega))
  | _ => cases hn
end Ksec
set_option Elab.async false
set_option linter.all false
set_option maxRecDepth 100000
set_option maxHeartbeats 8000000
namespace Ksec
open PySem PySem.Spec PyProof.Rows L2
abbrev sBent : Stmt := topS 20
abbrev nBent : List Str := ["_law_deck_here", "_law_thing", "_law_at", "_law_kind"]
theorem scBent : FnScope nBent ["_law_deck_here", "_law_thing"] (defScope sBent) := ⟨rfl, rfl, rfl, by decide +kernel, rfl, by decide +kernel, by decide +kernel⟩
theorem later {tt : TT} {tb u : TS} {D : Ends} {σ : L2.St} {H : Hp} (C : Hp → Prop) (first : (∀ H1, C H1 → u D σ H1) → tSeq (tIfS tt tb tNext) u D σ H) (second : ∀ H1, C H1 → u D σ H1) : tSeq (tIfS tt tb tNext) u D σ H := first second
def partsD : PyData → List PyData
  | .tuple ds => ds
  | _ => []
theorem DqAll.rev {d c : Addr} {H : Hp} : ∀ {vs : List V} {ts : List PyData}, DqAll d c H vs ts → DqAll d c H vs.reverse ts.reverse
  | _, _, .nil => .nil
  | _, _, .cons h r => by
    rw [List.reverse_cons, List.reverse_cons]
    exact DqAll.app (.cons h .nil) (DqAll.rev r)
theorem DqAll.take1 {d c : Addr} {H : Hp} : ∀ {vs : List V} {ts : List PyData}, DqAll d c H vs ts → DqAll d c H (vs.take 1) (ts.take 1)
  | _, _, .nil => .nil
  | _, _, .cons h _ => .cons h .nil
section
variable {P : Program} {w : World} {K : PySem.W.Frag} {mg : Str → Option Value} {base : Heap}
abbrev psBent : List Str := ["_law_deck_here", "_law_thing"]
def spBent (n : Nat) : Sp := fun vs H Q _ => ∃ (d c : Addr) (x : V) (t : PyData) (L m : Nat), vs = [.ref d, x] ∧ Dk H d c ∧ Dq d c H x t ∧ Fit L n m t ∧ 41 ≤ L ∧ L ≤ 90 ∧ m ≤ 100000 ∧
  ∀ H' y u, Dk H' d c → Kp d c H H' → Dq d c H' y u → Fit (L + 1) (n + 2) (m + 50) u → Q y H'
def spBentP : Nat → Sp
  | 0 => fun _ _ _ _ => False
  | n + 1 => spBent n
theorem ok_bent1 {f fD fO : Addr} {fd fdD fdO : FuncData} {k n : Nat} (F : Fun K "_law_bent" "_law_bent" sBent f fd) (GD : FnOk P w K mg base CX0 (k + 1) fD fdD ["_law_deck_here", "_law_many"] spDraw) (bD : Binds K fdD ["_law_deck_here", "_law_many"] [])
    (gD : mg "_law_draw" = some (.ref fD)) (kD : PySem.W.keepIn K (.ref fD) = true) (GO : FnOk P w K mg base CX0 (k + 2) fO fdO psBent spOdd) (bO : Binds K fdO psBent []) (gO : mg "_law_odd" = some (.ref fO)) (kO : PySem.W.keepIn K (.ref fO) = true)
    (mi : mg "isinstance" = none) (mt : mg "tuple" = none) (ml : mg "len" = none) (ms : mg "str" = none) (mn : mg "int" = none) (mls : mg "list" = none)
    (G : FnOk P w K mg base CX0 (k + 2 + n) f fd psBent (spBentP n)) (b : Binds K fd psBent []) (g : mg "_law_bent" = some (.ref f)) : FnOk P w K mg base CX0 (k + 3 + n) f fd psBent (spBent n) := by
  rw [show k + 3 + n = k + 2 + n + 1 by omega]
  refine F.ok scBent (fun vs H Q E h => ?_) (fun cdv A outer s H vs Q E hr h => ?_)
  · obtain ⟨_, _, x, _, _, _, rfl, _⟩ := h
    rfl
  · obtain ⟨d, c, x, t, L, m, rfl, hD, hx, hf, hL, hL2, hm, q⟩ := h
    have hr1 := hr.mono (show k + 1 ≤ k + 2 + n by omega)
    have hr2 := hr.mono (show k + 2 ≤ k + 2 + n by omega)
    obtain ⟨Pre, hPre⟩ : ∃ Pre : L2.St → Hp → Prop, Pre = fun σ H => ∃ y2 y3 a xs, x = .ref a ∧ σ = [some (.ref d), some x, y2, y3] ∧ H a = some (.tup xs) ∧ DqAll d c H xs (partsD t) ∧ xs.length ≤ 100000 ∧ Dk H d c := ⟨_, rfl⟩
    have hP : PreOk d c Pre := by
      subst hPre
      refine ⟨?_, ?_, ?_⟩
      · rintro σ H H' ⟨y2, y3, a, xs, e0, e, h1, h2, h3, h4⟩ s'
        exact ⟨y2, y3, a, xs, e0, e, s' _ _ h1, h2.keep (kxSame s'), h3, h4.same s'⟩
      · rintro σ H ⟨y2, y3, a, xs, e0, e, h1, h2, h3, h4⟩
        obtain ⟨⟨_, z⟩, _⟩ := h4.lists
        exact ⟨_, z⟩
      · rintro σ H ⟨y2, y3, a, xs, e0, e, h1, h2, h3, h4⟩
        obtain ⟨_, ⟨_, z⟩⟩ := h4.lists
        exact ⟨_, z⟩
    refine ⟨_, pss_cons (ps_if (PW.pt (pw_and (pt_val (pe_callB call_isi (by rfl) mi (by decide +kernel) (pa_cons (pv 1) (pa_cons (pe_bltn (v := .ty "tuple") (by rfl) mt (by decide +kernel) rfl) pa_nil))))
          (pw_and (pt_cmpR op_eq (pe_callB call_len_seq (by rfl) ml PySem.boot_len (pa_cons (pv 1) pa_nil)) pe_int (nomark _)) (pw_and1 (pt_cmpR op_gt (pe_call GD hr1 (by rfl) gD kD bD .nil pass0 (pa_cons (pv 0) (pa_cons pe_int pa_nil))) pe_int (nomark _))))))
        (pss_cons (ps_set (i := 2) scBent.nd rfl (.inl rfl) (pe_call GD hr1 (by rfl) gD kD bD .nil pass0 (pa_cons (pv 0) (pa_cons pe_int pa_nil))))
          (pss_one (ps_ret (pe_op op_catA (pe_op op_catA (pe_slice sl_tupA (pv 1) po_none (po_some (pv 2))) (pe_tup (pa_cons (pe_call G hr (by rfl) g F.kp b .nil pass0 (pa_cons (pv 0) (pa_cons (pe_ix ix_tup (pv 1) (pv 2) (fun _ _ => rfl)) pa_nil))) pa_nil)))
            (pe_slice sl_tupA (pv 1) (po_some (pe_op op_add (pv 2) pe_int)) po_none))))) pss_nil)
      (pss_cons (ps_set (i := 3) scBent.nd rfl (.inl rfl) (pe_call GD hr1 (by rfl) gD kD bD .nil pass0 (pa_cons (pv 0) (pa_cons pe_int pa_nil))))
      (pss_cons (ps_if (PW.pt (pw_and (pt_val (pe_callB call_isi (by rfl) mi (by decide +kernel) (pa_cons (pv 1) (pa_cons (pe_bltn (v := .ty "tuple") (by rfl) mt (by decide +kernel) rfl) pa_nil)))) (pw_and1 (pt_cmpR op_lt (pv 3) pe_int (nomark _)))))
        (pss_one (ps_ret (pe_ix ix_list (pe_lst (t := tDs d c Pre (tupL (partsD t)))
          (pd_cons hP (PE.weak (pe_callTy call_list_ofS (by rfl) mls (by decide +kernel) (pa_cons (pv 1) pa_nil)) (by
              subst hPre
              rintro σ H Q ⟨⟨y2, y3, a, xs, rfl, rfl, h1, h2, h3, h4⟩, q⟩
              exact ⟨.ref a, rfl, a, xs, rfl, .inl (.inl h1), fun l nl ns => q _ _ (same_upd nl) (.lst (h4.ne1 nl) (h4.ne2 nl) ns upd_same (DqAll.keep (kxSame (same_upd nl)) h2))⟩))
          (pd_cons hP (PE.weak (pe_op op_catA (pv 1) (pe_tup (pa_cons pe_int pa_nil))) (by
              subst hPre
              rintro σ H Q ⟨⟨y2, y3, a, xs, rfl, rfl, h1, h2, h3, h4⟩, q⟩
              refine ⟨.ref a, rfl, (by show 1 ≤ sizeLine; decide), fun p np => ?_⟩
              have s1 := same_upd (o := .tup [.int 0]) np
              refine ⟨a, p, xs, [.int 0], rfl, rfl, .inl (.inl (s1 _ _ h1)), .inl (.inl upd_same), Nat.le_trans (show xs.length + 1 ≤ 100001 by omega) (by decide), fun e0 => ?_, fun _ e => (by cases e), fun e0 _ p2 np2 => ?_⟩
              · exact q _ _ s1 (.tup (xs := xs ++ [.int 0]) (by rw [e0]; exact upd_same) (DqAll.app (.cons (.int 0) .nil) (DqAll.keep (kxSame s1) h2)))
              · have s2 := s1.trans (same_upd (o := .tup (xs ++ [.int 0])) np2)
                exact q _ _ s2 (.tup upd_same (DqAll.app (.cons (.int 0) .nil) (DqAll.keep (kxSame s2) h2)))))
          (pd_cons hP (PE.weak (pe_slice sl_tupA (pv 1) po_none (po_some pe_int)) (by
              subst hPre
              rintro σ H Q ⟨⟨y2, y3, a, xs, rfl, rfl, h1, h2, h3, h4⟩, q⟩
              refine ⟨.ref a, rfl, 1, rfl, a, xs, rfl, .inl (.inl h1), fun hw => ?_, fun _ p np => ?_⟩
              · have e1 : xs.take 1 = xs := by
                  have := hw.2
                  rw [show (1 : Int) = ((1 : Nat) : Int) from rfl, HT.sIx_nat] at this
                  exact List.take_of_length_le (by omega)
                have h2' := DqAll.take1 h2
                rw [e1] at h2'
                exact q _ _ (Same.refl _) (.tup h1 h2')
              · have e1 : cutV xs none (some 1) = xs.take 1 := cutTo xs 1
                rw [e1]
                exact q _ _ (same_upd np) (.tup upd_same (DqAll.keep (kxSame (same_upd np)) (DqAll.take1 h2)))))
          (pd_cons hP (PE.weak (pe_revT (pv 1)) (by
              subst hPre
              rintro σ H Q ⟨⟨y2, y3, a, xs, rfl, rfl, h1, h2, h3, h4⟩, q⟩
              exact ⟨.ref a, rfl, a, xs, rfl, .inl (.inl h1), fun p np => q _ _ (same_upd np) (.tup upd_same (DqAll.keep (kxSame (same_upd np)) (DqAll.rev h2)))⟩)) pd_nil))))) (pv 3) (fun _ _ => rfl)))) pss_nil)
      (pss_cons (ps_if (PW.pt (pw_and (pt_val (pe_callB call_isi (by rfl) mi (by decide +kernel) (pa_cons (pv 1) (pa_cons (pe_bltn (v := .ty "str") (by rfl) ms (by decide +kernel) rfl) pa_nil)))) (pw_and1 (pt_cmpR op_lt (pv 3) pe_int (nomark _)))))
        (pss_one (ps_ret (pe_ix ix_list (pe_lst (pa_cons (pe_op op_add_str (pv 1) pe_str) (pa_cons (pe_upper (pv 1)) (pa_cons (pe_slice sl_str (pv 1) (po_some pe_int) po_none) (pa_cons (pe_op op_add_str (pv 1) pe_str) pa_nil))))) (pv 3) (fun _ _ => rfl)))) pss_nil)
      (pss_cons (ps_if (PW.pt (pw_and (pt_val (pe_callB call_isi (by rfl) mi (by decide +kernel) (pa_cons (pv 1) (pa_cons (pe_bltn (v := .ty "int") (by rfl) mn (by decide +kernel) rfl) pa_nil)))) (pw_and1 (pt_cmpR op_lt (pv 3) pe_int (nomark _)))))
        (pss_one (ps_ret (pe_ix ix_list (pe_lst (pa_cons (pe_cmpR op_eqN (pv 1) pe_int (nomark _)) (pa_cons (pe_op op_subN pe_int (pv 1)) (pa_cons (pe_callTy call_strN (by rfl) ms (by decide +kernel) (pa_cons (pv 1) pa_nil)) pa_nil)))) (pv 3) (fun _ _ => rfl)))) pss_nil)
      (pss_one (ps_ret (pe_call GO hr2 (by rfl) gO kO bO .nil pass0 (pa_cons (pv 0) (pa_cons (pv 1) pa_nil))))))))), ?_⟩
    obtain ⟨e1, e2, e3, e4⟩ := kits t
    refine later (C := fun H1 => Dk H1 d c ∧ Kp d c H H1) ?first ?second
    case first =>
      intro rest
      refine ⟨x, rfl, x, .ty "tuple", _, _, _, rfl, .ty _, hx.tyx, kit_ty e3, _, rfl, ?_⟩
      have hx0 := hx
      cases hx with
      | @tup a xs ds h0 hr' =>
        refine iteT ⟨.ref a, rfl, a, xs, rfl, .inr (.inl (.inl h0)), rfl, _, rfl, ?_⟩
        by_cases h2 : xs.length = 2
        · have e2 : decide (V.int ((xs.length : Nat) : Int) = V.int 2) = true := decide_eq_true (by rw [h2]; rfl)
          rw [e2]
          refine iteT ⟨.ref d, rfl, d, c, 5, rfl, hD, by decide, by decide, fun H1 r1 hD1 kp1 _ _ => ⟨_, _, rfl, rfl, _, rfl, ite2 (fun _ => ?_) (fun _ => rest H1 ⟨hD1, kp1⟩)⟩⟩
          refine ⟨.ref d, rfl, d, c, 2, rfl, hD1, by decide, by decide, fun H2 at2 hD2 kp2 a0 a1 => ?_⟩
          have kq2 := kp1.trans kp2
          have kx2 := kxKp hD kq2
          have h02 := kx2.2.1 _ _ h0
          cases hr' with
          | nil => cases h2
          | @cons v1 _ t1 _ q1 r1 =>
            cases r1 with
            | nil => cases h2
            | @cons v2 _ t2 _ q2 r2 =>
              cases r2 with
              | cons _ _ => exact absurd h2 (by simp)
              | nil =>
                cases n with
                | zero =>
                  have := hf.d
                  rw [depth_two] at this
                  omega
                | succ n =>
                  have hfd := hf.d
                  have hfb := hf.b
                  rw [depth_two] at hfd
                  rw [bulk_two] at hfb
                  obtain ⟨g1, g2⟩ := gd_two hf.g
                  have q12 := q1.keep kx2
                  have q22 := q2.keep kx2
                  have at01 : at2 = 0 ∨ at2 = 1 := by omega
                  rcases at01 with rfl | rfl
                  · refine ⟨.ref a, rfl, .int 0, rfl, 0, rfl, a, _, rfl, .inl (.inl h02), fun hw => absurd hw.2 (by show ¬ HT.sIx 2 2 (some 0) = 2; decide), fun _ p1 np1 => ?_⟩
                    have s3 := same_upd (o := .tup (cutV [v1, v2] none (some 0))) np1
                    refine ⟨.ref d, rfl, .ref a, rfl, .int 0, rfl, a, _, 0, v1, rfl, rfl, .inl (.inl (s3 _ _ h02)), atI_nat (j := 0) rfl, ?_⟩
                    refine ⟨d, c, v1, t1, L, t1.bulk, rfl, hD2.same s3, q12.keep (kxSame s3), ⟨g1, by omega, Nat.le_refl _⟩, hL, hL2, by omega, fun H4 y u hD4 kp4 hy hu => ?_⟩
                    have kx4 := kxKp (hD2.same s3) kp4
                    have hp4 : H4 p1 = some (.tup []) := kx4.2.1 _ _ upd_same
                    have h04 := kx4.2.1 _ _ (s3 _ _ h02)
                    have q24 := (q22.keep (kxSame s3)).keep kx4
                    refine ⟨(by show 1 ≤ sizeLine; decide), fun p5 np5 => ?_⟩
                    have s5 := same_upd (o := .tup [y]) np5
                    refine ⟨p1, p5, [], [y], rfl, rfl, .inl (.inl (s5 _ _ hp4)), .inl (.inl upd_same), (by show 1 ≤ sizeLine; decide), fun _ => ?_, fun z => absurd rfl z, fun z => absurd rfl z⟩
                    refine ⟨.ref a, rfl, .int 0, rfl, 0, 1, rfl, rfl, 0 + 1, rfl, a, _, rfl, .inl (.inl (s5 _ _ h04)), fun hw => absurd hw.1 (by show ¬ HT.sIx 2 0 (some (0 + 1)) = 0; decide), fun _ p6 np6 => ?_⟩
                    have s6 := same_upd (o := .tup (cutV [v1, v2] (some (0 + 1)) none)) np6
                    refine ⟨p5, p6, [y], [v2], rfl, rfl, .inl (.inl (s6 _ _ upd_same)), .inl (.inl upd_same), (by show 2 ≤ sizeLine; decide), fun z => (by cases z), fun _ z => (by cases z), fun _ _ p7 np7 => ?_⟩
                    have s7 := same_upd (o := .tup ([y] ++ [v2])) np7
                    have s57 := s5.trans (s6.trans s7)
                    refine q _ _ (.tuple [u, t2]) (hD4.same s57) (kq2.trans ((kpSame s3).trans (kp4.trans (kpSame s57)))) (.tup upd_same (.cons (hy.keep (kxSame s57)) (.cons (q24.keep (kxSame s57)) .nil))) ⟨gd_two_mk hu.g (gd_mono (by omega) _ g2), ?_, ?_⟩
                    · have := hu.d
                      rw [depth_two]
                      omega
                    · have := hu.b
                      rw [bulk_two]
                      omega
                  · refine ⟨.ref a, rfl, .int 1, rfl, 1, rfl, a, _, rfl, .inl (.inl h02), fun hw => absurd hw.2 (by show ¬ HT.sIx 2 2 (some 1) = 2; decide), fun _ p1 np1 => ?_⟩
                    have s3 := same_upd (o := .tup (cutV [v1, v2] none (some 1))) np1
                    refine ⟨.ref d, rfl, .ref a, rfl, .int 1, rfl, a, _, 1, v2, rfl, rfl, .inl (.inl (s3 _ _ h02)), atI_nat (j := 1) rfl, ?_⟩
                    refine ⟨d, c, v2, t2, L, t2.bulk, rfl, hD2.same s3, q22.keep (kxSame s3), ⟨g2, by omega, Nat.le_refl _⟩, hL, hL2, by omega, fun H4 y u hD4 kp4 hy hu => ?_⟩
                    have kx4 := kxKp (hD2.same s3) kp4
                    have hp4 : H4 p1 = some (.tup [v1]) := kx4.2.1 _ _ upd_same
                    have h04 := kx4.2.1 _ _ (s3 _ _ h02)
                    have q14 := (q12.keep (kxSame s3)).keep kx4
                    refine ⟨(by show 1 ≤ sizeLine; decide), fun p5 np5 => ?_⟩
                    have s5 := same_upd (o := .tup [y]) np5
                    refine ⟨p1, p5, [v1], [y], rfl, rfl, .inl (.inl (s5 _ _ hp4)), .inl (.inl upd_same), (by show 2 ≤ sizeLine; decide), fun z => (by cases z), fun _ z => (by cases z), fun _ _ p6 np6 => ?_⟩
                    have s6 := same_upd (o := .tup ([v1] ++ [y])) np6
                    refine ⟨.ref a, rfl, .int 1, rfl, 1, 1, rfl, rfl, 1 + 1, rfl, a, _, rfl, .inl (.inl (s6 _ _ (s5 _ _ h04))), fun hw => absurd hw.1 (by show ¬ HT.sIx 2 0 (some (1 + 1)) = 0; decide), fun _ p7 np7 => ?_⟩
                    have s7 := same_upd (o := .tup (cutV [v1, v2] (some (1 + 1)) none)) np7
                    have s57 := s5.trans (s6.trans s7)
                    refine ⟨p6, p7, [v1, y], [], rfl, rfl, .inl (.inl (s7 _ _ upd_same)), .inl (.inl upd_same), (by show 2 ≤ sizeLine; decide), fun z => (by cases z), fun _ _ => ?_, fun _ z => absurd rfl z⟩
                    refine q _ _ (.tuple [t1, u]) (hD4.same s57) (kq2.trans ((kpSame s3).trans (kp4.trans (kpSame s57)))) (.tup (s7 _ _ upd_same) (.cons (q14.keep (kxSame s57)) (.cons (hy.keep (kxSame s57)) .nil))) ⟨gd_two_mk (gd_mono (by omega) _ g1) hu.g, ?_, ?_⟩
                    · have := hu.d
                      rw [depth_two]
                      omega
                    · have := hu.b
                      rw [bulk_two]
                      omega
        · have e2 : decide (V.int ((xs.length : Nat) : Int) = V.int 2) = false := decide_eq_false (fun z => h2 (by have := V.int.inj z; omega))
          rw [e2]
          exact iteF (iteF (rest H ⟨hD, Kp.refl d c H⟩))
      | _ => exact iteF (iteF (rest H ⟨hD, Kp.refl d c H⟩))
    case second =>
      intro H1 hC
      obtain ⟨hD1, kp1⟩ := hC
      refine ⟨.ref d, rfl, d, c, 8, rfl, hD1, by decide, by decide, fun H2 kd hD2 kp2 k0 k1 => ?_⟩
      have kq2 := kp1.trans kp2
      have hx2 := hx.keep (kxKp hD kq2)
      have odd_ : spOdd [.ref d, x] H2 Q E0 := ⟨d, c, x, t, rfl, hD2, hx2, fun H3 y u hD3 kp3 hy hu => q H3 y u hD3 (kq2.trans kp3) hy ((odd_fit hf hL u hu).mono (by omega) (by omega) (by omega))⟩
      refine ⟨x, rfl, x, .ty "tuple", _, _, _, rfl, .ty _, hx2.tyx, kit_ty e3, _, rfl, ?_⟩
      have done : ∀ (H3 : Hp) (y : V) (u : PyData), Same H2 H3 → Dq d c H3 y u → Fit (L + 1) (n + 2) (m + 50) u → Q y H3 := fun H3 y u s3 hy hu => q H3 y u (hD2.same s3) (kq2.trans (kpSame s3)) hy hu
      have ty2 : TyX K H2 x (.type (tyD t)) := hx2.tyx
      have hfb := hf.b
      cases hx2 with
      | @tup a xs ds h0 hr' =>
        have hxl : xs.length ≤ 100000 := by
          have h1 := hr'.length
          have h2 := len_bulk ds
          have h3 : PyData.bulkAll ds ≤ m := hfb
          omega
        refine iteT ⟨.int kd, rfl, kd, 4, rfl, rfl, _, rfl, ite2 (fun hk => ?_) (fun _ => ⟨_, rfl, _, .ty "str", _, _, _, rfl, .ty _, ty2, kit_ty e4, _, rfl, iteF (iteF ⟨_, rfl, _, .ty "int", _, _, _, rfl, .ty _, ty2, kit_ty e1, _, rfl, iteF (iteF ⟨.ref d, rfl, _, rfl, odd_⟩)⟩)⟩)⟩
        have hk4 : kd < 4 := of_decide_eq_true hk
        refine ⟨(by rw [hPre]; exact ⟨_, _, a, xs, rfl, rfl, h0, hr', hxl, hD2⟩), fun H3 vs s3 hvs => ⟨len_dq hvs (by show 4 ≤ 100; decide), fun p np => ?_⟩⟩
        have vl : vs.length = 4 := hvs.length
        obtain ⟨v, hv, ev⟩ := item_at (xs := vs) (i := kd) k0 (by rw [vl]; exact hk4)
        obtain ⟨u, hu, hvu⟩ := hvs.mem hv
        have s4 := same_upd (o := .lst vs) np
        exact ⟨.int kd, rfl, p, vs, kd, v, rfl, rfl, .inl (.inl upd_same), ev, done _ v u (s3.trans s4) (hvu.keep (kxSame s4)) (tup_fit hf u hu)⟩
      | str z =>
        refine iteF (iteF ⟨_, rfl, _, .ty "str", _, _, _, rfl, .ty _, ty2, kit_ty e4, _, rfl, iteT ⟨.int kd, rfl, kd, 4, rfl, rfl, _, rfl, ite2 (fun hk => ?_) (fun _ => ⟨_, rfl, _, .ty "int", _, _, _, rfl, .ty _, ty2, kit_ty e1, _, rfl, iteF (iteF ⟨.ref d, rfl, _, rfl, odd_⟩)⟩)⟩⟩)
        have hk4 : kd < 4 := of_decide_eq_true hk
        obtain ⟨z1, z2⟩ := gd_str hf.g
        have z3 : z.length ≤ m := hfb
        have big : z.length + 1 ≤ sizeLine := Nat.le_trans (show z.length + 1 ≤ 100 by omega) (by decide)
        refine ⟨.str z, rfl, z, ("a" : Str), rfl, rfl, big, .str z, rfl, ⟨_, rfl⟩, z, rfl, rfl, by omega, .str z, rfl, 1, rfl, z, rfl, Nat.le_trans (show z.length ≤ 100 by omega) (by decide), .str z, rfl, z, (" " : Str), rfl, rfl, big, (by show 4 ≤ sizeLine; decide), fun p np => ?_⟩
        obtain ⟨v, hv, ev⟩ := item_at (xs := [V.str (z ++ ("a" : Str)), .str (Txt.upper z), .str (cutS z (some 1) none), .str (z ++ (" " : Str))]) (i := kd) k0 hk4
        refine ⟨.int kd, rfl, p, _, kd, v, rfl, rfl, .inl (.inl upd_same), ev, ?_⟩
        simp only [List.mem_cons, List.not_mem_nil, or_false] at hv
        have la : (z ++ ("a" : Str)).length = z.length + 1 := by rw [strLen_append]; rfl
        have lb : (z ++ (" " : Str)).length = z.length + 1 := by rw [strLen_append]; rfl
        have lc := len_cut z (some 1) none
        have lu := (up_low z2).2
        rcases hv with rfl | rfl | rfl | rfl
        · exact done _ _ _ (same_upd np) (.str _) (fit_str (by omega) (app_low z2 (by decide +kernel)) (by omega))
        · exact done _ _ _ (same_upd np) (.str _) (fit_str (by omega) (up_low z2).1 (by omega))
        · exact done _ _ _ (same_upd np) (.str _) (fit_str (by omega) (cut_low z2 _ _) (by omega))
        · exact done _ _ _ (same_upd np) (.str _) (fit_str (by omega) (app_low z2 (by decide +kernel)) (by omega))
      | int i =>
        refine iteF (iteF ⟨_, rfl, _, .ty "str", _, _, _, rfl, .ty _, ty2, kit_ty e4, _, rfl, iteF (iteF ⟨_, rfl, _, .ty "int", _, _, _, rfl, .ty _, ty2, kit_ty e1, _, rfl, iteT ⟨.int kd, rfl, kd, 3, rfl, rfl, _, rfl, ite2 (fun hk => ?_) (fun _ => ⟨.ref d, rfl, _, rfl, odd_⟩)⟩⟩)⟩)
        have hk3 : kd < 3 := of_decide_eq_true hk
        obtain ⟨i1, i2⟩ := num_fit (i := i) hf rfl hL
        refine ⟨.int i, rfl, d, c, .int i, i, 1, rfl, .int i, rfl, .int i, rfl, d, c, .int i, i, 0, rfl, .int i, rfl, .int i, rfl, d, c, .int i, .int i, i, rfl, .int i, rfl, (gd_int i1).1, (by show 3 ≤ sizeLine; decide), fun p np => ?_⟩
        obtain ⟨v, hv, ev⟩ := item_at (xs := [V.bl (i == 1), .int (0 - i), .str (strN (.int i))]) (i := kd) k0 hk3
        refine ⟨.int kd, rfl, p, _, kd, v, rfl, rfl, .inl (.inl upd_same), ev, ?_⟩
        simp only [List.mem_cons, List.not_mem_nil, or_false] at hv
        rcases hv with rfl | rfl | rfl
        · exact done _ _ _ (same_upd np) (.bl _) ⟨rfl, Nat.zero_le _, Nat.zero_le _⟩
        · exact done _ _ _ (same_upd np) (.int _) ⟨decide_eq_true (by omega), Nat.zero_le _, Nat.zero_le _⟩
        · exact done _ _ _ (same_upd np) (.str _) i2
      | bl k =>
        refine iteF (iteF ⟨_, rfl, _, .ty "str", _, _, _, rfl, .ty _, ty2, kit_ty e4, _, rfl, iteF (iteF ⟨_, rfl, _, .ty "int", _, _, _, rfl, .ty _, ty2, kit_ty e1, _, rfl, iteT ⟨.int kd, rfl, kd, 3, rfl, rfl, _, rfl, ite2 (fun hk => ?_) (fun _ => ⟨.ref d, rfl, _, rfl, odd_⟩)⟩⟩)⟩)
        have hk3 : kd < 3 := of_decide_eq_true hk
        obtain ⟨i1, i2⟩ := num_fit (i := if k then 1 else 0) hf rfl hL
        refine ⟨.bl k, rfl, d, c, .bool k, _, 1, rfl, .bl k, rfl, .bl k, rfl, d, c, .bool k, _, 0, rfl, .bl k, rfl, .bl k, rfl, d, c, .bl k, .bool k, _, rfl, .bl k, rfl, (gd_int i1).1, (by show 3 ≤ sizeLine; decide), fun p np => ?_⟩
        obtain ⟨v, hv, ev⟩ := item_at (xs := [V.bl ((if k then (1 : Int) else 0) == 1), .int (0 - (if k then (1 : Int) else 0)), .str (strN (.bool k))]) (i := kd) k0 hk3
        refine ⟨.int kd, rfl, p, _, kd, v, rfl, rfl, .inl (.inl upd_same), ev, ?_⟩
        simp only [List.mem_cons, List.not_mem_nil, or_false] at hv
        rcases hv with rfl | rfl | rfl
        · exact done _ _ _ (same_upd np) (.bl _) ⟨rfl, Nat.zero_le _, Nat.zero_le _⟩
        · exact done _ _ _ (same_upd np) (.int _) ⟨decide_eq_true (by omega), Nat.zero_le _, Nat.zero_le _⟩
        · exact done _ _ _ (same_upd np) (.str _) i2
      | _ => exact iteF (iteF ⟨_, rfl, _, .ty "str", _, _, _, rfl, .ty _, ty2, kit_ty e4, _, rfl, iteF (iteF ⟨_, rfl, _, .ty "int", _, _, _, rfl, .ty _, ty2, kit_ty e1, _, rfl, iteF (iteF ⟨.ref d, rfl, _, rfl, odd_⟩)⟩)⟩)
theorem ok_bent {f fD fO : Addr} {fd fdD fdO : FuncData} {k : Nat} (F : Fun K "_law_bent" "_law_bent" sBent f fd) (GD : FnOk P w K mg base CX0 (k + 1) fD fdD ["_law_deck_here", "_law_many"] spDraw) (bD : Binds K fdD ["_law_deck_here", "_law_many"] [])
    (gD : mg "_law_draw" = some (.ref fD)) (kD : PySem.W.keepIn K (.ref fD) = true) (GO : FnOk P w K mg base CX0 (k + 2) fO fdO psBent spOdd) (bO : Binds K fdO psBent []) (gO : mg "_law_odd" = some (.ref fO)) (kO : PySem.W.keepIn K (.ref fO) = true)
    (mi : mg "isinstance" = none) (mt : mg "tuple" = none) (ml : mg "len" = none) (ms : mg "str" = none) (mn : mg "int" = none) (mls : mg "list" = none)
    (b : Binds K fd psBent []) (g : mg "_law_bent" = some (.ref f)) : ∀ n, FnOk P w K mg base CX0 (k + 3 + n) f fd psBent (spBent n)
  | 0 => ok_bent1 (n := 0) F GD bD gD kD GO bO gO kO mi mt ml ms mn mls ⟨fun _ _ _ _ h => h.elim, fun _ _ _ _ _ _ _ _ _ _ _ _ _ h => h.elim⟩ b g
  | n + 1 => ok_bent1 (n := n + 1) F GD bD gD kD GO bO gO kO mi mt ml ms mn mls (by
      have h := ok_bent F GD bD gD kD GO bO gO kO mi mt ml ms mn mls b g n
      rw [show k + 2 + (n + 1) = k + 3 + n by omega]
      exact h) b g
end
end Ksec
set_option Elab.async false
set_option linter.all false
set_option maxRecDepth 100000
set_option maxHeartbeats 4000000
namespace Ksec
open PySem PySem.Spec PyProof.Rows L2
/-! terms as things -/
theorem IsTm.dq {d c : Addr} {H : Hp} {x : V} {t : Tm} (h : IsTm H x t) : Dq d c H x t.data := by
  induction h with
  | int i => exact .int i
  | wrd z => exact .str z
  | nil h => exact .tup h .nil
  | unk h => exact .tup h (.cons (.str _) (.cons (.int _) .nil))
  | pair h _ _ i1 i2 => exact .tup h (.cons i1 (.cons i2 .nil))
theorem wd_gd {L : Nat} {z : Str} (h : Wd z) (hL : 8 ≤ L) : gd L (.str z) = true := gd_str_mk (Nat.le_trans h.2.1 hL) fun c hc => by
  have := h.2.2 c hc
  omega
theorem wd_is {z : Str} (h : Wd z) : isWordS z = true := by
  obtain ⟨h1, h2, h3⟩ := h
  unfold isWordS
  rw [decide_eq_true h1, decide_eq_true h2]
  show (z.cps.toList.all fun c => decide (97 ≤ c) && decide (c ≤ 122)) = true
  rw [List.all_eq_true]
  intro c hc
  have := h3 c hc
  rw [decide_eq_true this.1, decide_eq_true this.2]
  rfl
theorem tm_gd {L : Nat} (hL : 8 ≤ L) : ∀ {t : Tm}, t.ok → gd L t.data = true
  | .int i, h => decide_eq_true (Nat.le_trans h (by decide +kernel))
  | .wrd z, h => wd_gd h hL
  | .nil, _ => rfl
  | .unk n, h => by
    refine gd_two_mk (gd_mono (L := 1) (by omega) _ (by decide +kernel)) (decide_eq_true ?_)
    have : n.natAbs ≤ 999 := by
      have := h.1
      have := h.2
      omega
    exact Nat.le_trans this (by decide +kernel)
  | .pair a b, h => gd_two_mk (tm_gd hL h.1) (tm_gd hL h.2)
theorem tm_bulk : ∀ {t : Tm}, t.ok → t.data.bulk ≤ 10 * t.size
  | .int i, h => Nat.zero_le _
  | .wrd z, h => by
    show z.cps.size ≤ 10 * 1
    have h2 : z.length ≤ 8 := h.2.1
    have h3 : z.length = z.cps.size := rfl
    omega
  | .nil, _ => Nat.zero_le _
  | .unk n, h => by
    show (PyData.tuple [.str "?", .int n]).bulk ≤ 10 * 1
    rw [bulk_two]
    have e1 : (PyData.str "?").bulk = 1 := rfl
    have e2 : (PyData.int n).bulk = 0 := rfl
    omega
  | .pair a b, h => by
    have h1 := tm_bulk h.1
    have h2 := tm_bulk h.2
    show (PyData.tuple [a.data, b.data]).bulk ≤ 10 * (a.size + b.size + 1)
    rw [bulk_two]
    omega
theorem tm_noq : ∀ {t : Tm}, t.ok → isQ t.data = false
  | .int _, _ => rfl
  | .wrd z, h => beq_eq_false_iff_ne.mpr (wd_ne h)
  | .nil, _ => rfl
  | .unk _, _ => rfl
  | .pair _ _, _ => rfl
theorem tm_is : ∀ {t : Tm}, t.ok → isTerm t.data = true
  | .int _, _ => by simp [Tm.data, isTerm]
  | .wrd z, h => by
    show isTerm (.str z) = true
    rw [isTerm]
    exact wd_is h
  | .nil, _ => by simp [Tm.data, isTerm]
  | .unk n, h => by
    have hq : isQ (.str "?") = true := by decide +kernel
    show isTerm (.tuple [.str "?", .int n]) = true
    simp only [isTerm, hq, if_true]
    exact decide_eq_true h.1
  | .pair a b, h => by
    show isTerm (.tuple [a.data, b.data]) = true
    rw [isTerm_two _ _ (tm_noq h.1), tm_is h.1, tm_is h.2]
    rfl
theorem tm_fit {t : Tm} (h : t.ok) (hd : t.depth ≤ 30) (hs : t.size ≤ 200) : Fit 41 30 2000 t.data := ⟨tm_gd (by decide) h, Nat.le_trans t.data_depth hd, by have := tm_bulk h; omega⟩
/-! things that are written down, of which some is known only later -/
structure LE where
  d : Addr
  c : Addr
  t1 : PyData
  t2 : PyData
  t3 : PyData
structure PreE (Pre : LE → L2.St → Hp → Prop) : Prop where
  st : ∀ {e : LE} {σ : L2.St} {H H' : Hp}, Pre e σ H → Same H H' → Pre e σ H'
  dk : ∀ {e : LE} {σ : L2.St} {H : Hp}, Pre e σ H → Dk H e.d e.c
def tE (Pre : LE → L2.St → Hp → Prop) (u : LE → PyData) : TE := fun σ H Q => ∃ e, Pre e σ H ∧ ∀ H' v, Same H H' → Dq e.d e.c H' v (u e) → Q v H'
def tEs (Pre : LE → L2.St → Hp → Prop) (us : LE → List PyData) : TA := fun σ H Q => ∃ e, Pre e σ H ∧ ∀ H' vs, Same H H' → DqAll e.d e.c H' vs (us e) → Q vs H'
section
variable {X : Cx} {Pre : LE → L2.St → Hp → Prop}
theorem pf_of {e : Expr} {te : TE} {u : PyData} (v : V) (h : PE X e te) (hv : ∀ d c H, Dq d c H v u) (m : ∀ (σ : L2.St) (H : Hp) (Q : VK), Q v H → te σ H Q) : PE X e (tE Pre fun _ => u) :=
  PE.weak h fun σ H Q ⟨_, _, q⟩ => m σ H Q (q H v (Same.refl _) (hv _ _ H))
theorem pf_int {i : Int} {j : Nat} {pos : Pos} : PE X (.Constant (.int i) j pos) (tE Pre fun _ => .int i) := pf_of (.int i) pe_int (fun _ _ _ => .int i) fun _ _ _ q => q
theorem pf_str {x : Str} {j : Nat} {pos : Pos} : PE X (.Constant (.str x) j pos) (tE Pre fun _ => .str x) := pf_of (.str x) pe_str (fun _ _ _ => .str x) fun _ _ _ q => q
theorem pf_bl {b : Bool} {j : Nat} {pos : Pos} : PE X (.Constant (.bool b) j pos) (tE Pre fun _ => .bool b) := pf_of (.bl b) pe_bl (fun _ _ _ => .bl b) fun _ _ _ q => q
theorem pf_non {j : Nat} {pos : Pos} : PE X (.Constant .none j pos) (tE Pre fun _ => .none) := pf_of .non pe_non (fun _ _ _ => .non) fun _ _ _ q => q
theorem pf_neg {i : Int} {j : Nat} {p1 p2 : Pos} : PE X (.UnaryOp .USub (.Constant (.int i) j p1) p2) (tE Pre fun _ => .int (-i)) := pf_of (.int (-i)) (pe_un un_neg pe_int) (fun _ _ _ => .int _) fun _ _ _ q => ⟨i, rfl, q⟩
theorem pf_pow {j k : Nat} {p1 p2 p3 : Pos} : PE X (.BinOp (.Constant (.int 10) j p1) .Pow (.Constant (.int 39) k p2) p3) (tE Pre fun _ => .int (10 ^ 39)) :=
  pf_of (.int (10 ^ 39)) (pe_op op_pow pe_int pe_int) (fun _ _ _ => .int _) fun _ _ _ q => ⟨10, 39, rfl, rfl, ⟨by decide, by decide, by decide⟩, q⟩
theorem pf_var {e : Expr} (u : LE → PyData) (i : Nat) (h : PE X e (tVar i)) (hp : ∀ e σ H, Pre e σ H → ∃ x, σ[i]? = some (some x) ∧ Dq e.d e.c H x (u e)) : PE X e (tE Pre u) :=
  PE.weak h fun σ H Q ⟨l, p, q⟩ => by
    obtain ⟨x, e, hx⟩ := hp l σ H p
    exact ⟨x, e, q H x (Same.refl _) hx⟩
theorem pf_nil : PA X [] (tEs Pre fun _ => []) := PA.weak pa_nil fun σ H Q ⟨_, _, q⟩ => q H [] (Same.refl _) .nil
theorem pf_cons (hP : PreE Pre) {e : Expr} {es : List Expr} {u : LE → PyData} {us : LE → List PyData} (h : PE X e (tE Pre u)) (hr : PA X es (tEs Pre us)) (hs : starEach (e :: es) X.env = (false, eval e X.env) :: starEach es X.env := by rfl) :
    PA X (e :: es) (tEs Pre fun l => u l :: us l) :=
  PA.weak (pa_cons h hr hs) fun σ H Q ⟨l, p, q⟩ => ⟨l, p, fun H1 v s1 hv => ⟨l, hP.st p s1, fun H2 vs s2 hvs => q H2 (v :: vs) (s1.trans s2) (.cons (hv.keep (kxSame s2)) hvs)⟩⟩
theorem pf_tup {es : List Expr} {us : LE → List PyData} {x1 : Nat} {pos : Pos} (h : PA X es (tEs Pre us)) (hl : ∀ l, (us l).length ≤ 100 := by exact fun _ => Nat.le_of_ble_eq_true rfl) : PE X (.Tuple es x1 pos) (tE Pre fun l => .tuple (us l)) :=
  PE.weak (pe_tup h) fun σ H Q ⟨l, p, q⟩ => ⟨l, p, fun H1 vs s1 hvs => ⟨len_dq hvs (hl l), fun a na => q _ _ (s1.trans (same_upd na)) (.tup upd_same (DqAll.keep (kxSame (same_upd na)) hvs))⟩⟩
theorem pf_lst (hP : PreE Pre) {es : List Expr} {us : LE → List PyData} {pos : Pos} (h : PA X es (tEs Pre us)) (hl : ∀ l, (us l).length ≤ 100 := by exact fun _ => Nat.le_of_ble_eq_true rfl) : PE X (.List es pos) (tE Pre fun l => .list (us l)) :=
  PE.weak (pe_lstS h) fun σ H Q ⟨l, p, q⟩ => ⟨l, p, fun H1 vs s1 hvs => ⟨len_dq hvs (hl l), fun a na ns => by
    have hD := hP.dk (hP.st p s1)
    exact q _ _ (s1.trans (same_upd na)) (.lst (hD.ne1 na) (hD.ne2 na) ns upd_same (DqAll.keep (kxSame (same_upd na)) hvs))⟩⟩
theorem pf_dict0 {pos : Pos} : PE X (.Dict [] [] pos) (tE Pre fun _ => .dict []) := PE.weak pe_dnewK fun σ H Q ⟨l, p, q⟩ => fun a na => q _ _ (same_upd na) (.dct upd_same .nil)
theorem pf_dict1 {i k : Int} {j j2 : Nat} {p1 p2 pos : Pos} : PE X (.Dict [some (.Constant (.int i) j p1)] [.Constant (.int k) j2 p2] pos) (tE Pre fun _ => .dict [(.int i, .int k)]) :=
  PE.weak (pe_disp (pps_cons pe_int pe_int pps_nil) rfl rfl (by simp) (by simp)) fun σ H Q ⟨l, p, q⟩ => fun a na => by
    refine ⟨upd_same, [(Sum.inl i, .int k)], rfl, by simp, ?_⟩
    have s1 : Same H (upd (upd H a (.dK [])) a (.dK (mergeK [] [(Sum.inl i, .int k)]))) := fun b o e => by
      rw [upd_ne (ne_of_none e na), upd_ne (ne_of_none e na)]
      exact e
    exact q _ _ s1 (.dct upd_same (.cons (k := Sum.inl i) (.int k) .nil))
end
def PreA : LE → L2.St → Hp → Prop := fun e σ H => Dk H e.d e.c ∧ ∃ x, σ[4]? = some (some x) ∧ Dq e.d e.c H x e.t1
theorem preA : PreE PreA := ⟨fun ⟨h1, x, h2, h3⟩ s => ⟨h1.same s, x, h2, h3.keep (kxSame s)⟩, fun h => h.1⟩
def PreC : LE → L2.St → Hp → Prop := fun e σ H => Dk H e.d e.c ∧ (∃ x, σ[11]? = some (some x) ∧ Dq e.d e.c H x e.t1) ∧ (∃ x, σ[12]? = some (some x) ∧ Dq e.d e.c H x e.t2) ∧ ∃ x, σ[13]? = some (some x) ∧ Dq e.d e.c H x e.t3
theorem preC : PreE PreC := ⟨fun ⟨h0, ⟨x1, h1, g1⟩, ⟨x2, h2, g2⟩, ⟨x3, h3, g3⟩⟩ s => ⟨h0.same s, ⟨x1, h1, g1.keep (kxSame s)⟩, ⟨x2, h2, g2.keep (kxSame s)⟩, ⟨x3, h3, g3.keep (kxSame s)⟩⟩, fun h => h.1⟩
end Ksec
set_option Elab.async false
set_option linter.all false
set_option maxRecDepth 100000
set_option maxHeartbeats 8000000
namespace Ksec
open PySem PySem.Spec PyProof.Rows L2
abbrev sLaw : Stmt := topS 22
abbrev nLaw : List Str := ["_law_script", "_law_deck_here", "_law_words", "_law_unknowns", "_law_deep", "_law_turn", "_law_odd_here", "_law_term_here", "_law_k", "_law_twice", "_law_thing", "_law_tree", "_law_row", "_law_heads"]
theorem scLaw : FnScope nLaw ["_law_script"] (defScope sLaw) := ⟨rfl, rfl, rfl, by decide +kernel, rfl, by decide +kernel, by decide +kernel⟩
def oA : List PyData := [.none, .bool true, .bool false, .int 0, .int (-1), .int (10 ^ 39), .str "", .str "a", .str "A", .str "abcdefgh", .str "abcdefghi", .str "a1", .str " ", .str "?", .tuple [], .list [], .dict []]
def oB (t : PyData) : List PyData := [t, .tuple [.int 1, .int 2], .tuple [.int 1, .int 2, .int 3], .tuple [.str "?", .int 0], .tuple [.str "?", .int (-1)], .tuple [.str "?", .bool false], .tuple [.str "?", .str "a"], .tuple [.str "a", .str "?"], .dict [(.int 1, .int 2)]]
def oE : PyData := .tuple [.tuple [.str "?", .int 1], .tuple [.str "?"]]
def oC (a b c : PyData) : List PyData := [a, b, c, .tuple [a, .list [.int 1]], .tuple [a, .str "A"], .tuple [.int 1, b], .tuple [c, .tuple [.str "?", .int (-1)]], .tuple [c, .tuple [.str "?", .int 5]]]
abbrev Good (t : PyData) : Prop := Fit 100 62 300000 t
theorem oA_good : ∀ u ∈ oA, Good u := by
  have key : oA.all (fun u => gd 100 u && decide (u.depth ≤ 62) && decide (u.bulk ≤ 300000)) = true := by decide +kernel
  intro u hu
  have h2 := List.all_eq_true.mp key u hu
  simp only [Bool.and_eq_true, decide_eq_true_eq] at h2
  exact ⟨h2.1.1, h2.1.2, h2.2⟩
theorem oB_good {t : PyData} (h : Good t) : ∀ u ∈ oB t, Good u := by
  have key : (oB .none).all (fun u => gd 100 u && decide (u.depth ≤ 62) && decide (u.bulk ≤ 300000)) = true := by decide +kernel
  intro u hu
  rcases List.mem_cons.mp hu with rfl | hu'
  · exact h
  · have h2 := List.all_eq_true.mp key u (List.mem_cons_of_mem _ hu')
    simp only [Bool.and_eq_true, decide_eq_true_eq] at h2
    exact ⟨h2.1.1, h2.1.2, h2.2⟩
theorem oE_good : Good oE := ⟨by decide +kernel, by decide +kernel, by decide +kernel⟩
theorem two_good {L n m n' m' : Nat} {a b : PyData} (h1 : Fit L n m a) (h2 : Fit L n' m' b) : Fit L (max n n' + 1) (m + m' + 2) (.tuple [a, b]) := by
  refine ⟨gd_two_mk h1.g h2.g, ?_, ?_⟩
  · have := h1.d
    have := h2.d
    rw [depth_two]
    omega
  · have := h1.b
    have := h2.b
    rw [bulk_two]
    omega
theorem oC_good {a b c : PyData} (ha : Fit 41 12 30000 a) (hb : Fit 41 59 200 b) (hc : Fit 41 59 200 c) : ∀ u ∈ oC a b c, Good u := by
  have lit : ∀ u : PyData, (gd 41 u && decide (u.depth ≤ 1) && decide (u.bulk ≤ 10)) = true → Fit 41 1 10 u := fun u h2 => by
    simp only [Bool.and_eq_true, decide_eq_true_eq] at h2
    exact ⟨h2.1.1, h2.1.2, h2.2⟩
  intro u hu
  simp only [oC, List.mem_cons, List.not_mem_nil, or_false] at hu
  rcases hu with rfl | rfl | rfl | rfl | rfl | rfl | rfl | rfl
  · exact ha.mono (by decide) (by decide) (by decide)
  · exact hb.mono (by decide) (by decide) (by decide)
  · exact hc.mono (by decide) (by decide) (by decide)
  · exact (two_good ha (lit (.list [.int 1]) (by decide +kernel))).mono (by decide) (by decide) (by decide)
  · exact (two_good ha (lit (.str "A") (by decide +kernel))).mono (by decide) (by decide) (by decide)
  · exact (two_good (lit (.int 1) (by decide +kernel)) hb).mono (by decide) (by decide) (by decide)
  · exact (two_good hc (lit (.tuple [.str "?", .int (-1)]) (by decide +kernel))).mono (by decide) (by decide) (by decide)
  · exact (two_good hc (lit (.tuple [.str "?", .int 5]) (by decide +kernel))).mono (by decide) (by decide) (by decide)
theorem one_fit {L n m : Nat} {t : PyData} (h : Fit L n m t) : Fit L (n + 1) (m + 2) (.list [t]) := by
  refine ⟨?_, ?_, ?_⟩
  · show (gd L t && true) = true
    rw [h.g]
    rfl
  · have := h.d
    show max t.depth 0 + 1 ≤ _
    omega
  · have := h.b
    show t.bulk + 1 + 0 ≤ _
    omega
theorem nil_fit {L : Nat} : Fit L 1 0 (.tuple []) := ⟨rfl, Nat.le_refl _, Nat.le_refl _⟩
theorem int_fit {L : Nat} {i : Int} (h : i.natAbs ≤ 1000) : Fit L 0 0 (.int i) := ⟨decide_eq_true (Nat.le_trans h (by decide +kernel)), Nat.le_refl _, Nat.le_refl _⟩
/-- what stands throughout -/
structure Lw (H : Hp) (d c wl ul ol : Addr) (zs : List Str) (us : List Int) (ovs : List V) (ots : List PyData) : Prop where
  D : Dk H d c
  S : Src H d c wl ul zs us
  z4 : zs.length = 4
  o : H ol = some (.lst ovs)
  o1 : ol ≠ d
  o2 : ol ≠ c
  q : DqAll d c H ovs ots
  f : ∀ u ∈ ots, Good u
  l : ovs.length ≤ 50
theorem Lw.keep {H H' : Hp} {d c wl ul ol : Addr} {zs : List Str} {us : List Int} {ovs : List V} {ots : List PyData} (h : Lw H d c wl ul ol zs us ovs ots) (hD : Dk H' d c) (k : Kp d c H H') : Lw H' d c wl ul ol zs us ovs ots :=
  ⟨hD, h.S.keep k, h.z4, k _ _ h.o1 h.o2 h.o, h.o1, h.o2, h.q.keep (kxKp h.D k), h.f, h.l⟩
theorem Lw.same {H H' : Hp} {d c wl ul ol : Addr} {zs : List Str} {us : List Int} {ovs : List V} {ots : List PyData} (h : Lw H d c wl ul ol zs us ovs ots) (s : Same H H') : Lw H' d c wl ul ol zs us ovs ots := h.keep (h.D.same s) (kpSame s)
theorem Lw.word {H : Hp} {d c wl ul ol : Addr} {zs : List Str} {us : List Int} {ovs : List V} {ots : List PyData} (h : Lw H d c wl ul ol zs us ovs ots) (i : Int) : ∃ z, Wd z ∧ atI (zs.map V.str) (i % 4) = some (.str z) := by
  have m0 := Int.emod_nonneg i (show (4 : Int) ≠ 0 by decide)
  have m1 := Int.emod_lt_of_pos i (show (0 : Int) < 4 by decide)
  obtain ⟨v, hv, ev⟩ := item_at (xs := zs.map V.str) (i := i % 4) m0 (by rw [List.length_map, h.z4]; exact m1)
  obtain ⟨z, hz, rfl⟩ := List.mem_map.mp hv
  exact ⟨z, h.S.wd z hz, ev⟩
theorem laterG {tt : TT} {tb u : TS} {D : Ends} {σ : L2.St} {H : Hp} {y : V} {i : Nat} (C : L2.St → Hp → Prop) (first : (∀ σ1 H1, C σ1 H1 → u D σ1 H1) → tSeq (tIfS tt tb tNext) u D (σ.set i (some y)) H) (second : ∀ σ1 H1, C σ1 H1 → u D σ1 H1) : gName i y σ H (tSeq (tIfS tt tb tNext) u D) := first second
theorem wd_fit {z : Str} (h : Wd z) : Fit 41 30 2000 (.str z) := fit_str (by have := h.2.1; omega) (fun c hc => by have := h.2.2 c hc; omega) (by have := h.2.1; omega)
section
variable {P : Program} {w : World} {K : PySem.W.Frag} {mg : Str → Option Value} {base : Heap}
def spLaw (K : PySem.W.Frag) : Sp := fun vs H Q _ => ∃ (a : Addr) (ns : List Int), vs = [.ref a] ∧ SqL K H a (ns.map V.int) ∧ ∀ H', Q (.bl true) H'
theorem ok_law {f f1 f2 f3 f4 f5 f6 f7 f8 : Addr} {fd d1 d2 d3 d4 d5 d6 d7 d8 : FuncData} (F : Fun K "law" "law" sLaw f fd)
    (G1 : FnOk P w K mg base CX0 71 f1 d1 ["_law_script"] (spDeck K)) (b1 : Binds K d1 ["_law_script"] []) (g1 : mg "_law_deck" = some (.ref f1)) (k1 : PySem.W.keepIn K (.ref f1) = true)
    (G2 : FnOk P w K mg base CX0 71 f2 d2 ["_law_deck_here", "_law_many"] spNames) (b2 : Binds K d2 ["_law_deck_here", "_law_many"] []) (g2 : mg "_law_names" = some (.ref f2)) (k2 : PySem.W.keepIn K (.ref f2) = true)
    (G3 : FnOk P w K mg base CX0 71 f3 d3 ["_law_deck_here", "_law_many"] spDraw) (b3 : Binds K d3 ["_law_deck_here", "_law_many"] []) (g3 : mg "_law_draw" = some (.ref f3)) (k3 : PySem.W.keepIn K (.ref f3) = true)
    (G4 : FnOk P w K mg base CX0 71 f4 d4 ["_law_deck_here", "_law_words", "_law_unknowns"] spAny) (b4 : Binds K d4 ["_law_deck_here", "_law_words", "_law_unknowns"] []) (g4 : mg "_law_any_term" = some (.ref f4)) (k4 : PySem.W.keepIn K (.ref f4) = true)
    (G5 : GOk P w K mg base 71 f5 d5 ["_law_thing"] spRight) (b5 : Binds K d5 ["_law_thing"] []) (g5 : mg "_law_right" = some (.ref f5)) (k5 : PySem.W.keepIn K (.ref f5) = true)
    (G6 : FnOk P w K mg base CX0 71 f6 d6 ["thing"] spIsTerm) (b6 : Binds K d6 ["thing"] []) (g6 : mg "is_term" = some (.ref f6)) (k6 : PySem.W.keepIn K (.ref f6) = true)
    (G7 : FnOk P w K mg base CX0 71 f7 d7 ["thing"] spWord) (b7 : Binds K d7 ["thing"] []) (g7 : mg "is_word" = some (.ref f7)) (k7 : PySem.W.keepIn K (.ref f7) = true)
    (G8 : FnOk P w K mg base CX0 71 f8 d8 psBent (spBent 30)) (G9 : FnOk P w K mg base CX0 71 f8 d8 psBent (spBent 32)) (b8 : Binds K d8 psBent []) (g8 : mg "_law_bent" = some (.ref f8)) (k8 : PySem.W.keepIn K (.ref f8) = true)
    (mr : mg "range" = none) : GOk P w K mg base 72 f fd ["_law_script"] (spLaw K) := by
  refine gok_of F scLaw (fun vs H Q E h => ?_) (fun cdv A outer s H vs Q E g0 hr h => ?_)
  · obtain ⟨a, ns, rfl, _⟩ := h
    rfl
  · obtain ⟨a, ns, rfl, hS, q⟩ := h
    refine ⟨_, pss_cons (ps_set (i := 1) scLaw.nd rfl (.inl rfl) (pe_call G1 hr (by rfl) g1 k1 b1 .nil pass0 (pa_cons (pv 0) pa_nil)))
      (pss_cons (ps_set (i := 2) scLaw.nd rfl (.inl rfl) (pe_call G2 hr (by rfl) g2 k2 b2 .nil pass0 (pa_cons (pv 1) (pa_cons pe_int pa_nil))))
      (pss_cons (ps_set (i := 3) scLaw.nd rfl (.inl rfl) (pe_ix ix_list (pe_lst (pa_cons (pe_lst (pa_cons pe_int (pa_cons pe_int (pa_cons pe_int (pa_cons pe_int pa_nil))))) (pa_cons (pe_lst (pa_cons pe_int (pa_cons pe_int (pa_cons pe_int (pa_cons pe_int pa_nil))))) (pa_cons (pe_lst pa_nil) pa_nil))))
        (pe_call G3 hr (by rfl) g3 k3 b3 .nil pass0 (pa_cons (pv 1) (pa_cons pe_int pa_nil))) (fun _ _ => rfl)))
      (pss_cons (ps_set (i := 4) scLaw.nd rfl (.inl rfl) pe_int)
      (pss_cons (ps_for PassesOwn.never rfl (pi_range1 (by rfl) mr (pa_cons pe_int pa_nil)) (pg_name (i := 5) scLaw.nd rfl (Or.inl rfl))
        (pss_one (ps_set (i := 4) scLaw.nd rfl (.inl rfl) (pe_ix ix_list (pe_lst (pa_cons (pe_tup (pa_cons (pv 4) (pa_cons (pe_tup pa_nil) pa_nil))) (pa_cons (pe_lstS (pa_cons (pv 4) pa_nil)) (pa_cons (pe_tup (pa_cons pe_int (pa_cons (pv 4) pa_nil))) pa_nil))))
          (pe_op op_mod (pv 5) pe_int) (fun _ _ => rfl)))))
      (pss_cons (ps_set (i := 6) scLaw.nd rfl (.inl rfl) (pe_lst (pf_cons preA pf_non (pf_cons preA pf_bl (pf_cons preA pf_bl (pf_cons preA pf_int (pf_cons preA pf_neg (pf_cons preA pf_pow (pf_cons preA pf_str (pf_cons preA pf_str (pf_cons preA pf_str (pf_cons preA pf_str (pf_cons preA pf_str (pf_cons preA pf_str (pf_cons preA pf_str (pf_cons preA pf_str (pf_cons preA (pf_tup pf_nil) (pf_cons preA (pf_lst preA pf_nil) (pf_cons preA pf_dict0 pf_nil)))))))))))))))))))
      (pss_cons (ps_set (i := 6) scLaw.nd rfl (.inl rfl) (pe_op op_cat (pv 6) (pe_lst (pf_cons preA (pf_var (fun e => e.t1) 4 (pv 4) fun _ _ _ h => h.2) (pf_cons preA (pf_tup (pf_cons preA pf_int (pf_cons preA pf_int pf_nil))) (pf_cons preA (pf_tup (pf_cons preA pf_int (pf_cons preA pf_int (pf_cons preA pf_int pf_nil)))) (pf_cons preA (pf_tup (pf_cons preA pf_str (pf_cons preA pf_int pf_nil))) (pf_cons preA (pf_tup (pf_cons preA pf_str (pf_cons preA pf_neg pf_nil))) (pf_cons preA (pf_tup (pf_cons preA pf_str (pf_cons preA pf_bl pf_nil))) (pf_cons preA (pf_tup (pf_cons preA pf_str (pf_cons preA pf_str pf_nil))) (pf_cons preA (pf_tup (pf_cons preA pf_str (pf_cons preA pf_str pf_nil))) (pf_cons preA pf_dict1 pf_nil))))))))))))
      (pss_cons (ps_expr (pe_bm PySem.F.plainAttrs_list PySem.F.slot_list_append PySem.F.type_list_append mt_append (pv 6) (pa_cons (pe_tup (pa_cons (pe_tup (pa_cons pe_str (pa_cons pe_int pa_nil))) (pa_cons (pe_tup (pa_cons pe_str pa_nil)) pa_nil))) pa_nil)))
      (pss_cons (ps_for PassesOwn.never rfl (pi_range1 (by rfl) mr (pa_cons pe_int pa_nil)) (pg_name (i := 5) scLaw.nd rfl (Or.inl rfl))
        (pss_cons (ps_set (i := 7) scLaw.nd rfl (.inl rfl) (pe_call G4 hr (by rfl) g4 k4 b4 .nil pass0 (pa_cons (pv 1) (pa_cons (pv 2) (pa_cons (pv 3) pa_nil)))))
        (pss_cons (ps_if (PW.pt (pw_or (pt_cmpR op_notBl (pe_call G6 hr (by rfl) g6 k6 b6 .nil pass0 (pa_cons (pv 7) pa_nil)) pe_bl (nomark _))
            (pw_or1 (pt_cmpR op_notBl (pe_call G7 hr (by rfl) g7 k7 b7 .nil pass0 (pa_cons (pe_ix ix_list (pv 2) (pe_op op_mod (pv 5) pe_int) (fun _ _ => rfl)) pa_nil)) pe_bl (nomark _))))) (pss_one (ps_ret pe_bl)) pss_nil)
        (pss_cons (ps_for PassesOwn.never rfl (pi_range1 (by rfl) mr (pa_cons pe_int pa_nil)) (pg_name (i := 8) scLaw.nd rfl (Or.inl rfl))
          (pss_cons (ps_set (i := 9) scLaw.nd rfl (.inl rfl) (pe_call G3 hr (by rfl) g3 k3 b3 .nil pass0 (pa_cons (pv 1) (pa_cons pe_int pa_nil))))
          (pss_cons (ps_set (i := 10) scLaw.nd rfl (.inl rfl) (pe_call G8 hr (by rfl) g8 k8 b8 .nil pass0 (pa_cons (pv 1) (pa_cons (pv 7) pa_nil))))
          (pss_cons (ps_if (pt_cmpR op_eq (pv 9) pe_int (nomark _)) (pss_one (ps_set (i := 10) scLaw.nd rfl (.inl rfl) (pe_call G9 hr (by rfl) g8 k8 b8 .nil pass0 (pa_cons (pv 1) (pa_cons (pv 10) pa_nil))))) pss_nil)
          (pss_one (ps_if (PW.pt (pw_or (pt_not (pt_val (pe_gcall G5 g0 hr (by rfl) g5 k5 b5 (pa_cons (pv 10) pa_nil))))
            (pw_or1 (pt_not (pt_val (pe_gcall G5 g0 hr (by rfl) g5 k5 b5 (pa_cons (pe_call G8 hr (by rfl) g8 k8 b8 .nil pass0 (pa_cons (pv 1) (pa_cons (pe_ix ix_list (pv 2) (pe_op op_mod (pv 8) pe_int) (fun _ _ => rfl)) pa_nil))) pa_nil))))))) (pss_one (ps_ret pe_bl)) pss_nil))))))
        (pss_one (ps_if (pt_not (pt_val (pe_gcall G5 g0 hr (by rfl) g5 k5 b5 (pa_cons (pv 7) pa_nil)))) (pss_one (ps_ret pe_bl)) pss_nil))))))
      (pss_cons (ps_par3 (i := 11) (j := 12) (l := 13) rfl scLaw.nd rfl rfl rfl (by decide) (by decide) (by decide) rfl rfl rfl (pa_cons (pe_ix ix_list (pv 2) pe_int (fun _ _ => rfl)) (pa_cons (pe_tup pa_nil) (pa_cons pe_int pa_nil))) (by rfl))
      (pss_cons (ps_for PassesOwn.never rfl (pi_range1 (by rfl) mr (pa_cons pe_int pa_nil)) (pg_name (i := 5) scLaw.nd rfl (Or.inl rfl))
        (pss_cons (ps_par (i := 12) (j := 13) rfl scLaw.nd rfl rfl (by decide) rfl rfl (pa_cons (pe_tup (pa_cons (pv 5) (pa_cons (pv 12) pa_nil))) (pa_cons (pe_tup (pa_cons (pv 13) (pa_cons (pe_tup pa_nil) pa_nil))) pa_nil)) (by rfl))
        (pss_one (ps_if (pt_cmpR op_lt (pv 5) pe_int (nomark _)) (pss_one (ps_set (i := 11) scLaw.nd rfl (.inl rfl) (pe_tup (pa_cons (pv 11) (pa_cons (pv 11) pa_nil))))) pss_nil))))
      (pss_cons (ps_set (i := 6) scLaw.nd rfl (.inl rfl) (pe_op op_cat (pv 6) (pe_lst (pf_cons preC (pf_var (fun e => e.t1) 11 (pv 11) fun _ _ _ h => h.2.1) (pf_cons preC (pf_var (fun e => e.t2) 12 (pv 12) fun _ _ _ h => h.2.2.1) (pf_cons preC (pf_var (fun e => e.t3) 13 (pv 13) fun _ _ _ h => h.2.2.2) (pf_cons preC (pf_tup (pf_cons preC (pf_var (fun e => e.t1) 11 (pv 11) fun _ _ _ h => h.2.1) (pf_cons preC (pf_lst preC (pf_cons preC pf_int pf_nil)) pf_nil))) (pf_cons preC (pf_tup (pf_cons preC (pf_var (fun e => e.t1) 11 (pv 11) fun _ _ _ h => h.2.1) (pf_cons preC pf_str pf_nil))) (pf_cons preC (pf_tup (pf_cons preC pf_int (pf_cons preC (pf_var (fun e => e.t2) 12 (pv 12) fun _ _ _ h => h.2.2.1) pf_nil))) (pf_cons preC (pf_tup (pf_cons preC (pf_var (fun e => e.t3) 13 (pv 13) fun _ _ _ h => h.2.2.2) (pf_cons preC (pf_tup (pf_cons preC pf_str (pf_cons preC pf_neg pf_nil))) pf_nil))) (pf_cons preC (pf_tup (pf_cons preC (pf_var (fun e => e.t3) 13 (pv 13) fun _ _ _ h => h.2.2.2) (pf_cons preC (pf_tup (pf_cons preC pf_str (pf_cons preC pf_int pf_nil))) pf_nil))) pf_nil)))))))))))
      (pss_one (ps_ret (pe_cmpR (op_eqD hr.units)
        (pe_lc (own := [("_law_thing", 10)]) (g := gName 10) rfl scLaw.nd (pi_list (pv 6)) (blkOk_by (own := [("_law_thing", 10)]) (N := nLaw) (sc := defScope sLaw) (by decide +kernel))
          (fun _ _ _ _ _ => pg_name (i := 10) scLaw.nd rfl (Or.inl rfl)) (fun _ _ _ _ _ => pts_one (pt_not (pt_val (pe_gcall G5 g0 hr (by rfl) g5 k5 b5 (pa_cons (pv 10) pa_nil))))) (fun _ _ _ _ _ => pv 10))
        (pe_lst pa_nil) (nomark _))))))))))))))), ?_⟩
    refine ⟨.ref a, rfl, a, ns, rfl, hS, fun H1 d c s1 nd nc hD => ?_⟩
    refine ⟨.ref d, rfl, d, c, 4, rfl, hD, by decide, fun H2 wl zs hD2 kp2 nw w1 w2 hw zl zw => ?_⟩
    refine ⟨(by show 4 ≤ sizeLine; decide), fun l1 n1 => ⟨(by show 4 ≤ sizeLine; decide), fun l2 n2 => ⟨Nat.zero_le _, fun l3 n3 => ⟨(by show 3 ≤ sizeLine; decide), fun l5 n5 => ?_⟩⟩⟩⟩
    have t1 := same_upd (o := .lst (([0, 1, 2, 5] : List Int).map V.int)) n1
    have t2 := same_upd (o := .lst (([0, 10, 99, 999] : List Int).map V.int)) n2
    have t3 := same_upd (o := .lst (([] : List Int).map V.int)) n3
    have t5 := same_upd (o := .lst [.ref l1, .ref l2, .ref l3]) n5
    have t35 := t3.trans t5
    have t25 := t2.trans t35
    have t15 := t1.trans t25
    have u1 := t25 _ _ (upd_same (a := l1))
    have u2 := t35 _ _ (upd_same (a := l2))
    have u3 := t5 _ _ (upd_same (a := l3))
    have a1 := hD2.ne1 n1
    have a2 := hD2.ne2 n1
    have b1 := (hD2.same t1).ne1 n2
    have b2 := (hD2.same t1).ne2 n2
    have c1 := (hD2.same (t1.trans t2)).ne1 n3
    have c2 := (hD2.same (t1.trans t2)).ne2 n3
    have f1 := (hD2.same (t1.trans (t2.trans t3))).ne1 n5
    have f2 := (hD2.same (t1.trans (t2.trans t3))).ne2 n5
    refine ⟨.ref d, rfl, d, c, 3, rfl, hD2.same t15, by decide, by decide, fun H5 r hD5 kp5 r0 r1 => ?_⟩
    obtain ⟨v, hv, ev⟩ := item_at (xs := [V.ref l1, .ref l2, .ref l3]) r0 r1
    have v1 := kp5 _ _ a1 a2 u1
    have v2 := kp5 _ _ b1 b2 u2
    have v3 := kp5 _ _ c1 c2 u3
    have hw5 := kp5 _ _ w1 w2 (t15 _ _ hw)
    have mkS : ∀ (ul : Addr) (us : List Int), H5 ul = some (.lst (us.map V.int)) → ul ≠ d → ul ≠ c → us.length ≤ 100 → (∀ n ∈ us, 0 ≤ n ∧ n ≤ 999) → Src H5 d c wl ul zs us := fun ul us h1 h2 h3 h4 h5 => ⟨hw5, h1, w1, w2, h2, h3, zw, by rw [zl]; decide, by rw [zl]; decide, h4, h5⟩
    obtain ⟨ul, us, rfl, S5⟩ : ∃ ul us, v = .ref ul ∧ Src H5 d c wl ul zs us := by
      simp only [List.mem_cons, List.not_mem_nil, or_false] at hv
      rcases hv with rfl | rfl | rfl
      · exact ⟨l1, [0, 1, 2, 5], rfl, mkS _ _ v1 a1 a2 (by decide) (by decide)⟩
      · exact ⟨l2, [0, 10, 99, 999], rfl, mkS _ _ v2 b1 b2 (by decide) (by decide)⟩
      · exact ⟨l3, [], rfl, mkS _ [] v3 c1 c2 (by decide) (by decide)⟩
    refine ⟨l5, _, r, _, rfl, rfl, .inl (.inl (kp5 _ _ f1 f2 upd_same)), ev, ?_⟩
    refine ⟨55, rfl, by decide, by decide, ?_⟩
    refine for_range (lo := 0) (n := 55) (fun i σ H' => ∃ (y5 : Option V) (x : V) (t : PyData), σ = [some (.ref a), some (.ref d), some (.ref wl), some (.ref ul), some x, y5, none, none, none, none, none, none, none, none] ∧ Dk H' d c ∧ Src H' d c wl ul zs us ∧ Dq d c H' x t ∧ Fit 41 (i + 1) (2 * i) t)
      ⟨none, .int 5, .int 5, rfl, hD5, S5, .int 5, ((int_fit (by decide)).mono (Nat.le_refl _) (by omega) (by omega))⟩ (fun i σ H6 hi h6 => ?_) (fun σ H6 h6 => ?_)
    · obtain ⟨y5, x, t, rfl, hD6, S6, hx6, hf6⟩ := h6
      refine ⟨x, rfl, Nat.zero_le _, fun p1 m1 => ⟨(by show 2 ≤ sizeLine; decide), fun p2 m2 => ⟨x, rfl, (by show 1 ≤ sizeLine; decide), fun p3 m3 z3 => ⟨x, rfl, (by show 2 ≤ sizeLine; decide), fun p4 m4 => ⟨(by show 3 ≤ sizeLine; decide), fun p5 m5 => ?_⟩⟩⟩⟩⟩
      have e1 := same_upd (o := .tup []) m1
      have e2 := same_upd (o := .tup [x, .ref p1]) m2
      have e3 := same_upd (o := .lst [x]) m3
      have e4 := same_upd (o := .tup [.int 1, x]) m4
      have e5 := same_upd (o := .lst [.ref p2, .ref p3, .ref p4]) m5
      have e45 := e4.trans e5
      have e35 := e3.trans e45
      have e25 := e2.trans e35
      have e15 := e1.trans e25
      have hx := hx6.keep (kxSame e15)
      have q2 := Dq.tup (e35 _ _ (upd_same (a := p2))) (.cons hx (.cons (.tup (e25 _ _ (upd_same (a := p1))) .nil) .nil))
      have q3 := Dq.lst ((hD6.same (e1.trans e2)).ne1 m3) ((hD6.same (e1.trans e2)).ne2 m3) z3 (e45 _ _ (upd_same (a := p3))) (.cons hx .nil)
      have q4 := Dq.tup (e5 _ _ (upd_same (a := p4))) (.cons (.int 1) (.cons hx .nil))
      have m0 := Int.emod_nonneg (0 + (i : Int)) (show (3 : Int) ≠ 0 by decide)
      have m1' := Int.emod_lt_of_pos (0 + (i : Int)) (show (0 : Int) < 3 by decide)
      obtain ⟨v', hv', ev'⟩ := item_at (xs := [V.ref p2, .ref p3, .ref p4]) (i := (0 + (i : Int)) % 3) m0 m1'
      refine ⟨.int (0 + (i : Int)), rfl, _, 3, rfl, rfl, (by show (0 : Int) < 3; decide), p5, _, _, v', rfl, rfl, .inl (.inl upd_same), ev', ?_⟩
      simp only [List.mem_cons, List.not_mem_nil, or_false] at hv'
      rcases hv' with rfl | rfl | rfl
      · exact ⟨_, _, _, rfl, hD6.same e15, S6.keep (kpSame e15), q2, (two_good hf6 nil_fit).mono (Nat.le_refl _) (by omega) (by omega)⟩
      · exact ⟨_, _, _, rfl, hD6.same e15, S6.keep (kpSame e15), q3, (one_fit hf6).mono (Nat.le_refl _) (by omega) (by omega)⟩
      · exact ⟨_, _, _, rfl, hD6.same e15, S6.keep (kpSame e15), q4, (two_good (int_fit (by decide)) hf6).mono (Nat.le_refl _) (by omega) (by omega)⟩
    obtain ⟨y5, x, t, rfl, hD6, S6, hx6, hf6⟩ := h6
    refine ⟨⟨d, c, t, .none, .none⟩, ⟨hD6, x, rfl, hx6⟩, fun H7 vs1 s7 hv1 => ⟨len_dq hv1 (by show 17 ≤ 100; decide), fun p1 m1 => ?_⟩⟩
    have l1' : vs1.length = 17 := hv1.length
    have e1 := same_upd (o := .lst vs1) m1
    have e71 := s7.trans e1
    refine ⟨.ref p1, rfl, ⟨d, c, t, .none, .none⟩, ⟨hD6.same e71, x, rfl, hx6.keep (kxSame e71)⟩, fun H8 vs2 s8 hv2 => ⟨len_dq hv2 (by show 9 ≤ 100; decide), fun p2 m2 => ?_⟩⟩
    have l2' : vs2.length = 9 := hv2.length
    have e2 := same_upd (o := .lst vs2) m2
    refine ⟨p1, p2, vs1, vs2, rfl, rfl, e2 _ _ (s8 _ _ upd_same), upd_same, ?_, fun ol nol => ?_⟩
    · rw [l1', l2']
      decide
    have e62 := e71.trans (s8.trans e2)
    have hv12 := DqAll.app (hv2.keep (kxSame e2)) (hv1.keep (kxSame (e1.trans (s8.trans e2))))
    have hD8 := hD6.same e62
    have S8 := S6.keep (kpSame e62)
    have o1 := hD8.ne1 nol
    have o2 := hD8.ne2 nol
    generalize upd H8 p2 (.lst vs2) = H9 at *
    have eo := same_upd (o := .lst (vs1 ++ vs2)) nol
    refine ⟨.ref ol, rfl, .inl ⟨rfl, _, .inl (.inl upd_same)⟩, (by show 2 ≤ sizeLine; decide), fun a1 na1 => ⟨(by show 1 ≤ sizeLine; decide), fun a2 na2 => ⟨(by show 2 ≤ sizeLine; decide), fun a3 na3 => ?_⟩⟩⟩
    have g1 := same_upd (o := .tup [.str "?", .int 1]) na1
    have g2 := same_upd (o := .tup [.str "?"]) na2
    have g3 := same_upd (o := .tup [.ref a1, .ref a2]) na3
    have g13 := g1.trans (g2.trans g3)
    have hol := g13 _ _ (upd_same (H := H9) (a := ol) (o := .lst (vs1 ++ vs2)))
    have ha1 := (g2.trans g3) _ _ (upd_same (a := a1))
    have ha2 := g3 _ _ (upd_same (a := a2))
    have l12 : (vs1 ++ vs2).length = 26 := by rw [List.length_append, l1', l2']
    refine ⟨ol, _, .ref a3, rfl, rfl, hol, ?_, ?_⟩
    · rw [l12]
      decide
    have ha3 : upd (upd (upd (upd H9 ol (.lst (vs1 ++ vs2))) a1 (.tup [.str "?", .int 1])) a2 (.tup [.str "?"])) a3 (.tup [.ref a1, .ref a2]) a3 = some (.tup [.ref a1, .ref a2]) := upd_same
    have eg := eo.trans g13
    generalize upd (upd (upd (upd H9 ol (.lst (vs1 ++ vs2))) a1 (.tup [.str "?", .int 1])) a2 (.tup [.str "?"])) a3 (.tup [.ref a1, .ref a2]) = HA at *
    have tu : Tup HA (upd HA ol (.lst (vs1 ++ vs2 ++ [.ref a3]))) := tup_upd hol fun _ => by intro z; cases z
    have sB : Same H9 (upd HA ol (.lst (vs1 ++ vs2 ++ [.ref a3]))) := fun b o e => by
      rw [upd_ne (ne_of_none e nol)]
      exact eg b o e
    have LB : Lw (upd HA ol (.lst (vs1 ++ vs2 ++ [.ref a3]))) d c wl ul ol zs us (vs1 ++ vs2 ++ [.ref a3]) (oA ++ oB t ++ [oE]) := by
      refine ⟨hD8.same sB, S8.keep (kpSame sB), zl, upd_same, o1, o2, ?_, ?_, ?_⟩
      · exact DqAll.app (.cons (.tup (tu _ _ ha3) (.cons (.tup (tu _ _ ha1) (.cons (.str _) (.cons (.int _) .nil))) (.cons (.tup (tu _ _ ha2) (.cons (.str _) .nil)) .nil))) .nil) (hv12.keep (kxSame sB))
      · intro u hu
        rcases List.mem_append.mp hu with h | h
        · rcases List.mem_append.mp h with h | h
          · exact oA_good u h
          · exact oB_good (hf6.mono (by decide) (by decide) (by decide)) u h
        · rw [List.mem_singleton.mp h]
          exact oE_good
      · rw [List.length_append, l12]
        show 26 + 1 ≤ 50
        decide
    generalize upd HA ol (.lst (vs1 ++ vs2 ++ [.ref a3])) = HB at *
    generalize vs1 ++ vs2 ++ [.ref a3] = ovs at *
    generalize oA ++ oB t ++ [oE] = ots at *
    refine ⟨6, rfl, by decide, by decide, ?_⟩
    refine for_range (lo := 0) (n := 6) (fun i σ H' => ∃ (y4 y5 y7 y8 y9 y10 : Option V), σ = [some (.ref a), some (.ref d), some (.ref wl), some (.ref ul), y4, y5, some (.ref ol), y7, y8, y9, y10, none, none, none] ∧ Lw H' d c wl ul ol zs us ovs ots) ⟨_, _, _, _, _, _, rfl, LB⟩ (fun i σ H10 hi h10 => ?_) (fun σ H10 h10 => ?_)
    · obtain ⟨y4, y5, y7, y8, y9, y10, rfl, L10⟩ := h10
      refine ⟨.ref d, rfl, .ref wl, rfl, .ref ul, rfl, d, c, wl, ul, zs, us, rfl, L10.D, L10.S, fun H11 x t hD11 kp11 hx ok dp sz => ?_⟩
      have L11 := L10.keep hD11 kp11
      have hft := tm_fit ok dp sz
      refine ⟨x, rfl, d, c, x, t.data, rfl, hx.dq, gd_mono (by decide) _ hft.g, Nat.le_trans hft.b (by decide), fun H12 s12 => ⟨isTerm t.data, true, rfl, rfl, _, rfl, ?_⟩⟩
      rw [tm_is ok]
      have L12 := L11.same s12
      have hx12 := hx.keep (sameTup s12)
      obtain ⟨z, wz, evz⟩ := L12.word (0 + (i : Int))
      refine iteF ⟨.ref wl, rfl, .int (0 + (i : Int)), rfl, _, 4, rfl, rfl, (by show (0 : Int) < 4; decide), wl, _, _, _, rfl, rfl, .inl (.inl L12.S.w), evz, d, c, .str z, .str z, rfl, .str z, wd_gd wz (by decide), fun H13 s13 => ⟨isWord (.str z), true, rfl, rfl, _, rfl, ?_⟩⟩
      rw [show isWord (.str z) = true from wd_is wz]
      have L13 := L12.same s13
      have hx13 := hx12.keep (sameTup s13)
      refine iteF ⟨8, rfl, by decide, by decide, ?_⟩
      refine for_range (lo := 0) (n := 8) (fun j σ H' => ∃ (y8 y9 y10 : Option V), σ = [some (.ref a), some (.ref d), some (.ref wl), some (.ref ul), y4, some (.int (0 + (i : Int))), some (.ref ol), some x, y8, y9, y10, none, none, none] ∧ Lw H' d c wl ul ol zs us ovs ots ∧ IsTm H' x t) ⟨_, _, _, rfl, L13, hx13⟩ (fun j σ H14 hj h14 => ?_) (fun σ H14 h14 => ?_)
      · obtain ⟨y8, y9, y10, rfl, L14, hx14⟩ := h14
        refine ⟨.ref d, rfl, d, c, 2, rfl, L14.D, by decide, by decide, fun H15 tw hD15 kp15 _ _ => ?_⟩
        have L15 := L14.keep hD15 kp15
        have hx15 := hx14.keep (kpTup L14.D kp15)
        refine ⟨.ref d, rfl, x, rfl, d, c, x, t.data, 41, 2000, rfl, hD15, hx15.dq, hft, Nat.le_refl _, by decide, by decide, fun H16 y u hD16 kp16 hy hu => ?_⟩
        have L16 := L15.keep hD16 kp16
        have hx16 := hx15.keep (kpTup hD15 kp16)
        dsimp only
        refine laterG (C := fun σ1 H1 => ∃ y u, σ1 = [some (.ref a), some (.ref d), some (.ref wl), some (.ref ul), y4, some (.int (0 + (i : Int))), some (.ref ol), some x, some (.int (0 + (j : Int))), some (.int tw), some y, none, none, none] ∧ Lw H1 d c wl ul ol zs us ovs ots ∧ IsTm H1 x t ∧ Dq d c H1 y u ∧ Good u) ?first ?second
        case first =>
          intro rest
          refine ⟨.int tw, rfl, rfl, _, rfl, ite2 (fun _ => ?_) (fun _ => ?_)⟩
          · refine ⟨.ref d, rfl, y, rfl, d, c, y, u, 42, 2050, rfl, hD16, hy, hu, by decide, by decide, by decide, fun H17 y2 u2 hD17 kp17 hy2 hu2 => ?_⟩
            exact rest _ H17 ⟨y2, u2, rfl, L16.keep hD17 kp17, hx16.keep (kpTup hD16 kp17), hy2, hu2.mono (by decide) (by decide) (by decide)⟩
          · exact rest _ H16 ⟨y, u, rfl, L16, hx16, hy, hu.mono (by decide) (by decide) (by decide)⟩
        case second =>
          rintro σ1 H17 ⟨y, u, rfl, L17, hx17, hy, hu⟩
          refine ⟨y, rfl, d, c, y, u, rfl, hy, hu, fun H18 s18 => ⟨true, rfl, iteF ?_⟩⟩
          have L18 := L17.same s18
          obtain ⟨z, wz, evz⟩ := L18.word (0 + (j : Int))
          refine ⟨.ref d, rfl, .ref wl, rfl, .int (0 + (j : Int)), rfl, _, 4, rfl, rfl, (by show (0 : Int) < 4; decide), wl, _, _, _, rfl, rfl, .inl (.inl L18.S.w), evz, d, c, .str z, .str z, 41, 2000, rfl, L18.D, .str z, wd_fit wz, Nat.le_refl _, by decide, by decide, fun H19 y3 u3 hD19 kp19 hy3 hu3 => ?_⟩
          refine ⟨d, c, y3, u3, rfl, hy3, hu3.mono (by decide) (by decide) (by decide), fun H20 s20 => ⟨true, rfl, iteF ?_⟩⟩
          exact ⟨_, _, _, rfl, (L18.keep hD19 kp19).same s20, ((hx17.keep (sameTup s18)).keep (kpTup L18.D kp19)).keep (sameTup s20)⟩
      · obtain ⟨y8, y9, y10, rfl, L14, hx14⟩ := h14
        refine ⟨x, rfl, d, c, x, t.data, rfl, hx14.dq, hft.mono (by decide) (by decide) (by decide), fun H15 s15 => ⟨true, rfl, iteF ?_⟩⟩
        exact ⟨_, _, _, _, _, _, rfl, L14.same s15⟩
    obtain ⟨y4, y5, y7, y8, y9, y10, rfl, L10⟩ := h10
    obtain ⟨z, wz, evz⟩ := L10.word 0
    refine ⟨.ref wl, rfl, wl, _, 0, _, rfl, rfl, .inl (.inl L10.S.w), evz, Nat.zero_le _, fun p np => ⟨_, _, _, rfl, ?_⟩⟩
    have L11 := L10.same (same_upd (o := .tup []) np)
    have hp11 : upd H10 p (.tup []) p = some (.tup []) := upd_same
    generalize upd H10 p (.tup []) = H11 at *
    have wz8 := wz.2.1
    refine ⟨58, rfl, by decide, by decide, ?_⟩
    refine for_range (lo := 0) (n := 58) (fun i σ H' => ∃ (y5 : Option V) (x1 x2 x3 : V) (t1 t2 t3 : PyData), σ = [some (.ref a), some (.ref d), some (.ref wl), some (.ref ul), y4, y5, some (.ref ol), y7, y8, y9, y10, some x1, some x2, some x3] ∧ Lw H' d c wl ul ol zs us ovs ots ∧
      Dq d c H' x1 t1 ∧ Dq d c H' x2 t2 ∧ Dq d c H' x3 t3 ∧ gd 41 t1 = true ∧ t1.depth ≤ min i 11 ∧ t1.bulk + 2 ≤ 10 * 2 ^ (min i 11) ∧ Fit 41 (i + 1) (2 * i) t2 ∧ Fit 41 (i + 1) (2 * i) t3)
      ⟨_, .str z, .ref p, .int 1, .str z, .tuple [], .int 1, rfl, L11, .str z, .tup hp11 .nil, .int 1, wd_gd wz (by decide), Nat.zero_le _, ?_, nil_fit, (int_fit (by decide)).mono (Nat.le_refl _) (by omega) (by omega)⟩ (fun i σ H12 hi h12 => ?_) (fun σ H12 h12 => ?_)
    · show z.cps.size + 2 ≤ 10 * 2 ^ (min 0 11)
      have : z.length = z.cps.size := rfl
      have e : (2 : Nat) ^ (min 0 11) = 1 := rfl
      omega
    · obtain ⟨y5, x1, x2, x3, t1, t2, t3, rfl, L12, hx1, hx2, hx3, c1, c2, c3, c4, c5⟩ := h12
      refine ⟨.int (0 + (i : Int)), rfl, x2, rfl, (by show 2 ≤ sizeLine; decide), fun p1 m1 => ⟨x3, rfl, Nat.zero_le _, fun p2 m2 => ⟨(by show 2 ≤ sizeLine; decide), fun p3 m3 => ⟨_, _, rfl, ?_⟩⟩⟩⟩
      have e1 := same_upd (o := .tup [.int (0 + (i : Int)), x2]) m1
      have e2 := same_upd (o := .tup []) m2
      have e3 := same_upd (o := .tup [x3, .ref p2]) m3
      have e23 := e2.trans e3
      have e13 := e1.trans e23
      have q1 := hx1.keep (kxSame e13)
      have q2 := Dq.tup (e23 _ _ (upd_same (a := p1))) (.cons (.int (0 + (i : Int))) (.cons (hx2.keep (kxSame e13)) .nil))
      have q3 := Dq.tup (d := d) (c := c) (upd_same (H := upd (upd H12 p1 (.tup [.int (0 + (i : Int)), x2])) p2 (.tup [])) (a := p3) (o := .tup [x3, .ref p2])) (.cons (hx3.keep (kxSame e13)) (.cons (.tup (e3 _ _ (upd_same (a := p2))) .nil) .nil))
      have L13 := L12.same e13
      have r2 : Fit 41 (i + 2) (2 * (i + 1)) (.tuple [.int (0 + (i : Int)), t2]) := (two_good (int_fit (by omega)) c4).mono (Nat.le_refl _) (by omega) (by omega)
      have r3 : Fit 41 (i + 2) (2 * (i + 1)) (.tuple [t3, .tuple []]) := (two_good c5 nil_fit).mono (Nat.le_refl _) (by omega) (by omega)
      generalize upd (upd (upd H12 p1 (.tup [.int (0 + (i : Int)), x2])) p2 (.tup [])) p3 (.tup [x3, .ref p2]) = H13 at *
      refine ⟨.int (0 + (i : Int)), rfl, _, _, rfl, rfl, _, rfl, ite2 (fun hlt => ?_) (fun hge => ?_)⟩
      · have hi11 : i < 11 := by
          have := of_decide_eq_true hlt
          omega
        refine ⟨x1, rfl, x1, rfl, (by show 2 ≤ sizeLine; decide), fun p4 m4 => ?_⟩
        have e4 := same_upd (o := .tup [x1, x1]) m4
        refine ⟨_, _, _, _, _, _, _, rfl, L13.same e4, .tup upd_same (.cons (q1.keep (kxSame e4)) (.cons (q1.keep (kxSame e4)) .nil)), q2.keep (kxSame e4), q3.keep (kxSame e4), gd_two_mk c1 c1, ?_, ?_, r2, r3⟩
        · rw [depth_two]
          omega
        · rw [bulk_two, show min (i + 1) 11 = i + 1 by omega, Nat.pow_succ]
          rw [show min i 11 = i by omega] at c3
          omega
      · have hi11 : 11 ≤ i := by
          have : ¬ (0 + (i : Int) < 11) := fun z => hge (decide_eq_true z)
          omega
        refine ⟨_, _, _, _, _, _, _, rfl, L13, q1, q2, q3, c1, ?_, ?_, r2, r3⟩
        · omega
        · rw [show min (i + 1) 11 = min i 11 by omega]
          exact c3
    obtain ⟨y5, x1, x2, x3, t1, t2, t3, rfl, L12, hx1, hx2, hx3, c1, c2, c3, c4, c5⟩ := h12
    have f1' : Fit 41 12 30000 t1 := ⟨c1, by omega, by
      have e : 10 * 2 ^ (min 58 11) = 20480 := by decide
      rw [e] at c3
      omega⟩
    refine ⟨.ref ol, rfl, ⟨d, c, t1, t2, t3⟩, ⟨L12.D, ⟨x1, rfl, hx1⟩, ⟨x2, rfl, hx2⟩, ⟨x3, rfl, hx3⟩⟩, fun H13 vs3 s13 hv3 => ⟨len_dq hv3 (by show 8 ≤ 100; decide), fun p1 m1 => ?_⟩⟩
    have l3' : vs3.length = 8 := hv3.length
    have L13 := L12.same s13
    have e1 := same_upd (o := .lst vs3) m1
    have ll := L13.l
    refine ⟨ol, p1, ovs, vs3, rfl, rfl, e1 _ _ L13.o, upd_same, Nat.le_trans (show ovs.length + vs3.length ≤ 100 by omega) (by decide), fun fl nfl => ?_⟩
    have e2 := same_upd (o := .lst (ovs ++ vs3)) nfl
    have hall := DqAll.app (hv3.keep (kxSame (e1.trans e2))) (L13.q.keep (kxSame (e1.trans e2)))
    have hfl : upd (upd H13 p1 (.lst vs3)) fl (.lst (ovs ++ vs3)) fl = some (.lst (ovs ++ vs3)) := upd_same
    generalize upd (upd H13 p1 (.lst vs3)) fl (.lst (ovs ++ vs3)) = H14 at *
    refine ⟨.ref fl, rfl, fl, rfl, ⟨_, .inl (.inl hfl)⟩, fun D nD => ?_⟩
    refine lc_list (K := K) (a := fl) (xs := ovs ++ vs3) (fun j H' => Same H14 H' ∧ H' D = some (.lst [])) ⟨same_upd nD, upd_same⟩ (fun j H' _ h => .inl (.inl (h.1 _ _ hfl))) (fun j v H15 hv' h => ?_) (fun H15 h => ?_)
    · obtain ⟨s15, e15⟩ := h
      obtain ⟨u, hu, hvu⟩ := hall.mem (List.mem_of_getElem? hv')
      have gu : Good u := by
        rcases List.mem_append.mp hu with h | h
        · exact L13.f u h
        · exact oC_good f1' (c4.mono (Nat.le_refl _) (by decide) (by decide)) (c5.mono (Nat.le_refl _) (by decide) (by decide)) u h
      exact ⟨rfl, v, rfl, d, c, v, u, rfl, hvu.keep (kxSame s15), gu, fun H16 s16 => ⟨true, rfl, iteF ⟨s15.trans s16, s16 _ _ e15⟩⟩⟩
    · obtain ⟨s15, e15⟩ := h
      refine ⟨Nat.zero_le _, fun p np => ?_⟩
      have s16 := same_upd (o := .lst []) np
      refine ⟨.list (([] : List Int).map .int), .list (([] : List Int).map .int), .lst (.inl (.inl (s16 _ _ e15))) .nil, .lst (.inl (.inl upd_same)) .nil, shpL [], shpL [], ?_⟩
      rw [eqvL, decide_eq_true rfl]
      exact q _
end
end Ksec
set_option Elab.async false
set_option linter.all false
set_option maxRecDepth 100000
set_option maxHeartbeats 8000000
namespace Ksec
open PySem PySem.Spec PyProof.Rows L2
theorem all_mk {l : PySem.W.OpenLaw} {w : World} {K : PySem.W.Frag} {h : Heap} {mg : Str → Option Value} {fa : Addr} (X : K.In h) (G : h.Ns mainGlobals mg) (hfa : mg "law" = some (.ref fa))
    {f1 : Addr} {od1 an1 : Option Addr} {sl1 : Array (Option Value)} {oc1 kV1 dc1 pm1 cd1 ct1 : Value} (a1 : PySem.W.nsIn K mainGlobals "is_whole" = some (some (.ref f1)))
    (l1 : K.lookup f1 = some ⟨oc1, od1, .func (PySem.W.fnOf "is_whole" "is_whole" (defArgs sWhole) (defBody sWhole) (defScope sWhole) .none kV1 dc1 pm1 an1 cd1 ct1), sl1⟩) (c1 : PySem.W.codeIn K cd1 "is_whole" = true) (k1 : PySem.W.keepIn K (.ref f1) = true)
    {f2 : Addr} {od2 an2 : Option Addr} {sl2 : Array (Option Value)} {oc2 kV2 dc2 pm2 cd2 ct2 : Value} (a2 : PySem.W.nsIn K mainGlobals "is_word" = some (some (.ref f2)))
    (l2 : K.lookup f2 = some ⟨oc2, od2, .func (PySem.W.fnOf "is_word" "is_word" (defArgs sWord) (defBody sWord) (defScope sWord) .none kV2 dc2 pm2 an2 cd2 ct2), sl2⟩) (c2 : PySem.W.codeIn K cd2 "is_word" = true) (k2 : PySem.W.keepIn K (.ref f2) = true)
    {f3 : Addr} {od3 an3 : Option Addr} {sl3 : Array (Option Value)} {oc3 kV3 dc3 pm3 cd3 ct3 : Value} (a3 : PySem.W.nsIn K mainGlobals "is_unknown" = some (some (.ref f3)))
    (l3 : K.lookup f3 = some ⟨oc3, od3, .func (PySem.W.fnOf "is_unknown" "is_unknown" (defArgs sIsUnk) (defBody sIsUnk) (defScope sIsUnk) .none kV3 dc3 pm3 an3 cd3 ct3), sl3⟩) (c3 : PySem.W.codeIn K cd3 "is_unknown" = true) (k3 : PySem.W.keepIn K (.ref f3) = true)
    {f4 : Addr} {od4 an4 : Option Addr} {sl4 : Array (Option Value)} {oc4 kV4 dc4 pm4 cd4 ct4 : Value} (a4 : PySem.W.nsIn K mainGlobals "is_pair" = some (some (.ref f4)))
    (l4 : K.lookup f4 = some ⟨oc4, od4, .func (PySem.W.fnOf "is_pair" "is_pair" (defArgs sIsPair) (defBody sIsPair) (defScope sIsPair) .none kV4 dc4 pm4 an4 cd4 ct4), sl4⟩) (c4 : PySem.W.codeIn K cd4 "is_pair" = true) (k4 : PySem.W.keepIn K (.ref f4) = true)
    {f5 : Addr} {od5 an5 : Option Addr} {sl5 : Array (Option Value)} {oc5 kV5 dc5 pm5 cd5 ct5 : Value} (a5 : PySem.W.nsIn K mainGlobals "is_leaf" = some (some (.ref f5)))
    (l5 : K.lookup f5 = some ⟨oc5, od5, .func (PySem.W.fnOf "is_leaf" "is_leaf" (defArgs sLeaf) (defBody sLeaf) (defScope sLeaf) .none kV5 dc5 pm5 an5 cd5 ct5), sl5⟩) (c5 : PySem.W.codeIn K cd5 "is_leaf" = true) (k5 : PySem.W.keepIn K (.ref f5) = true)
    {f6 : Addr} {od6 an6 : Option Addr} {sl6 : Array (Option Value)} {oc6 kV6 dc6 pm6 cd6 ct6 : Value} (a6 : PySem.W.nsIn K mainGlobals "is_term" = some (some (.ref f6)))
    (l6 : K.lookup f6 = some ⟨oc6, od6, .func (PySem.W.fnOf "is_term" "is_term" (defArgs sIsTerm) (defBody sIsTerm) (defScope sIsTerm) .none kV6 dc6 pm6 an6 cd6 ct6), sl6⟩) (c6 : PySem.W.codeIn K cd6 "is_term" = true) (k6 : PySem.W.keepIn K (.ref f6) = true)
    {f7 : Addr} {od7 an7 : Option Addr} {sl7 : Array (Option Value)} {oc7 kV7 dc7 pm7 cd7 ct7 : Value} (a7 : PySem.W.nsIn K mainGlobals "_law_deck" = some (some (.ref f7)))
    (l7 : K.lookup f7 = some ⟨oc7, od7, .func (PySem.W.fnOf "_law_deck" "_law_deck" (defArgs sDeck) (defBody sDeck) (defScope sDeck) .none kV7 dc7 pm7 an7 cd7 ct7), sl7⟩) (c7 : PySem.W.codeIn K cd7 "_law_deck" = true) (k7 : PySem.W.keepIn K (.ref f7) = true)
    {f8 : Addr} {od8 an8 : Option Addr} {sl8 : Array (Option Value)} {oc8 kV8 dc8 pm8 cd8 ct8 : Value} (a8 : PySem.W.nsIn K mainGlobals "_law_draw" = some (some (.ref f8)))
    (l8 : K.lookup f8 = some ⟨oc8, od8, .func (PySem.W.fnOf "_law_draw" "_law_draw" (defArgs sDraw) (defBody sDraw) (defScope sDraw) .none kV8 dc8 pm8 an8 cd8 ct8), sl8⟩) (c8 : PySem.W.codeIn K cd8 "_law_draw" = true) (k8 : PySem.W.keepIn K (.ref f8) = true)
    {f9 : Addr} {od9 an9 : Option Addr} {sl9 : Array (Option Value)} {oc9 kV9 dc9 pm9 cd9 ct9 : Value} (a9 : PySem.W.nsIn K mainGlobals "_law_names" = some (some (.ref f9)))
    (l9 : K.lookup f9 = some ⟨oc9, od9, .func (PySem.W.fnOf "_law_names" "_law_names" (defArgs sNames) (defBody sNames) (defScope sNames) .none kV9 dc9 pm9 an9 cd9 ct9), sl9⟩) (c9 : PySem.W.codeIn K cd9 "_law_names" = true) (k9 : PySem.W.keepIn K (.ref f9) = true)
    {f10 : Addr} {od10 an10 : Option Addr} {sl10 : Array (Option Value)} {oc10 kV10 dc10 pm10 cd10 ct10 : Value} (a10 : PySem.W.nsIn K mainGlobals "_law_number" = some (some (.ref f10)))
    (l10 : K.lookup f10 = some ⟨oc10, od10, .func (PySem.W.fnOf "_law_number" "_law_number" (defArgs sNumber) (defBody sNumber) (defScope sNumber) .none kV10 dc10 pm10 an10 cd10 ct10), sl10⟩) (c10 : PySem.W.codeIn K cd10 "_law_number" = true) (k10 : PySem.W.keepIn K (.ref f10) = true)
    {f11 : Addr} {od11 an11 : Option Addr} {sl11 : Array (Option Value)} {oc11 kV11 dc11 pm11 cd11 ct11 : Value} (a11 : PySem.W.nsIn K mainGlobals "_law_tip" = some (some (.ref f11)))
    (l11 : K.lookup f11 = some ⟨oc11, od11, .func (PySem.W.fnOf "_law_tip" "_law_tip" (defArgs sTip) (defBody sTip) (defScope sTip) .none kV11 dc11 pm11 an11 cd11 ct11), sl11⟩) (c11 : PySem.W.codeIn K cd11 "_law_tip" = true) (k11 : PySem.W.keepIn K (.ref f11) = true)
    {f12 : Addr} {od12 an12 : Option Addr} {sl12 : Array (Option Value)} {oc12 kV12 dc12 pm12 cd12 ct12 : Value} (a12 : PySem.W.nsIn K mainGlobals "_law_term" = some (some (.ref f12)))
    (l12 : K.lookup f12 = some ⟨oc12, od12, .func (PySem.W.fnOf "_law_term" "_law_term" (defArgs sTerm) (defBody sTerm) (defScope sTerm) .none kV12 dc12 pm12 an12 cd12 ct12), sl12⟩) (c12 : PySem.W.codeIn K cd12 "_law_term" = true) (k12 : PySem.W.keepIn K (.ref f12) = true)
    {f13 : Addr} {od13 an13 : Option Addr} {sl13 : Array (Option Value)} {oc13 kV13 dc13 pm13 cd13 ct13 : Value} (a13 : PySem.W.nsIn K mainGlobals "_law_any_term" = some (some (.ref f13)))
    (l13 : K.lookup f13 = some ⟨oc13, od13, .func (PySem.W.fnOf "_law_any_term" "_law_any_term" (defArgs sAny) (defBody sAny) (defScope sAny) .none kV13 dc13 pm13 an13 cd13 ct13), sl13⟩) (c13 : PySem.W.codeIn K cd13 "_law_any_term" = true) (k13 : PySem.W.keepIn K (.ref f13) = true)
    {f14 : Addr} {od14 an14 : Option Addr} {sl14 : Array (Option Value)} {oc14 kV14 dc14 pm14 cd14 ct14 : Value} (a14 : PySem.W.nsIn K mainGlobals "_law_is_word" = some (some (.ref f14)))
    (l14 : K.lookup f14 = some ⟨oc14, od14, .func (PySem.W.fnOf "_law_is_word" "_law_is_word" (defArgs sLWord) (defBody sLWord) (defScope sLWord) .none kV14 dc14 pm14 an14 cd14 ct14), sl14⟩) (c14 : PySem.W.codeIn K cd14 "_law_is_word" = true) (k14 : PySem.W.keepIn K (.ref f14) = true)
    {f15 : Addr} {od15 an15 : Option Addr} {sl15 : Array (Option Value)} {oc15 kV15 dc15 pm15 cd15 ct15 : Value} (a15 : PySem.W.nsIn K mainGlobals "_law_whole" = some (some (.ref f15)))
    (l15 : K.lookup f15 = some ⟨oc15, od15, .func (PySem.W.fnOf "_law_whole" "_law_whole" (defArgs sLWhole) (defBody sLWhole) (defScope sLWhole) .none kV15 dc15 pm15 an15 cd15 ct15), sl15⟩) (c15 : PySem.W.codeIn K cd15 "_law_whole" = true) (k15 : PySem.W.keepIn K (.ref f15) = true)
    {f16 : Addr} {od16 an16 : Option Addr} {sl16 : Array (Option Value)} {oc16 kV16 dc16 pm16 cd16 ct16 : Value} (a16 : PySem.W.nsIn K mainGlobals "_law_is_term" = some (some (.ref f16)))
    (l16 : K.lookup f16 = some ⟨oc16, od16, .func (PySem.W.fnOf "_law_is_term" "_law_is_term" (defArgs sLTerm) (defBody sLTerm) (defScope sLTerm) .none kV16 dc16 pm16 an16 cd16 ct16), sl16⟩) (c16 : PySem.W.codeIn K cd16 "_law_is_term" = true) (k16 : PySem.W.keepIn K (.ref f16) = true)
    {f17 : Addr} {od17 an17 : Option Addr} {sl17 : Array (Option Value)} {oc17 kV17 dc17 pm17 cd17 ct17 : Value} (a17 : PySem.W.nsIn K mainGlobals "_law_odd" = some (some (.ref f17)))
    (l17 : K.lookup f17 = some ⟨oc17, od17, .func (PySem.W.fnOf "_law_odd" "_law_odd" (defArgs sOdd) (defBody sOdd) (defScope sOdd) .none kV17 dc17 pm17 an17 cd17 ct17), sl17⟩) (c17 : PySem.W.codeIn K cd17 "_law_odd" = true) (k17 : PySem.W.keepIn K (.ref f17) = true)
    {f18 : Addr} {od18 an18 : Option Addr} {sl18 : Array (Option Value)} {oc18 kV18 dc18 pm18 cd18 ct18 : Value} (a18 : PySem.W.nsIn K mainGlobals "_law_bent" = some (some (.ref f18)))
    (l18 : K.lookup f18 = some ⟨oc18, od18, .func (PySem.W.fnOf "_law_bent" "_law_bent" (defArgs sBent) (defBody sBent) (defScope sBent) .none kV18 dc18 pm18 an18 cd18 ct18), sl18⟩) (c18 : PySem.W.codeIn K cd18 "_law_bent" = true) (k18 : PySem.W.keepIn K (.ref f18) = true)
    {f19 : Addr} {od19 an19 : Option Addr} {sl19 : Array (Option Value)} {oc19 kV19 dc19 pm19 cd19 ct19 : Value} (a19 : PySem.W.nsIn K mainGlobals "_law_right" = some (some (.ref f19)))
    (l19 : K.lookup f19 = some ⟨oc19, od19, .func (PySem.W.fnOf "_law_right" "_law_right" (defArgs sRight) (defBody sRight) (defScope sRight) .none kV19 dc19 pm19 an19 cd19 ct19), sl19⟩) (c19 : PySem.W.codeIn K cd19 "_law_right" = true) (k19 : PySem.W.keepIn K (.ref f19) = true)
    {f20 : Addr} {od20 an20 : Option Addr} {sl20 : Array (Option Value)} {oc20 kV20 dc20 pm20 cd20 ct20 : Value} (a20 : PySem.W.nsIn K mainGlobals "law" = some (some (.ref f20)))
    (l20 : K.lookup f20 = some ⟨oc20, od20, .func (PySem.W.fnOf "law" "law" (defArgs sLaw) (defBody sLaw) (defScope sLaw) .none kV20 dc20 pm20 an20 cd20 ct20), sl20⟩) (c20 : PySem.W.codeIn K cd20 "law" = true) (k20 : PySem.W.keepIn K (.ref f20) = true)
    (z1 : PySem.W.nsIn K mainGlobals "isinstance" = some none)
    (z2 : PySem.W.nsIn K mainGlobals "int" = some none)
    (z3 : PySem.W.nsIn K mainGlobals "bool" = some none)
    (z4 : PySem.W.nsIn K mainGlobals "str" = some none)
    (z5 : PySem.W.nsIn K mainGlobals "len" = some none)
    (z6 : PySem.W.nsIn K mainGlobals "all" = some none)
    (z7 : PySem.W.nsIn K mainGlobals "tuple" = some none)
    (z8 : PySem.W.nsIn K mainGlobals "list" = some none)
    (z9 : PySem.W.nsIn K mainGlobals "sum" = some none)
    (z10 : PySem.W.nsIn K mainGlobals "range" = some none)
    (z11 : PySem.W.nsIn K mainGlobals "repr" = some none)
    {tk : Tok} (y1 : PySem.W.nsIn K mainGlobals "WORD_LETTERS" = some (some (.int 8 tk))) :
    ∃ fd : FuncData, (∀ (s : Shared) (v : Value), BindsTo s fd ⟨[v], []⟩ [("_law_script", v)]) ∧ ∀ base : Heap, K.In base → base.Ns mainGlobals mg → GOk l.prog w K mg base 72 fa fd ["_law_script"] (spLaw K) := by
  cases hfa.symm.trans (PySem.W.mg_of X G a20)
  have F1 := fun_mk (st := sWhole) l1 c1 k1
  have b1 := F1.binds (ps := ["thing"]) fun _ _ _ _ _ _ us hl => match us, hl with | [_], _ => rfl
  have g1 := PySem.W.mg_of X G a1
  have F2 := fun_mk (st := sWord) l2 c2 k2
  have b2 := F2.binds (ps := ["thing"]) fun _ _ _ _ _ _ us hl => match us, hl with | [_], _ => rfl
  have g2 := PySem.W.mg_of X G a2
  have F3 := fun_mk (st := sIsUnk) l3 c3 k3
  have b3 := F3.binds (ps := ["thing"]) fun _ _ _ _ _ _ us hl => match us, hl with | [_], _ => rfl
  have g3 := PySem.W.mg_of X G a3
  have F4 := fun_mk (st := sIsPair) l4 c4 k4
  have b4 := F4.binds (ps := ["thing"]) fun _ _ _ _ _ _ us hl => match us, hl with | [_], _ => rfl
  have g4 := PySem.W.mg_of X G a4
  have F5 := fun_mk (st := sLeaf) l5 c5 k5
  have b5 := F5.binds (ps := ["thing"]) fun _ _ _ _ _ _ us hl => match us, hl with | [_], _ => rfl
  have g5 := PySem.W.mg_of X G a5
  have F6 := fun_mk (st := sIsTerm) l6 c6 k6
  have b6 := F6.binds (ps := ["thing"]) fun _ _ _ _ _ _ us hl => match us, hl with | [_], _ => rfl
  have g6 := PySem.W.mg_of X G a6
  have F7 := fun_mk (st := sDeck) l7 c7 k7
  have b7 := F7.binds (ps := ["_law_script"]) fun _ _ _ _ _ _ us hl => match us, hl with | [_], _ => rfl
  have g7 := PySem.W.mg_of X G a7
  have F8 := fun_mk (st := sDraw) l8 c8 k8
  have b8 := F8.binds (ps := ["_law_deck_here", "_law_many"]) fun _ _ _ _ _ _ us hl => match us, hl with | [_, _], _ => rfl
  have g8 := PySem.W.mg_of X G a8
  have F9 := fun_mk (st := sNames) l9 c9 k9
  have b9 := F9.binds (ps := ["_law_deck_here", "_law_many"]) fun _ _ _ _ _ _ us hl => match us, hl with | [_, _], _ => rfl
  have g9 := PySem.W.mg_of X G a9
  have F10 := fun_mk (st := sNumber) l10 c10 k10
  have b10 := F10.binds (ps := ["_law_deck_here"]) fun _ _ _ _ _ _ us hl => match us, hl with | [_], _ => rfl
  have g10 := PySem.W.mg_of X G a10
  have F11 := fun_mk (st := sTip) l11 c11 k11
  have b11 := F11.binds (ps := ["_law_deck_here", "_law_words", "_law_unknowns"]) fun _ _ _ _ _ _ us hl => match us, hl with | [_, _, _], _ => rfl
  have g11 := PySem.W.mg_of X G a11
  have F12 := fun_mk (st := sTerm) l12 c12 k12
  have b12 := F12.binds (ps := ["_law_deck_here", "_law_words", "_law_unknowns", "_law_deep", "_law_left"]) fun _ _ _ _ _ _ us hl => match us, hl with | [_, _, _, _, _], _ => rfl
  have g12 := PySem.W.mg_of X G a12
  have F13 := fun_mk (st := sAny) l13 c13 k13
  have b13 := F13.binds (ps := ["_law_deck_here", "_law_words", "_law_unknowns"]) fun _ _ _ _ _ _ us hl => match us, hl with | [_, _, _], _ => rfl
  have g13 := PySem.W.mg_of X G a13
  have F14 := fun_mk (st := sLWord) l14 c14 k14
  have b14 := F14.binds (ps := ["_law_thing"]) fun _ _ _ _ _ _ us hl => match us, hl with | [_], _ => rfl
  have g14 := PySem.W.mg_of X G a14
  have F15 := fun_mk (st := sLWhole) l15 c15 k15
  have b15 := F15.binds (ps := ["_law_thing"]) fun _ _ _ _ _ _ us hl => match us, hl with | [_], _ => rfl
  have g15 := PySem.W.mg_of X G a15
  have F16 := fun_mk (st := sLTerm) l16 c16 k16
  have b16 := F16.binds (ps := ["_law_thing"]) fun _ _ _ _ _ _ us hl => match us, hl with | [_], _ => rfl
  have g16 := PySem.W.mg_of X G a16
  have F17 := fun_mk (st := sOdd) l17 c17 k17
  have b17 := F17.binds (ps := ["_law_deck_here", "_law_thing"]) fun _ _ _ _ _ _ us hl => match us, hl with | [_, _], _ => rfl
  have g17 := PySem.W.mg_of X G a17
  have F18 := fun_mk (st := sBent) l18 c18 k18
  have b18 := F18.binds (ps := ["_law_deck_here", "_law_thing"]) fun _ _ _ _ _ _ us hl => match us, hl with | [_, _], _ => rfl
  have g18 := PySem.W.mg_of X G a18
  have F19 := fun_mk (st := sRight) l19 c19 k19
  have b19 := F19.binds (ps := ["_law_thing"]) fun _ _ _ _ _ _ us hl => match us, hl with | [_], _ => rfl
  have g19 := PySem.W.mg_of X G a19
  have F20 := fun_mk (st := sLaw) l20 c20 k20
  have g20 := PySem.W.mg_of X G a20
  have m1 := PySem.W.mg_none_of X G z1
  have m2 := PySem.W.mg_none_of X G z2
  have m3 := PySem.W.mg_none_of X G z3
  have m4 := PySem.W.mg_none_of X G z4
  have m5 := PySem.W.mg_none_of X G z5
  have m6 := PySem.W.mg_none_of X G z6
  have m7 := PySem.W.mg_none_of X G z7
  have m8 := PySem.W.mg_none_of X G z8
  have m9 := PySem.W.mg_none_of X G z9
  have m10 := PySem.W.mg_none_of X G z10
  have m11 := PySem.W.mg_none_of X G z11
  have gW := PySem.W.mg_of X G y1
  refine ⟨PySem.W.fnOf "law" "law" (defArgs sLaw) (defBody sLaw) (defScope sLaw) .none kV20 dc20 pm20 an20 cd20 ct20, fun s v => .of_eq rfl, fun base _ _ => ?_⟩
  have hWh : FnOk l.prog w K mg base CX0 1 f1 _ ["thing"] spWhole := ok_whole (k := 0) F1 m1 m2 m3
  have hWd : FnOk l.prog w K mg base CX0 1 f2 _ ["thing"] spWord := ok_word (k := 0) F2 m1 m4 m5 m6 gW
  have hU : FnOk l.prog w K mg base CX0 2 f3 _ ["thing"] spIsUnk := ok_isunk (k := 0) F3 hWh b1 g1 F1.kp m1 m7 m5
  have hP : FnOk l.prog w K mg base CX0 1 f4 _ ["thing"] spIsPair := ok_ispair (k := 0) F4 m1 m7 m5
  have hL : FnOk l.prog w K mg base CX0 3 f5 _ ["thing"] spLeaf := ok_leaf (k := 0) F5 (hWh.mono (by decide)) b1 g1 F1.kp (hWd.mono (by decide)) b2 g2 F2.kp hU b3 g3 F3.kp
  have hT : FnOk l.prog w K mg base CX0 4 f6 _ ["thing"] spIsTerm := ok_isterm (k := 0) F6 (hP.mono (by decide)) b4 g4 F4.kp hL b5 g5 F5.kp
  have hDk : FnOk l.prog w K mg base CX0 1 f7 _ ["_law_script"] (spDeck K) := ok_deck (k := 0) F7 m8 m9
  have hD : FnOk l.prog w K mg base CX0 1 f8 _ ["_law_deck_here", "_law_many"] spDraw := ok_draw (k := 0) F8
  have hN : FnOk l.prog w K mg base CX0 2 f9 _ ["_law_deck_here", "_law_many"] spNames := ok_names (k := 0) F9 hD b8 g8 F8.kp m10
  have hNu : FnOk l.prog w K mg base CX0 2 f10 _ ["_law_deck_here"] spNumber := ok_number (k := 0) F10 hD b8 g8 F8.kp
  have hTp : FnOk l.prog w K mg base CX0 3 f11 _ ["_law_deck_here", "_law_words", "_law_unknowns"] spTip := ok_tip (k := 0) F11 hD b8 g8 F8.kp hNu b10 g10 F10.kp m5
  have hR : ∀ n, FnOk l.prog w K mg base CX0 (0 + 4 + n) f12 _ psTerm (spTerm n) := ok_term (k := 0) F12 hD b8 g8 F8.kp hTp b11 g11 F11.kp m2 b12 g12
  have hA : FnOk l.prog w K mg base CX0 34 f13 _ ["_law_deck_here", "_law_words", "_law_unknowns"] spAny := ok_any (k := 0) F13 hD b8 g8 F8.kp hTp b11 g11 F11.kp hR b12 g12 F12.kp m10
  have hLw : FnOk l.prog w K mg base CX0 1 f14 _ ["_law_thing"] spWord := ok_lword (k := 0) F14 m1 m4 m5
  have hLh : FnOk l.prog w K mg base CX0 1 f15 _ ["_law_thing"] spWhole := ok_lwhole (k := 0) F15 m1 m2 m3
  have hLt : FnOk l.prog w K mg base CX0 64 f16 _ ["_law_thing"] (spLTerm 62) := ok_lterm (k := 0) F16 hLh b15 g15 F15.kp hLw b14 g14 F14.kp m1 m7 m5 m4 b16 g16 62
  have hO : FnOk l.prog w K mg base CX0 2 f17 _ psBent spOdd := ok_odd (k := 0) F17 hD b8 g8 F8.kp m5
  have hB : ∀ n, FnOk l.prog w K mg base CX0 (0 + 3 + n) f18 _ psBent (spBent n) := ok_bent (k := 0) F18 hD b8 g8 F8.kp hO b17 g17 F17.kp m1 m7 m5 m4 m2 m8 b18 g18
  have hRt : GOk l.prog w K mg base 71 f19 _ ["_law_thing"] spRight := ok_right F19 (hT.mono (by decide)) b6 g6 F6.kp (hLt.mono (by decide)) b16 g16 F16.kp (hWd.mono (by decide)) b2 g2 F2.kp (hLw.mono (by decide)) b14 g14 F14.kp m11
  exact ok_law F20 (hDk.mono (by decide)) b7 g7 F7.kp (hN.mono (by decide)) b9 g9 F9.kp (hD.mono (by decide)) b8 g8 F8.kp (hA.mono (by decide)) b13 g13 F13.kp hRt b19 g19 F19.kp (hT.mono (by decide)) b6 g6 F6.kp (hWd.mono (by decide)) b2 g2 F2.kp ((hB 30).mono (by decide)) ((hB 32).mono (by decide)) b18 g18 F18.kp m10
end Ksec
open PySem PySem.W PyProof.Rows
set_option Elab.async false
set_option maxRecDepth 100000 in
set_option maxHeartbeats 0 in
theorem PySem.Challenge.cw_fairsearch_k01_what_is_a_term_holds : PySem.Challenge.rw_fairsearch_k01_what_is_a_term.Holds := by
  w_on; o_law; k_head; (case hw => w_witness2)
  k_fill
  refine Ksec.gwalk (l := PySem.Challenge.rw_fairsearch_k01_what_is_a_term) (n := 63) (k := 72) (x := "_law_script") (sp := Ksec.spLaw) rfl (by decide) rfl ⟨rfl, by decide, by decide⟩ (fun w h Y => PySem.W.kIn_of Y) ?F (fun _ _ a ns _ hS => ⟨a, ns, rfl, hS, fun _ => rfl⟩)
  case F =>
    intro w mg fa h KX G hmg
    refine' Ksec.all_mk KX G hmg ?a1 ?l1 ?c1 ?k1 ?a2 ?l2 ?c2 ?k2 ?a3 ?l3 ?c3 ?k3 ?a4 ?l4 ?c4 ?k4 ?a5 ?l5 ?c5 ?k5 ?a6 ?l6 ?c6 ?k6 ?a7 ?l7 ?c7 ?k7 ?a8 ?l8 ?c8 ?k8 ?a9 ?l9 ?c9 ?k9 ?a10 ?l10 ?c10 ?k10 ?a11 ?l11 ?c11 ?k11 ?a12 ?l12 ?c12 ?k12 ?a13 ?l13 ?c13 ?k13 ?a14 ?l14 ?c14 ?k14 ?a15 ?l15 ?c15 ?k15 ?a16 ?l16 ?c16 ?k16 ?a17 ?l17 ?c17 ?k17 ?a18 ?l18 ?c18 ?k18 ?a19 ?l19 ?c19 ?k19 ?a20 ?l20 ?c20 ?k20 ?z1 ?z2 ?z3 ?z4 ?z5 ?z6 ?z7 ?z8 ?z9 ?z10 ?z11 ?y1
    (case a1 => k_is)
    (case l1 => k_is)
    (case c1 => k_is)
    (case k1 => k_is)
    (case a2 => k_is)
    (case l2 => k_is)
    (case c2 => k_is)
    (case k2 => k_is)
    (case a3 => k_is)
    (case l3 => k_is)
    (case c3 => k_is)
    (case k3 => k_is)
    (case a4 => k_is)
    (case l4 => k_is)
    (case c4 => k_is)
    (case k4 => k_is)
    (case a5 => k_is)
    (case l5 => k_is)
    (case c5 => k_is)
    (case k5 => k_is)
    (case a6 => k_is)
    (case l6 => k_is)
    (case c6 => k_is)
    (case k6 => k_is)
    (case a7 => k_is)
    (case l7 => k_is)
    (case c7 => k_is)
    (case k7 => k_is)
    (case a8 => k_is)
    (case l8 => k_is)
    (case c8 => k_is)
    (case k8 => k_is)
    (case a9 => k_is)
    (case l9 => k_is)
    (case c9 => k_is)
    (case k9 => k_is)
    (case a10 => k_is)
    (case l10 => k_is)
    (case c10 => k_is)
    (case k10 => k_is)
    (case a11 => k_is)
    (case l11 => k_is)
    (case c11 => k_is)
    (case k11 => k_is)
    (case a12 => k_is)
    (case l12 => k_is)
    (case c12 => k_is)
    (case k12 => k_is)
    (case a13 => k_is)
    (case l13 => k_is)
    (case c13 => k_is)
    (case k13 => k_is)
    (case a14 => k_is)
    (case l14 => k_is)
    (case c14 => k_is)
    (case k14 => k_is)
    (case a15 => k_is)
    (case l15 => k_is)
    (case c15 => k_is)
    (case k15 => k_is)
    (case a16 => k_is)
    (case l16 => k_is)
    (case c16 => k_is)
    (case k16 => k_is)
    (case a17 => k_is)
    (case l17 => k_is)
    (case c17 => k_is)
    (case k17 => k_is)
    (case a18 => k_is)
    (case l18 => k_is)
    (case c18 => k_is)
    (case k18 => k_is)
    (case a19 => k_is)
    (case l19 => k_is)
    (case c19 => k_is)
    (case k19 => k_is)
    (case a20 => k_is)
    (case l20 => k_is)
    (case c20 => k_is)
    (case k20 => k_is)
    (case z1 => k_is)
    (case z2 => k_is)
    (case z3 => k_is)
    (case z4 => k_is)
    (case z5 => k_is)
    (case z6 => k_is)
    (case z7 => k_is)
    (case z8 => k_is)
    (case z9 => k_is)
    (case z10 => k_is)
    (case z11 => k_is)
    (case y1 => k_is)
