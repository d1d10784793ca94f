import PyProof.Rows.All
import Wide.All
import OpenK.AllK
import Wide.FinOn
import HandS.ForMost
import HandS.IsInst
import HandS.Wide
import HandS.Flow
import HandS.More
import HandS.Rev
import HandS.Conv
import PyProof.ReprRoads
import HandS.Style
import HandS.TupAny
import HandS.DictComp
import HandS.Steps
import KE.KDictList
import PyProof.RowDictHeap
import PyProof.NeKinds
import HandS.TupMul
import HandS.TupLe
import HandS.Deep
import HandS.Text
import PyProof.Rows.IntBool
import PySem.Challenge.RW_fairsearch_k02_unknowns_and_ground_ones
set_option Elab.async false
set_option linter.all false
set_option maxRecDepth 100000
set_option maxHeartbeats 4000000
namespace Kq
open PySem PySem.Spec PyProof.Rows L2
/-! plain data over the hand layer: what an expression is worth, without a heap -/
def keyD : Key → PyData
  | .inl i => .int i
  | .inr x => .str x
/-- M: places that data keeps clear of; tok: the deck's own place; J: what is held of the deck -/
structure Cz where
  M : Addr → Prop
  lax : Prop
  tok : Option Addr
  J : Hp → Prop
  st : ∀ H H', (∀ b o, M b → H b = some o → H' b = some o) → J H → J H'
  mt : ∀ H b, M b → J H → H b ≠ none
theorem Cz.same (C : Cz) (H H' : Hp) (s : Same H H') (j : C.J H) : C.J H' := C.st H H' (fun b o _ e => s b o e) j
def tokD : PyData := .dict [(.none, .none)]
mutual
inductive Dq (C : Cz) (H : Hp) : V → PyData → Prop
  | non : Dq C H .non .none
  | bl (b : Bool) : Dq C H (.bl b) (.bool b)
  | int (i : Int) : Dq C H (.int i) (.int i)
  | str (x : Str) : Dq C H (.str x) (.str x)
  | lst {a : Addr} {xs : List V} {ds : List PyData} : ¬ C.M a → (a = sysModules → C.lax) → H a = some (.lst xs) → DqAll C H xs ds → Dq C H (.ref a) (.list ds)
  | tup {a : Addr} {xs : List V} {ds : List PyData} : H a = some (.tup xs) → DqAll C H xs ds → Dq C H (.ref a) (.tuple ds)
  | dct {a : Addr} {kvs : List (Key × V)} {ps : List (PyData × PyData)} : ¬ C.M a → H a = some (.dK kvs) → DqKv C H kvs ps → Dq C H (.ref a) (.dict ps)
  | tok {a : Addr} : C.tok = some a → Dq C H (.ref a) tokD
inductive DqAll (C : Cz) (H : Hp) : List V → List PyData → Prop
  | nil : DqAll C H [] []
  | cons {v : V} {vs : List V} {e : PyData} {ds : List PyData} : Dq C H v e → DqAll C H vs ds → DqAll C H (v :: vs) (e :: ds)
inductive DqKv (C : Cz) (H : Hp) : List (Key × V) → List (PyData × PyData) → Prop
  | nil : DqKv C H [] []
  | cons {k : Key} {v : V} {kvs : List (Key × V)} {e : PyData} {ps : List (PyData × PyData)} : Dq C H v e → DqKv C H kvs ps → DqKv C H ((k, v) :: kvs) ((keyD k, e) :: ps)
end
/-- tuples stay, and all that is not the deck's -/
def Kx (C : Cz) (H H' : Hp) : Prop := (∀ b xs, H b = some (.tup xs) → H' b = some (.tup xs)) ∧ ∀ b o, ¬ C.M b → H b = some o → H' b = some o
theorem Kx.refl {C : Cz} {H : Hp} : Kx C H H := ⟨fun _ _ h => h, fun _ _ _ h => h⟩
theorem Kx.trans {C : Cz} {H H1 H2 : Hp} (a : Kx C H H1) (b : Kx C H1 H2) : Kx C H H2 := ⟨fun c xs h => b.1 c xs (a.1 c xs h), fun c o m h => b.2 c o m (a.2 c o m h)⟩
theorem kxSame {C : Cz} {H H' : Hp} (s : Same H H') : Kx C H H' := ⟨fun b _ e => s b _ e, fun b _ _ e => s b _ e⟩
theorem same_upd {H : Hp} {p : Addr} {o : HO} (h : H p = none) : Same H (upd H p o) := fun b x e => by
  rw [upd_ne (ne_of_none e h)]
  exact e
mutual
theorem Dq.keep {C : Cz} {H H' : Hp} (k : Kx C H H') : ∀ {v : V} {t : PyData}, Dq C H v t → Dq C H' v t
  | _, _, .non => .non
  | _, _, .bl b => .bl b
  | _, _, .int i => .int i
  | _, _, .str x => .str x
  | _, _, .lst n1 n2 h r => .lst n1 n2 (k.2 _ _ n1 h) (DqAll.keep k r)
  | _, _, .tup h r => .tup (k.1 _ _ h) (DqAll.keep k r)
  | _, _, .dct n1 h r => .dct n1 (k.2 _ _ n1 h) (DqKv.keep k r)
  | _, _, .tok h => .tok h
theorem DqAll.keep {C : Cz} {H H' : Hp} (k : Kx C H H') : ∀ {vs : List V} {ds : List PyData}, DqAll C H vs ds → DqAll C H' vs ds
  | _, _, .nil => .nil
  | _, _, .cons h r => .cons (Dq.keep k h) (DqAll.keep k r)
theorem DqKv.keep {C : Cz} {H H' : Hp} (k : Kx C H H') : ∀ {vs : List (Key × V)} {ds : List (PyData × PyData)}, DqKv C H vs ds → DqKv C H' vs ds
  | _, _, .nil => .nil
  | _, _, .cons h r => .cons (Dq.keep k h) (DqKv.keep k r)
end
theorem DqAll.length {C : Cz} {H : Hp} : ∀ {vs : List V} {ts : List PyData}, DqAll C H vs ts → vs.length = ts.length
  | _, _, .nil => rfl
  | _, _, .cons _ r => congrArg (· + 1) (DqAll.length r)
theorem DqAll.get {C : Cz} {H : Hp} : ∀ {vs : List V} {ts : List PyData} {i : Nat} {t : PyData}, DqAll C H vs ts → ts[i]? = some t → ∃ v, vs[i]? = some v ∧ Dq C H v t
  | _, _, _, _, .nil, e => by simp at e
  | _, _, 0, _, .cons h _, e => by simp at e; subst e; exact ⟨_, rfl, h⟩
  | _, _, i + 1, _, .cons _ r, e => DqAll.get (i := i) r (by simpa using e)
theorem DqAll.app {C : Cz} {H : Hp} : ∀ {xs ys : List V} {ts us : List PyData}, DqAll C H xs ts → DqAll C H ys us → DqAll C H (xs ++ ys) (ts ++ us)
  | _, _, _, _, .nil, h => h
  | _, _, _, _, .cons h t, r => .cons h (DqAll.app t r)
theorem DqAll.take {C : Cz} {H : Hp} : ∀ {xs : List V} {ts : List PyData} (n : Nat), DqAll C H xs ts → DqAll C H (xs.take n) (ts.take n)
  | _, _, 0, _ => .nil
  | _, _, _ + 1, .nil => .nil
  | _, _, n + 1, .cons h r => .cons h (DqAll.take n r)
theorem DqAll.drop {C : Cz} {H : Hp} : ∀ {xs : List V} {ts : List PyData} (n : Nat), DqAll C H xs ts → DqAll C H (xs.drop n) (ts.drop n)
  | _, _, 0, h => h
  | _, _, _ + 1, .nil => .nil
  | _, _, n + 1, .cons h r => DqAll.drop n r
theorem DqAll.rev {C : Cz} {H : Hp} {xs : List V} {ts : List PyData} (h : DqAll C H xs ts) : DqAll C H xs.reverse ts.reverse := by
  induction xs generalizing ts with
  | nil => cases h; exact .nil
  | cons x xs ih =>
    cases h with
    | cons h r =>
      rw [List.reverse_cons, List.reverse_cons]
      exact (ih r).app (.cons h .nil)
/-! no lists, no dicts -/
mutual
def noL : PyData → Bool
  | .list _ => false
  | .dict _ => false
  | .tuple xs => noLs xs
  | _ => true
def noLs : List PyData → Bool
  | [] => true
  | x :: xs => noL x && noLs xs
end
mutual
theorem Dq.noL {C C' : Cz} {H : Hp} : ∀ {v : V} {t : PyData}, noL t = true → Dq C H v t → Dq C' H v t
  | _, _, _, .non => .non
  | _, _, _, .bl b => .bl b
  | _, _, _, .int i => .int i
  | _, _, _, .str x => .str x
  | _, _, e, .tup h r => .tup h (DqAll.noL (by simpa [Kq.noL] using e) r)
  | _, _, e, .lst _ _ _ _ => by simp [Kq.noL] at e
  | _, _, e, .dct _ _ _ => by simp [Kq.noL] at e
  | _, _, e, .tok _ => by simp [Kq.noL, tokD] at e
theorem DqAll.noL {C C' : Cz} {H : Hp} : ∀ {vs : List V} {ts : List PyData}, noLs ts = true → DqAll C H vs ts → DqAll C' H vs ts
  | _, _, _, .nil => .nil
  | _, _, e, .cons h r => by
    have e' : (Kq.noL _ && noLs _) = true := e
    rw [Bool.and_eq_true] at e'
    exact .cons (Dq.noL e'.1 h) (DqAll.noL e'.2 r)
end
/-! the readings -/
abbrev Rho := List (Option PyData)
abbrev P0 := Rho → (PyData → Prop) → Prop
abbrev P0A := Rho → (List PyData → Prop) → Prop
abbrev P0T := Rho → (Bool → Prop) → Prop
structure EnvOk (C : Cz) (H : Hp) (σ : L2.St) (ρ : Rho) : Prop where
  len : ρ.length = σ.length
  at_ : ∀ (i : Nat) (d : PyData), ρ[i]? = some (some d) → ∃ v, σ[i]? = some (some v) ∧ Dq C H v d
theorem EnvOk.keep {C : Cz} {H H' : Hp} {σ : L2.St} {ρ : Rho} (h : EnvOk C H σ ρ) (k : Kx C H H') : EnvOk C H' σ ρ := ⟨h.len, fun i d e => by
  obtain ⟨v, e1, r⟩ := h.at_ i d e
  exact ⟨v, e1, r.keep k⟩⟩
theorem EnvOk.set {C : Cz} {H : Hp} {σ : L2.St} {ρ : Rho} (h : EnvOk C H σ ρ) (i : Nat) {v : V} {d : PyData} (r : Dq C H v d) : EnvOk C H (σ.set i (some v)) (ρ.set i (some d)) := ⟨by simp [h.len], fun j e q => by
  by_cases hij : i = j
  · subst hij
    by_cases hl : i < ρ.length
    · rw [List.getElem?_set_self hl] at q
      cases q
      exact ⟨v, List.getElem?_set_self (by rw [← h.len]; exact hl), r⟩
    · rw [List.getElem?_eq_none (by simp; omega)] at q
      cases q
  · rw [List.getElem?_set_ne hij] at q
    obtain ⟨u, e1, r1⟩ := h.at_ j e q
    exact ⟨u, by rw [List.getElem?_set_ne hij]; exact e1, r1⟩⟩
def Kn (C : Cz) (H : Hp) (Q : VK) : PyData → Prop := fun d => ∀ v H', Kx C H H' → C.J H' → Dq C H' v d → Q v H'
def KnA (C : Cz) (H : Hp) (Q : List V → Hp → Prop) : List PyData → Prop := fun ds => ∀ vs H', Kx C H H' → C.J H' → DqAll C H' vs ds → Q vs H'
def KnT (C : Cz) (H : Hp) (Q : Bool → Hp → Prop) : Bool → Prop := fun b => ∀ H', Kx C H H' → C.J H' → Q b H'
theorem Kn.up {C : Cz} {H H1 : Hp} {Q : VK} {d : PyData} (h : Kn C H Q d) (k : Kx C H H1) : Kn C H1 Q d := fun v H' k' => h v H' (k.trans k')
def lf (C : Cz) (t : P0) : TE := fun σ H Q => ∃ ρ, EnvOk C H σ ρ ∧ C.J H ∧ t ρ (Kn C H Q)
def lfA (C : Cz) (t : P0A) : TA := fun σ H Q => ∃ ρ, EnvOk C H σ ρ ∧ C.J H ∧ t ρ (KnA C H Q)
def lfT (C : Cz) (t : P0T) : TT := fun σ H Q => ∃ ρ, EnvOk C H σ ρ ∧ C.J H ∧ t ρ (KnT C H Q)
structure QE (X : Cx) (C : Cz) (e : Expr) (t : P0) : Prop where
  pe : PE X e (lf C t)
  mono : ∀ ρ Q Q', (∀ d, Q d → Q' d) → t ρ Q → t ρ Q'
structure QA (X : Cx) (C : Cz) (es : List Expr) (t : P0A) : Prop where
  pa : PA X es (lfA C t)
  mono : ∀ ρ Q Q', (∀ d, Q d → Q' d) → t ρ Q → t ρ Q'
structure QT (X : Cx) (C : Cz) (e : Expr) (t : P0T) : Prop where
  pt : PT X e (lfT C t)
  mono : ∀ ρ Q Q', (∀ d, Q d → Q' d) → t ρ Q → t ρ Q'
/-- as QT, whatever the whole is (and, or) -/
structure QW (X : Cx) (C : Cz) (e : Expr) (t : P0T) : Prop where
  pw : PW X e (lfT C t)
  mono : ∀ ρ Q Q', (∀ d, Q d → Q' d) → t ρ Q → t ρ Q'
theorem PE.weak {X : Cx} {e : Expr} {t t' : TE} (h : PE X e t) (w : ∀ σ H Q, t' σ H Q → t σ H Q) : PE X e t' := ⟨fun pins s σ H Q I q => h.run pins s σ H Q I (w σ H Q q)⟩
theorem PA.weak {X : Cx} {e : List Expr} {t t' : TA} (h : PA X e t) (w : ∀ σ H Q, t' σ H Q → t σ H Q) : PA X e t' := ⟨fun pos pins s σ H Q I q => h.run pos pins s σ H Q I (w σ H Q q)⟩
theorem PT.weak {X : Cx} {e : Expr} {t t' : TT} (h : PT X e t) (w : ∀ σ H Q, t' σ H Q → t σ H Q) : PT X e t' := ⟨fun pins s σ H Q I q => h.run pins s σ H Q I (w σ H Q q)⟩
theorem PW.weak {X : Cx} {e : Expr} {t t' : TT} (h : PW X e t) (w : ∀ σ H Q, t' σ H Q → t σ H Q) : PW X e t' := ⟨fun whole pins s σ H Q I q => h.run whole pins s σ H Q I (w σ H Q q)⟩
section
variable {X : Cx} {C : Cz} {a b c : Expr} {ta tb tc : P0} {pos : Pos}
/-! names and constants -/
@[simp] def vVar (i : Nat) : P0 := fun ρ Q => ∃ d, ρ[i]? = some (some d) ∧ Q d
theorem qv (i : Nat) {x : Str} (hN : X.N[i]? = some x := by rfl) (hv : Vis X.env.scope x := by first | exact Or.inl rfl | exact Or.inr (Or.inl rfl) | exact Or.inr (Or.inr rfl)) (hd : (x == ("__debug__" : Str)) = false := by decide)
    (hcd : (x == ("__classdict__" : Str)) = false := by decide) : QE X C (.Name x pos) (vVar i) := by
  refine ⟨PE.weak (pe_var hN hv hd hcd) fun σ H Q h => ?_, fun ρ Q Q' w ⟨d, e, q⟩ => ⟨d, e, w d q⟩⟩
  obtain ⟨ρ, he, j, d, e, q⟩ := h
  obtain ⟨v, ev, r⟩ := he.at_ i d e
  exact ⟨v, ev, q v H Kx.refl j r⟩
@[simp] def vC (d : PyData) : P0 := fun _ Q => Q d
theorem qe_c {e : Expr} {v : V} {d : PyData} (h : PE X e (tC v)) (r : ∀ H, Dq C H v d) : QE X C e (vC d) :=
  ⟨PE.weak h fun σ H Q ⟨ρ, he, j, q⟩ => q v H Kx.refl j (r H), fun _ _ _ w q => w _ q⟩
theorem qe_int {i k} : QE X C (.Constant (.int i) k pos) (vC (.int i)) := qe_c pe_int fun _ => .int i
theorem qe_bl {i k} : QE X C (.Constant (.bool i) k pos) (vC (.bool i)) := qe_c pe_bl fun _ => .bl i
theorem qe_non {k} : QE X C (.Constant .none k pos) (vC .none) := qe_c pe_non fun _ => .non
theorem qe_str {i k} : QE X C (.Constant (.str i) k pos) (vC (.str i)) := qe_c pe_str fun _ => .str i
theorem qe_glob {x : Str} {i : Int} {tk : Tok} (hg : Gl X x) (hm : X.mg x = some (.int i tk)) (hd : (x == ("__debug__" : Str)) = false := by decide) : QE X C (.Name x pos) (vC (.int i)) :=
  qe_c (pe_glob (v := .int i) hg hm ⟨tk, rfl⟩ hd) fun _ => .int i
/-! arguments -/
@[simp] def vNil : P0A := fun _ Q => Q []
@[simp] def vCons (t : P0) (r : P0A) : P0A := fun ρ Q => t ρ fun d => r ρ fun ds => Q (d :: ds)
theorem qa_nil : QA X C [] vNil := ⟨PA.weak pa_nil fun σ H Q ⟨ρ, he, j, q⟩ => q [] H Kx.refl j .nil, fun _ _ _ w q => w _ q⟩
theorem qa_cons {e : Expr} {es : List Expr} {t : P0} {r : P0A} (ha : QE X C e t) (hr : QA X C es r) (hs : starEach (e :: es) X.env = (false, eval e X.env) :: starEach es X.env := by rfl) : QA X C (e :: es) (vCons t r) := by
  refine ⟨PA.weak (pa_cons ha.pe hr.pa hs) fun σ H Q h => ?_, fun ρ Q Q' w h => ha.mono _ _ _ (fun d h => hr.mono _ _ _ (fun ds => w _) h) h⟩
  obtain ⟨ρ, he, j, h⟩ := h
  refine ⟨ρ, he, j, ha.mono _ _ _ (fun d h1 v H1 k1 j1 r1 => ?_) h⟩
  refine ⟨ρ, he.keep k1, j1, hr.mono _ _ _ (fun ds h2 vs H2 k2 j2 r2 => ?_) h1⟩
  exact h2 (v :: vs) H2 (k1.trans k2) j2 (.cons (r1.keep k2) r2)
/-! operations -/
abbrev R0 := PyData → PyData → (PyData → Prop) → Prop
def lO (C : Cz) (r : R0) : R2 := fun x y H Q => ∃ d1 d2, Dq C H x d1 ∧ Dq C H y d2 ∧ C.J H ∧ r d1 d2 (Kn C H Q)
structure OQ (X : Cx) (C : Cz) (f : Value → Value → Sem Value) (r : R0) : Prop where
  op : OpR X f (lO C r)
  mono : ∀ x y Q Q', (∀ d, Q d → Q' d) → r x y Q → r x y Q'
@[simp] def vOp (r : R0) (ta tb : P0) : P0 := fun ρ Q => ta ρ fun d1 => tb ρ fun d2 => r d1 d2 Q
theorem vOp_mono {f : Value → Value → Sem Value} {r : R0} (ho : OQ X C f r) (ha : QE X C a ta) (hb : QE X C b tb) (ρ : Rho) (Q Q' : PyData → Prop) (w : ∀ d, Q d → Q' d) (h : vOp r ta tb ρ Q) : vOp r ta tb ρ Q' :=
  ha.mono _ _ _ (fun d1 h => hb.mono _ _ _ (fun d2 h => ho.mono _ _ _ _ w h) h) h
theorem vOp_te {f : Value → Value → Sem Value} {r : R0} (ho : OQ X C f r) (ha : QE X C a ta) (hb : QE X C b tb) (σ : L2.St) (H : Hp) (Q : VK) (h : lf C (vOp r ta tb) σ H Q) : tOp (lO C r) (lf C ta) (lf C tb) σ H Q := by
  obtain ⟨ρ, he, j, h⟩ := h
  refine ⟨ρ, he, j, ha.mono _ _ _ (fun d1 h1 v H1 k1 j1 r1 => ?_) h⟩
  refine ⟨ρ, he.keep k1, j1, hb.mono _ _ _ (fun d2 h2 w H2 k2 j2 r2 => ?_) h1⟩
  exact ⟨d1, d2, r1.keep k2, r2, j2, ho.mono _ _ _ _ (fun d q => q.up (k1.trans k2)) h2⟩
theorem qe_op {op : Operator} {r : R0} (ho : OQ X C (binaryOp op) r) (ha : QE X C a ta) (hb : QE X C b tb) : QE X C (.BinOp a op b pos) (vOp r ta tb) :=
  ⟨PE.weak (pe_op ho.op ha.pe hb.pe) (vOp_te ho ha hb), vOp_mono ho ha hb⟩
theorem qe_cmp {op : CmpOp} {r : R0} (ho : OQ X C (compareOp op) r) (ha : QE X C a ta) (hb : QE X C b tb) (hm : behindInMarks op b = false) : QE X C (.Compare a [op] [b] pos) (vOp r ta tb) :=
  ⟨PE.weak (pe_cmpR ho.op ha.pe hb.pe hm) (vOp_te ho ha hb), vOp_mono ho ha hb⟩
/-- a value that is a truth -/
@[simp] def vT (t : P0) : P0T := fun ρ Q => t ρ fun d => ∃ k, d = .bool k ∧ Q k
theorem dq_bl {H : Hp} {v : V} {k : Bool} (h : Dq C H v (.bool k)) : v = .bl k := by cases h; rfl
theorem qt_cmp {op : CmpOp} {r : R0} (ho : OQ X C (compareOp op) r) (ha : QE X C a ta) (hb : QE X C b tb) (hm : behindInMarks op b = false) : QT X C (.Compare a [op] [b] pos) (vT (vOp r ta tb)) := by
  refine ⟨PT.weak (pt_cmpR ho.op ha.pe hb.pe hm) fun σ H Q h => vOp_te ho ha hb σ H _ ?_, fun ρ Q Q' w h => vOp_mono ho ha hb ρ _ _ (fun d ⟨k, e, q⟩ => ⟨k, e, w k q⟩) h⟩
  obtain ⟨ρ, he, j, h⟩ := h
  refine ⟨ρ, he, j, vOp_mono ho ha hb ρ _ _ (fun d ⟨k, e, q⟩ v H1 k1 j1 r1 => ?_) h⟩
  subst e
  exact ⟨k, dq_bl r1, q H1 k1 j1⟩
theorem qt_val (ha : QE X C a ta) (he : ∀ whole, isTrue a X.env whole = (do let v ← whole; standAt a.pos; holding [v] (truthy v)) := by intro _; rfl) : QT X C a (vT ta) := by
  refine ⟨PT.weak (pt_val ha.pe he) fun σ H Q h => ?_, fun ρ Q Q' w h => ha.mono ρ _ _ (fun d ⟨k, e, q⟩ => ⟨k, e, w k q⟩) h⟩
  obtain ⟨ρ, he, j, h⟩ := h
  refine ⟨ρ, he, j, ha.mono ρ _ _ (fun d ⟨k, e, q⟩ v H1 k1 j1 r1 => ?_) h⟩
  subst e
  exact ⟨k, dq_bl r1, q H1 k1 j1⟩
/-! and, or, not: values -/
@[simp] def vAnd (ta tb : P0) : P0 := fun ρ Q => ta ρ fun d => ∃ k, d = .bool k ∧ if k = true then tb ρ Q else Q (.bool false)
@[simp] def vOr (ta tb : P0) : P0 := fun ρ Q => ta ρ fun d => ∃ k, d = .bool k ∧ if k = true then Q (.bool true) else tb ρ Q
@[simp] def vNot (ta : P0) : P0 := fun ρ Q => ta ρ fun d => ∃ k, d = .bool k ∧ Q (.bool (!k))
theorem qe_one {op} (h : QE X C a ta) : QE X C (.BoolOp op [a] pos) ta := ⟨pe_one h.pe, h.mono⟩
theorem qe_and {rest : List Expr} (ha : QE X C a ta) (hb : QE X C (.BoolOp .And (b :: rest) pos) tb) : QE X C (.BoolOp .And (a :: b :: rest) pos) (vAnd ta tb) := by
  refine ⟨PE.weak (pe_and ha.pe hb.pe) fun σ H Q h => ?_, fun ρ Q Q' w h => ha.mono _ _ _ (fun d ⟨k, e, q⟩ => ⟨k, e, ?_⟩) h⟩
  · obtain ⟨ρ, he, j, h⟩ := h
    refine ⟨ρ, he, j, ha.mono ρ _ _ (fun d ⟨k, e, q⟩ v H1 k1 j1 r1 => ?_) h⟩
    subst e
    refine ⟨k, dq_bl r1, ?_⟩
    cases k with
    | true => exact ⟨ρ, he.keep k1, j1, hb.mono _ _ _ (fun d q => q.up k1) q⟩
    | false => exact q _ H1 k1 j1 (.bl false)
  · cases k with
    | true => exact hb.mono _ _ _ w q
    | false => exact w _ q
theorem qe_or {rest : List Expr} (ha : QE X C a ta) (hb : QE X C (.BoolOp .Or (b :: rest) pos) tb) : QE X C (.BoolOp .Or (a :: b :: rest) pos) (vOr ta tb) := by
  refine ⟨PE.weak (pe_or ha.pe hb.pe) fun σ H Q h => ?_, fun ρ Q Q' w h => ha.mono _ _ _ (fun d ⟨k, e, q⟩ => ⟨k, e, ?_⟩) h⟩
  · obtain ⟨ρ, he, j, h⟩ := h
    refine ⟨ρ, he, j, ha.mono ρ _ _ (fun d ⟨k, e, q⟩ v H1 k1 j1 r1 => ?_) h⟩
    subst e
    refine ⟨k, dq_bl r1, ?_⟩
    cases k with
    | true => exact q _ H1 k1 j1 (.bl true)
    | false => exact ⟨ρ, he.keep k1, j1, hb.mono _ _ _ (fun d q => q.up k1) q⟩
  · cases k with
    | true => exact w _ q
    | false => exact hb.mono _ _ _ w q
theorem qe_not (ha : QE X C a ta) : QE X C (.UnaryOp .Not a pos) (vNot ta) := by
  refine ⟨PE.weak (pe_not ha.pe) fun σ H Q h => ?_, fun ρ Q Q' w h => ha.mono _ _ _ (fun d ⟨k, e, q⟩ => ⟨k, e, w _ q⟩) h⟩
  obtain ⟨ρ, he, j, h⟩ := h
  refine ⟨ρ, he, j, ha.mono ρ _ _ (fun d ⟨k, e, q⟩ v H1 k1 j1 r1 => ?_) h⟩
  subst e
  exact ⟨k, dq_bl r1, q _ H1 k1 j1 (.bl _)⟩
/-! tests -/
variable {tA tB : P0T}
theorem KnT.up {H H1 : Hp} {Q : Bool → Hp → Prop} {k : Bool} (h : KnT C H Q k) (kx : Kx C H H1) : KnT C H1 Q k := fun H' k' => h H' (kx.trans k')
@[simp] def wAnd (ta tb : P0T) : P0T := fun ρ Q => ta ρ fun k => if k = true then tb ρ Q else Q false
@[simp] def wOr (ta tb : P0T) : P0T := fun ρ Q => ta ρ fun k => if k = true then Q true else tb ρ Q
@[simp] def wNot (ta : P0T) : P0T := fun ρ Q => ta ρ fun k => Q (!k)
theorem QW.qt (h : QW X C a tA) : QT X C a tA := ⟨h.pw.pt, h.mono⟩
theorem qw_and1 (h : QT X C a tA) : QW X C (.BoolOp .And [a] pos) tA := ⟨pw_and1 h.pt, h.mono⟩
theorem qw_or1 (h : QT X C a tA) : QW X C (.BoolOp .Or [a] pos) tA := ⟨pw_or1 h.pt, h.mono⟩
theorem qw_and {rest : List Expr} (ha : QT X C a tA) (hb : QW X C (.BoolOp .And (b :: rest) pos) tB) : QW X C (.BoolOp .And (a :: b :: rest) pos) (wAnd tA tB) := by
  refine ⟨PW.weak (pw_and ha.pt hb.pw) fun σ H Q h => ?_, fun ρ Q Q' w h => ha.mono _ _ _ (fun k q => ?_) h⟩
  · obtain ⟨ρ, he, j, h⟩ := h
    refine ⟨ρ, he, j, ha.mono ρ _ _ (fun k q H1 k1 j1 => ?_) h⟩
    cases k with
    | true => exact ⟨ρ, he.keep k1, j1, hb.mono _ _ _ (fun d q => KnT.up q k1) q⟩
    | false => exact q H1 k1 j1
  · cases k with
    | true => exact hb.mono _ _ _ w q
    | false => exact w _ q
theorem qw_or {rest : List Expr} (ha : QT X C a tA) (hb : QW X C (.BoolOp .Or (b :: rest) pos) tB) : QW X C (.BoolOp .Or (a :: b :: rest) pos) (wOr tA tB) := by
  refine ⟨PW.weak (pw_or ha.pt hb.pw) fun σ H Q h => ?_, fun ρ Q Q' w h => ha.mono _ _ _ (fun k q => ?_) h⟩
  · obtain ⟨ρ, he, j, h⟩ := h
    refine ⟨ρ, he, j, ha.mono ρ _ _ (fun k q H1 k1 j1 => ?_) h⟩
    cases k with
    | true => exact q H1 k1 j1
    | false => exact ⟨ρ, he.keep k1, j1, hb.mono _ _ _ (fun d q => KnT.up q k1) q⟩
  · cases k with
    | true => exact w _ q
    | false => exact hb.mono _ _ _ w q
theorem qt_not (ha : QT X C a tA) : QT X C (.UnaryOp .Not a pos) (wNot tA) :=
  ⟨PT.weak (pt_not ha.pt) fun σ H Q ⟨ρ, he, j, h⟩ => ⟨ρ, he, j, ha.mono ρ _ _ (fun k q H1 k1 j1 => q H1 k1 j1) h⟩, fun ρ Q Q' w h => ha.mono _ _ _ (fun k q => w _ q) h⟩
@[simp] def vIf (tA : P0T) (ta tb : P0) : P0 := fun ρ Q => tA ρ fun k => if k = true then ta ρ Q else tb ρ Q
theorem qe_if (hc : QT X C c tA) (ha : QE X C a ta) (hb : QE X C b tb) : QE X C (.IfExp c a b pos) (vIf tA ta tb) := by
  refine ⟨PE.weak (pe_ifExp hc.pt ha.pe hb.pe) fun σ H Q h => ?_, fun ρ Q Q' w h => hc.mono _ _ _ (fun k q => ?_) h⟩
  · obtain ⟨ρ, he, j, h⟩ := h
    refine ⟨ρ, he, j, hc.mono ρ _ _ (fun k q H1 k1 j1 => ?_) h⟩
    cases k with
    | true => exact ⟨ρ, he.keep k1, j1, ha.mono _ _ _ (fun d q => q.up k1) q⟩
    | false => exact ⟨ρ, he.keep k1, j1, hb.mono _ _ _ (fun d q => q.up k1) q⟩
  · cases k with
    | true => exact ha.mono _ _ _ w q
    | false => exact hb.mono _ _ _ w q
/-! tuples, lists -/
theorem freshM (C : Cz) {H : Hp} {p : Addr} (j : C.J H) (hp : H p = none) : ¬ C.M p := fun m => C.mt H p m j hp
@[simp] def vTup (t : P0A) : P0 := fun ρ Q => t ρ fun ds => ds.length ≤ sizeLine ∧ Q (.tuple ds)
theorem qe_tup {es : List Expr} {t : P0A} {x1} (h : QA X C es t) : QE X C (.Tuple es x1 pos) (vTup t) := by
  refine ⟨PE.weak (pe_tup h.pa) fun σ H Q q => ?_, fun ρ Q Q' w q => h.mono _ _ _ (fun ds q => ⟨q.1, w _ q.2⟩) q⟩
  obtain ⟨ρ, he, j, q⟩ := q
  refine ⟨ρ, he, j, h.mono ρ _ _ (fun ds q vs H1 k1 j1 r1 => ⟨by rw [r1.length]; exact q.1, fun p np => ?_⟩) q⟩
  have s := same_upd (o := .tup vs) np
  exact q.2 _ _ (k1.trans (kxSame s)) (C.same _ _ s j1) (.tup upd_same (r1.keep (kxSame s)))
@[simp] def vLst (t : P0A) : P0 := fun ρ Q => t ρ fun ds => ds.length ≤ sizeLine ∧ Q (.list ds)
/-- a new list, at no place of the machine's own -/
theorem pe_lstS {es : List Expr} {t : TA} (h : PA X es t) : PE X (.List es pos) (fun σ H Q => t σ H fun xs H1 => xs.length ≤ sizeLine ∧ ∀ p, H1 p = none → p ≠ sysModules → Q (.ref p) (upd H1 p (.lst xs))) := by
  refine ⟨fun pins s σ H Q I hq => ?_⟩
  refine wpAny_List_spliced (thn (h.run pos pins s σ H _ I hq) fun us s1 ⟨xs, H1, I1, r, z, q⟩ => ⟨by rw [← r.length]; exact z, ?_⟩)
  refine ⟨.ref s1.heap.objs.size, upd H1 s1.heap.objs.size (.lst xs), I1.laid (t' := s1.toks) (fun b u e => Heap.get?_push_of_some _ e) (Nat.le_refl _) ?_, rfl, q _ (I1.hok.fresh (Nat.le_refl _)) (Nat.ne_of_gt I1.big)⟩
  exact ⟨z, us, 0, r, Heap.get?_push_size _ rfl⟩
theorem qe_lst {es : List Expr} {t : P0A} (h : QA X C es t) : QE X C (.List es pos) (vLst t) := by
  refine ⟨PE.weak (pe_lstS h.pa) fun σ H Q q => ?_, fun ρ Q Q' w q => h.mono _ _ _ (fun ds q => ⟨q.1, w _ q.2⟩) q⟩
  obtain ⟨ρ, he, j, q⟩ := q
  refine ⟨ρ, he, j, h.mono ρ _ _ (fun ds q vs H1 k1 j1 r1 => ⟨by rw [r1.length]; exact q.1, fun p np hs => ?_⟩) q⟩
  have s := same_upd (o := .lst vs) np
  exact q.2 _ _ (k1.trans (kxSame s)) (C.same _ _ s j1) (.lst (freshM C j1 np) (fun z => absurd z hs) upd_same (r1.keep (kxSame s)))
/-! calls -/
abbrev Fr := List PyData → (PyData → Prop) → Prop
def lC (C : Cz) (r : Fr) : List V → Hp → VK → Prop := fun xs H Q => ∃ ds, DqAll C H xs ds ∧ C.J H ∧ r ds (Kn C H Q)
structure CQ (X : Cx) (C : Cz) (f : Value) (r : Fr) : Prop where
  op : CallR X f (lC C r)
  mono : ∀ x Q Q', (∀ d, Q d → Q' d) → r x Q → r x Q'
@[simp] def vCall (r : Fr) (t : P0A) : P0 := fun ρ Q => t ρ fun ds => r ds Q
theorem vCall_te {r : Fr} {t : P0A} {es : List Expr} (hm : ∀ x Q Q', (∀ d, Q d → Q' d) → r x Q → r x Q') (ha : QA X C es t) (σ : L2.St) (H : Hp) (Q : VK) (h : lf C (vCall r t) σ H Q) : tCB (lC C r) (lfA C t) σ H Q := by
  obtain ⟨ρ, he, j, h⟩ := h
  exact ⟨ρ, he, j, ha.mono _ _ _ (fun ds h1 vs H1 k1 j1 r1 => ⟨ds, r1, j1, hm _ _ _ (fun d q => q.up k1) h1⟩) h⟩
theorem vCall_mono {r : Fr} {t : P0A} {es : List Expr} (hm : ∀ x Q Q', (∀ d, Q d → Q' d) → r x Q → r x Q') (ha : QA X C es t) (ρ : Rho) (Q Q' : PyData → Prop) (w : ∀ d, Q d → Q' d) (h : vCall r t ρ Q) : vCall r t ρ Q' :=
  ha.mono _ _ _ (fun ds h => hm _ _ _ w h) h
theorem qe_callB {id : String} {x : Str} {p : Pos} {e : Expr} {es : List Expr} {r : Fr} {t : P0A} (hc : CQ X C (.builtin id) r) (hg : Gl X x) (hm : X.mg x = none) (hv : bootBuiltins x = some (.builtin id)) (ha : QA X C (e :: es) t) (hn : x ≠ "__name__" := by decide) (hdb : (x == ("__debug__" : Str)) = false := by decide)
    (he : starEach (e :: es) X.env = (false, eval e X.env) :: starEach es X.env := by rfl) (hpl : (backTo pos (starEach es X.env)).any (·.1) = false := by rfl) : QE X C (.Call (.Name x p) (e :: es) [] pos) (vCall r t) :=
  ⟨PE.weak (pe_callB hc.op hg hm hv ha.pa hn hdb he hpl) (vCall_te hc.mono ha), vCall_mono hc.mono ha⟩
theorem qe_callTy {T : String} {x : Str} {p : Pos} {e : Expr} {es : List Expr} {r : Fr} {t : P0A} (hc : CQ X C (.type T) r) (hg : Gl X x) (hm : X.mg x = none) (hv : bootBuiltins x = some (.type T)) (ha : QA X C (e :: es) t) (hn : x ≠ "__name__" := by decide) (hdb : (x == ("__debug__" : Str)) = false := by decide)
    (he : starEach (e :: es) X.env = (false, eval e X.env) :: starEach es X.env := by rfl) (hpl : (backTo pos (starEach es X.env)).any (·.1) = false := by rfl) : QE X C (.Call (.Name x p) (e :: es) [] pos) (vCall r t) :=
  ⟨PE.weak (pe_callTy hc.op hg hm hv ha.pa hn hdb he hpl) (vCall_te hc.mono ha), vCall_mono hc.mono ha⟩
/-! own defs -/
@[simp] def fr (pre : List PyData → Prop) (res : List PyData → PyData → Prop) : Fr := fun ds Q => pre ds ∧ ∀ d, res ds d → Q d
def spQ (G : Cz → Prop) (pre : List PyData → Prop) (res : List PyData → PyData → Prop) : Sp := fun vs H Q _ => ∃ C ds, G C ∧ DqAll C H vs ds ∧ C.J H ∧ fr pre res ds (Kn C H Q)
theorem fr_mono {pre : List PyData → Prop} {res : List PyData → PyData → Prop} (x : List PyData) (Q Q' : PyData → Prop) (w : ∀ d, Q d → Q' d) (h : fr pre res x Q) : fr pre res x Q' := ⟨h.1, fun d r => w d (h.2 d r)⟩
theorem qe_call {G : Cz → Prop} {pre : List PyData → Prop} {res : List PyData → PyData → Prop} {k : Nat} {f : Addr} {fd : FuncData} {ps : List Str} {x : Str} {p : Pos} {e : Expr} {es : List Expr} {t : P0A}
    (F : FnOk X.prog X.w X.K X.mg X.base CX0 k f fd ps (spQ G pre res)) (hG : G C) (hr : Room k X.A) (hg : Gl X x) (hm : X.mg x = some (.ref f)) (hk : PySem.W.keepIn X.K (.ref f) = true) (hb : Binds X.K fd ps []) (ha : QA X C (e :: es) t) (hx : Passes CX0 X (fun _ _ _ => False) := by exact pass0)
    (hdb : (x == ("__debug__" : Str)) = false := by decide) (he : starEach (e :: es) X.env = (false, eval e X.env) :: starEach es X.env := by rfl) (hpl : (backTo pos (starEach es X.env)).any (·.1) = false := by rfl) :
    QE X C (.Call (.Name x p) (e :: es) [] pos) (vCall (fr pre res) t) := by
  refine ⟨PE.weak (pe_call F hr hg hm hk hb .nil hx ha.pa hdb he hpl) fun σ H Q h => ?_, vCall_mono fr_mono ha⟩
  obtain ⟨ρ, he, j, h⟩ := h
  refine ⟨ρ, he, j, ha.mono _ _ _ (fun ds h1 vs H1 k1 j1 r1 => ?_) h⟩
  show spQ G pre res (vs ++ []) H1 Q _
  rw [List.append_nil]
  exact ⟨C, ds, hG, r1, j1, fr_mono _ _ _ (fun d q => q.up k1) h1⟩
/-! an inner context -/
def Cz.laxed (C : Cz) : Cz := { C with lax := True }
mutual
theorem Dq.laxed {H : Hp} : ∀ {v : V} {t : PyData}, Dq C H v t → Dq C.laxed H v t
  | _, _, .non => .non
  | _, _, .bl b => .bl b
  | _, _, .int i => .int i
  | _, _, .str x => .str x
  | _, _, .lst n1 n2 h r => .lst n1 (fun _ => trivial) h (DqAll.laxed r)
  | _, _, .tup h r => .tup h (DqAll.laxed r)
  | _, _, .dct n1 h r => .dct n1 h (DqKv.laxed r)
  | _, _, .tok h => .tok h
theorem DqAll.laxed {H : Hp} : ∀ {vs : List V} {ds : List PyData}, DqAll C H vs ds → DqAll C.laxed H vs ds
  | _, _, .nil => .nil
  | _, _, .cons h r => .cons (Dq.laxed h) (DqAll.laxed r)
theorem DqKv.laxed {H : Hp} : ∀ {vs : List (Key × V)} {ds : List (PyData × PyData)}, DqKv C H vs ds → DqKv C.laxed H vs ds
  | _, _, .nil => .nil
  | _, _, .cons h r => .cons (Dq.laxed h) (DqKv.laxed r)
end
theorem EnvOk.laxed {H : Hp} {σ : L2.St} {ρ : Rho} (h : EnvOk C H σ ρ) : EnvOk C.laxed H σ ρ := ⟨h.len, fun i d e => by
  obtain ⟨v, e1, r⟩ := h.at_ i d e
  exact ⟨v, e1, r.laxed⟩⟩
@[simp] def vLax (t : P0) : P0 := fun ρ Q => t ρ fun d => noL d = true ∧ Q d
theorem qe_lax (h : QE X C.laxed a ta) : QE X C a (vLax ta) := by
  refine ⟨PE.weak h.pe fun σ H Q q => ?_, fun ρ Q Q' w q => h.mono _ _ _ (fun d q => ⟨q.1, w _ q.2⟩) q⟩
  obtain ⟨ρ, he, j, q⟩ := q
  exact ⟨ρ, he.laxed, j, h.mono _ _ _ (fun d q v H' k j' r => q.2 v H' k j' (r.noL q.1)) q⟩
def vLaxT (t : P0T) : P0T := t
theorem qt_lax (h : QT X C.laxed a tA) : QT X C a tA :=
  ⟨PT.weak h.pt fun σ H Q ⟨ρ, he, j, q⟩ => ⟨ρ, he.laxed, j, h.mono _ _ _ (fun d q H' k j' => q H' k j') q⟩, h.mono⟩
end
end Kq

set_option Elab.async false
set_option linter.all false
set_option maxRecDepth 100000
set_option maxHeartbeats 2000000
namespace Kq
open PySem PySem.Spec PyProof.Rows L2
section
variable {prog : Program} {w : World} {A : Around} {E : Value → Shared → Prop} {s : Shared}
theorem rt_nolen : typeLookup (.type "reversed") "__len__" = pure none := by
  rw [typeLookup_type, builtinLookup_eq_fast] ; kernel_rfl
theorem rt_hint : typeLookup (.type "reversed") "__length_hint__" = pure (some (.builtin "reversed.__length_hint__")) := by
  rw [typeLookup_type, builtinLookup_eq_fast] ; kernel_rfl
theorem walks_rt (hh : A.handled = none) (it t : Addr) (hne : t ≠ it) (items : Array Value) (hsz : items.size ≤ sizeLine) :
    Walks prog w A it [it, t] [it] items.size (fun i v => items[items.size - 1 - i]? = some v) (fun i h => i ≤ items.size ∧ RT.IsRt h it t ((items.size : Int) - 1 - (i : Nat)) ∧ IsTup h t items) where
  sub := fun b hb => by simp at hb; simp [hb]
  frame := fun i h h' st k => ⟨st.1, st.2.1.at fun o e => k it (by simp) o e, by
    obtain ⟨o, e, r⟩ := st.2.2
    exact ⟨o, k t (by simp) o e, r⟩⟩
  item := fun i s Q E hi st hQ => by
    obtain ⟨h1, h2, h3⟩ := st
    have e1 : (items.size : Int) - 1 - ((i : Nat) : Int) = ((items.size - 1 - i : Nat) : Int) := by omega
    rw [e1] at h2
    have hx : items[items.size - 1 - i]? = some items[items.size - 1 - i] := Array.getElem?_eq_getElem (by omega)
    refine RT.next_rt_item h2 h3 hx hsz fun h' st' sb => ?_
    have e2 : ((items.size - 1 - i : Nat) : Int) - 1 = (items.size : Int) - 1 - ((i + 1 : Nat) : Int) := by omega
    rw [e2] at st'
    refine hQ _ h' _ hx ⟨hi, st', ?_⟩ fun b o hb e => (sb.2 b (fun z => hb (by simp [z]))).trans e
    obtain ⟨o, e, r⟩ := h3
    exact ⟨o, (sb.2 t hne).trans e, r⟩
  done := fun s Q E st hQ => by
    obtain ⟨h1, h2, h3⟩ := st
    have e1 : (items.size : Int) - 1 - ((items.size : Nat) : Int) = -1 := by omega
    rw [e1] at h2
    exact RT.next_rt_end hh h2 fun h' eb => hQ h' s.toks fun b o hb e => eb b o (fun z => hb (by simp [z])) e
  self := fun i s Q E st hQ => RT.iter_rt st.2.1 hQ
theorem slot_rt_hint : Slot "reversed" "__length_hint__" "reversed.__length_hint__" := .of (owner := "reversed") (n := "__length_hint__") rt_hint (by decide +kernel) (by decide +kernel)
  (by decide +kernel) (by first | exact .inl (by decide +kernel) | exact .inr (by decide +kernel)) (by rw [isSubtype_type]; kernel_rfl)
theorem entry_rt_hint : entryFor table "reversed.__length_hint__" = some Builtin.«reversed.__length_hint__» :=
  entryFor_of_tree (by kernel_rfl)
theorem args_rt_hint (a : Value) : argsOk "reversed.__length_hint__" ⟨[a], []⟩ := by
  unfold argsOk; rw [signature?_of (id := "reversed.__length_hint__") (n := ['_', '_', 't', 'n', 'i', 'h', '_', 'h', 't', 'g', 'n', 'e', 'l', '_', '_']) (o := ['d', 'e', 's', 'r', 'e', 'v', 'e', 'r']) (by kernel_rfl) RT.owner_rt]; kernel_rfl
theorem call_rt_hint {it t : Addr} {items : Array Value} {Q : Value → Shared → Prop} (h : RT.IsRt s.heap it t ((items.size : Int) - 1)) (ht : IsTup s.heap t items) (hn : items.size ≤ sizeLine)
    (q : ∀ u tk, Q (.int items.size u) { s with toks := tk }) : wpAny (model prog w) A (call (.builtin "reversed.__length_hint__") [.ref it]) Q E s := by
  have hT := RT.IsRt.typeIs h
  have hz := line63
  obtain ⟨o, ho, hc, hd⟩ := id h
  refine wpAny_call_entry slot_rt_hint hT entry_rt_hint ?_ (args_rt_hint _)
  unfold Builtin.«reversed.__length_hint__»
  refine wpAny_bind (wpAny_of_eq (a := Value.ref it) rfl ?_)
  refine wpAny_bind (wpAny_field ho hd (x := .ref t) rfl ?_)
  rw [if_neg (by intro z; exact nomatch z)]
  refine wpAny_bind (len_tuple ht (by omega) ?_)
  refine wpAny_bind (wpAny_of_eq (a := some ((items.size : Nat) : Int)) rfl ?_)
  try dsimp only
  refine wpAny_bind (wpAny_field (s := { s with toks := s.toks + 1 + 1 }) ho hd (x := rawInt ((items.size : Int) - 1)) rfl ?_)
  show wpAny _ _ (if (items.size : Int) < (items.size : Int) - 1 + 1 then _ else retInt ((items.size : Int) - 1 + 1)) _ _ _
  rw [if_neg (by omega), show (items.size : Int) - 1 + 1 = items.size by omega]
  unfold retInt
  refine wpAny_bind (wpAny_mkInt ?_)
  exact wpAny_pure ⟨_, rfl, q _ _⟩
/-- the hint of a reversed tuple -/
theorem rt_hinted {it t : Addr} {items : Array Value} {Q : Bool → Shared → Prop} (h : RT.IsRt s.heap it t ((items.size : Int) - 1)) (ht : IsTup s.heap t items) (hn : items.size ≤ sizeLine)
    (q : ∀ b tk, Q b { s with toks := tk }) : wpAny (model prog w) A (Builtin.List.listLengthHint (.ref it)) Q E s := by
  have hT := RT.IsRt.typeIs h
  have hz := line63
  unfold Builtin.List.listLengthHint
  refine wpAny_bind (wpAny_specialOf hT rt_nolen ?_)
  show wpAny _ A (specialOf (Value.ref it) (Str.ofString "__length_hint__") >>= _) _ _ _
  refine wpAny_bind (wpAny_specialOf hT rt_hint ?_)
  generalize hid : ("reversed.__length_hint__" : String) = id1
  wp_delta
  rw [show splitId id1 = some ("reversed", "__length_hint__") from by subst hid; decide +kernel]
  subst hid
  refine wpAny_bind (wpAny_isInstance (b := true) hT (by rw [isSubtype_type]; kernel_rfl) ?_)
  rw [if_neg (by decide)]
  dsimp only
  rw [if_neg (by decide)]
  refine wpAny_bind (wpAny_rule ?_)
  rw [slot_rt_hint.bind]
  refine wpAny_bind (wpAny_pure ?_)
  dsimp only
  refine wpAny_bind (wpAny_attempt ?_)
  refine (call_rt_hint h ht hn fun u tk => ?_)
  have h1 : ¬ (!Builtin.List.listFitsIndex (items.size : Int)) = true := by
    simp only [Builtin.List.listFitsIndex, Bool.not_eq_true', Bool.not_eq_false']
    simp
    omega
  have h3 : ¬ Builtin.List.listTooLong (items.size : Int).toNat = true := by
    simp only [Builtin.List.listTooLong]
    simp
    omega
  dsimp only
  simp only [asInt?, pure_bind]
  rw [if_neg h1, if_neg (by omega), if_neg h3]
  exact wpAny_pure (q _ _)
/-- S.extend(it) over a reversed tuple -/
theorem rt_extend {it t S : Addr} {items : Array Value} {R : Result → Shared → Prop} (hh : A.handled = none) (hit : RT.IsRt s.heap it t ((items.size : Int) - 1)) (ht : IsTup s.heap t items) (hne : t ≠ it) (hn : items.size ≤ sizeLine)
    (hSi : S ≠ it) (hSt : S ≠ t) (res : Value) (c₀ : Nat) (hS : s.heap.get? S = some { cls := .type "list", data := .seq #[] c₀ })
    (hR : ∀ h' tk acc' c', (∀ b o, b ≠ S → b ≠ it → s.heap.get? b = some o → h'.get? b = some o) → h'.get? S = some { cls := .type "list", dict := none, data := .seq acc' c', slots := #[] } →
      ItemsOf (fun i v => items[items.size - 1 - i]? = some v) acc' items.size → R (.ok (.ret res)) { s with heap := h', toks := tk }) :
    wpAny (model prog w) A.in1 (Builtin.List.listExtendWith (.ref S) (.ref it) res)
      (fun fin s' => match fin with | .done f => R (.ok f) s' | .again c' => c'.quiet = true ∧ codeAny (model prog w) A c' R s') (fun e s' => R (.error e) s') s := by
  have W := (walks_rt (prog := prog) (w := w) (A := A.in1) hh it t hne items hn).toS
  have hSf : S ∉ [it, t] := by simp only [List.mem_cons, List.not_mem_nil, or_false, not_or]; exact ⟨hSi, hSt⟩
  have hT := RT.IsRt.typeIs hit
  have h1 : Builtin.List.listSameRef (.ref S) (.ref it) = false := by simp [Builtin.List.listSameRef, hSi]
  unfold Builtin.List.listExtendWith
  refine wpAny_bind (wpAny_typeOf hT ?_)
  rw [if_neg (by rw [h1]; decide)]
  refine wpAny_bind (RT.iter_rt hit ?_)
  refine wpAny_bind (wpAny_holding (rt_hinted hit ht hn fun b tk => ?_))
  have e0 : ((items.size : Nat) : Int) - 1 - ((0 : Nat) : Int) = (items.size : Int) - 1 := by omega
  have key : ∀ (h : Heap) (c₁ tk : Nat), (∀ b o, b ≠ S → s.heap.get? b = some o → h.get? b = some o) → h.get? S = some { cls := .type "list", data := .seq #[] c₁ } →
      codeAny (model prog w) A (.builtin "list.extend.loop" ⟨[.ref S, .ref it, res], []⟩) R { s with heap := h, toks := tk } := fun h c₁ tk hk hS₁ => by
    have hit2 : RT.IsRt h it t ((items.size : Int) - 1) := hit.at fun o e => hk it o hSi.symm e
    have ht2 : IsTup h t items := let ⟨o, e, r⟩ := ht; ⟨o, hk t o hSt.symm e, r⟩
    refine codeAny_extend_loopS W hn _ hSf _ items.size 0 _ _ _ rfl (Nat.zero_le _) ⟨Nat.zero_le _, by rw [e0]; exact hit2, ht2⟩ hS₁ (ItemsOf.nil _) fun s' acc' c' hm hS' hacc => ?_
    rw [Moved.eq_with hm]
    refine hR s'.heap s'.toks acc' c' (fun b o hb hb2 e => hm.heap b o (fun hmem => ?_) (hk b o hb e)) hS' hacc
    rcases List.mem_cons.mp hmem with e' | hmem
    · exact hb e'
    · exact hb2 (List.mem_singleton.mp hmem)
  refine wpAny_ite_split (fun _ => ?_) (fun _ => wpAny_pure ⟨plainId_quiet F.plain_extend_loop _, key s.heap c₀ _ (fun b o _ e => e) hS⟩)
  refine wpAny_bind (wpAny_rule ?_)
  refine wpAny_bind ?_
  show wpAny _ _ (updateSeq S (·.push .none) >>= fun _ => updateSeq S (·.pop)) _ _ _
  refine wpAny_bind (wpAny_updateSeq (s := { s with toks := tk }) hS rfl ?_)
  have hS2 := Heap.get?_update_self (Obj.mapSeq (·.push Value.none)) hS rfl
  refine wpAny_updateSeq (hz := by seq_fits) hS2 rfl ?_
  have hS3 := Heap.get?_update_self (Obj.mapSeq (·.pop)) hS2 rfl
  exact wpAny_pure ⟨plainId_quiet F.plain_extend_loop _, key _ _ _ (fun b o hb e => (Heap.get?_update_other _ _ (Ne.symm hb)).trans ((Heap.get?_update_other _ _ (Ne.symm hb)).trans e)) hS3⟩
/-- list(it) -/
theorem rt_init {it t S : Addr} {items : Array Value} {R : Result → Shared → Prop} (hh : A.handled = none) (hit : RT.IsRt s.heap it t ((items.size : Int) - 1)) (ht : IsTup s.heap t items) (hne : t ≠ it) (hn : items.size ≤ sizeLine)
    (hSi : S ≠ it) (hSt : S ≠ t) (hS : s.heap.get? S = some { cls := .type "list", data := .seq #[] })
    (hR : ∀ h' tk acc' c', (∀ b o, b ≠ S → b ≠ it → s.heap.get? b = some o → h'.get? b = some o) → h'.get? S = some { cls := .type "list", dict := none, data := .seq acc' c', slots := #[] } →
      ItemsOf (fun i v => items[items.size - 1 - i]? = some v) acc' items.size → R (.ok (.ret .none)) { s with heap := h', toks := tk }) :
    wpAny (model prog w) A.in1 (Builtin.«list.__init__» ⟨[.ref S, .ref it], []⟩)
      (fun fin s' => match fin with | .done f => R (.ok f) s' | .again c' => c'.quiet = true ∧ codeAny (model prog w) A c' R s') (fun e s' => R (.error e) s') s := by
  show wpAny _ _ (do let old ← Builtin.List.listItems (.ref S); Builtin.List.listUpdate (.ref S) (fun _ => #[]); letGo old.toList.reverse; Builtin.List.listExtendWith (.ref S) (.ref it) .none) _ _ s
  refine wpAny_bind ?_
  unfold Builtin.List.listItems
  refine wpAny_bind (wpAny_seqItems hS rfl (wpAny_pure ?_))
  show wpAny _ _ (updateSeq S (fun _ => #[]) >>= fun _ => letGo (#[] : Array Value).toList.reverse >>= fun _ => Builtin.List.listExtendWith (.ref S) (.ref it) .none) _ _ s
  refine wpAny_bind (wpAny_updateSeq hS rfl ?_)
  have hS2 := Heap.get?_update_self (Obj.mapSeq (fun _ => (#[] : Array Value))) hS rfl
  have oth : ∀ b o, b ≠ S → s.heap.get? b = some o → (s.heap.update S (Obj.mapSeq (fun _ => (#[] : Array Value)))).get? b = some o := fun b o hb e => (Heap.get?_update_other _ _ (Ne.symm hb)).trans e
  refine wpAny_bind (wpAny_letGo ?_)
  have ht2 : IsTup (s.heap.update S (Obj.mapSeq (fun _ => (#[] : Array Value)))) t items := let ⟨o, e, r⟩ := ht; ⟨o, oth t o hSt.symm e, r⟩
  refine rt_extend hh (hit.at fun o e => oth it o hSi.symm e) ht2 hne hn hSi hSt .none _ hS2 fun h' tk acc' c' hk hS' hacc => ?_
  exact hR h' tk acc' c' (fun b o hb hb2 e => hk b o hb hb2 (oth b o hb e)) hS' hacc
theorem call_list_rt {it t : Addr} {items : Array Value} {Q : Value → Shared → Prop} (hh : A.handled = none) (hit : RT.IsRt s.heap it t ((items.size : Int) - 1)) (ht : IsTup s.heap t items) (hne : t ≠ it) (hn : items.size ≤ sizeLine)
    (hQ : ∀ h' tk acc' c', (∀ b o, b ≠ it → s.heap.get? b = some o → h'.get? b = some o) → h'.get? s.heap.objs.size = some { cls := .type "list", dict := none, data := .seq acc' c', slots := #[] } →
      ItemsOf (fun i v => items[items.size - 1 - i]? = some v) acc' items.size → Q (.ref s.heap.objs.size) { s with heap := h', toks := tk }) : wpAny (model prog w) A (call (.type "list") [.ref it]) Q E s := by
  refine callType_codes (Q₁ := fun obj s₁ => obj = .ref s.heap.objs.size ∧ s₁ = { s with heap := s.heap.push { cls := .type "list", data := .seq #[] } }) F.called_list (F.typeCall_list_1 _) F.entry_list_init (code_list_new _ ⟨rfl, rfl⟩) fun obj s₁ h₁ => ?_
  obtain ⟨rfl, rfl⟩ := h₁
  have hS : (s.heap.push { cls := .type "list", data := .seq #[] }).get? s.heap.objs.size = some { cls := .type "list", data := .seq #[] } := Heap.get?_push_size _ rfl
  have l1 : it < s.heap.objs.size := let ⟨o, e, _⟩ := hit; Heap.lt_size e
  have l2 : t < s.heap.objs.size := let ⟨o, e, _⟩ := ht; Heap.lt_size e
  have ht2 : IsTup (s.heap.push { cls := .type "list", data := .seq #[] }) t items := let ⟨o, e, r⟩ := ht; ⟨o, Heap.get?_push_of_some _ e, r⟩
  refine ⟨⟨_, hS, rfl⟩, F.args_list_init_2 _ _, rt_init (A := A.in1) hh (hit.at fun o e => Heap.get?_push_of_some _ e) ht2 hne hn (Nat.ne_of_gt l1) (Nat.ne_of_gt l2) hS fun h' tk acc' c' hk hS' hacc => ?_⟩
  exact ⟨rfl, hQ h' tk acc' c' (fun b o hb e => hk b o (Nat.ne_of_lt (Heap.lt_size e)) hb (Heap.get?_push_of_some _ e)) hS' hacc⟩
/-- collect(x) of a source -/
theorem collect_src {T : String} {r d : Addr} {n : Nat} {P : Nat → Value → Prop} {OK : Heap → Prop} {Q : List Value → Shared → Prop} (K : PySem.W.KdlSrc prog w T r d n P OK) (hh : A.handled = none) (hok : OK s.heap) (hn : n ≤ sizeLine)
    (hQ : ∀ (h' : Heap) (tk : Nat) (acc : Array Value), (∀ b o, s.heap.get? b = some o → h'.get? b = some o) → ItemsOf P acc n → Q acc.toList { s with heap := h', toks := tk }) : wpAny (model prog w) A (collect (.ref r)) Q E s := by
  have hlt := K.there _ hok
  unfold collect
  refine wpAny_bind (wpAny_runValue (codeAny_builtin F.entry_proto_collect ?_))
  rw [Around.under_plainId F.plain_proto_collect _]
  show wpAny _ A.in1 (newList [] >>= fun l' => again (.builtin "list.__iadd__" ⟨[l', .ref r], []⟩)) _ _ s
  refine wpAny_bind (wpAny_newObj_type ?_)
  refine wpAny_pure ⟨plainId_quiet F.plain_list_iadd _, codeAny_builtin F.entry_list_iadd ?_⟩
  rw [Around.under_plainId F.plain_list_iadd _]
  have hS : (s.heap.push { cls := .type "list", data := .seq ([] : List Value).toArray }).get? s.heap.objs.size = some { cls := .type "list", data := .seq ([] : List Value).toArray } := Heap.get?_push_size _ rfl
  show wpAny _ A.in1 (Builtin.List.listExtendWith (.ref s.heap.objs.size) (.ref r) (.ref s.heap.objs.size)) _ _ _
  have fin : ∀ (r : Result) (s' : Shared), (∃ h' tk acc' c', r = .ok (.ret (.ref s.heap.objs.size)) ∧ s' = { s with heap := h', toks := tk } ∧ (∀ b o, s.heap.get? b = some o → h'.get? b = some o) ∧
      h'.get? s.heap.objs.size = some { cls := .type "list", dict := none, data := .seq acc' c', slots := #[] } ∧ ItemsOf P acc' n) → ∃ f, r = .ok (.ret f) ∧ wpAny (model prog w) A
        (match f with | .ref a => (do match (← load a).data with | .seq xs _ => pure xs.toList | _ => unsupported "internal:collect") | _ => unsupported "internal:collect") Q E s' := by
    rintro r s' ⟨h', tk, acc', c', rfl, rfl, hk, hS', hacc⟩
    refine ⟨_, rfl, ?_⟩
    show wpAny _ A (load s.heap.objs.size >>= _) _ _ _
    exact wpAny_bind (wpAny_load hS' (wpAny_pure (hQ h' tk acc' hk hacc)))
  refine wpAny_mono (PySem.W.kdl_extend (R := fun r s' => ∃ h' tk acc' c', r = .ok (.ret (.ref s.heap.objs.size)) ∧ s' = { s with heap := h', toks := tk } ∧ (∀ b o, s.heap.get? b = some o → h'.get? b = some o) ∧
      h'.get? s.heap.objs.size = some { cls := .type "list", dict := none, data := .seq acc' c', slots := #[] } ∧ ItemsOf P acc' n) (s := { s with heap := s.heap.push { cls := .type "list", data := .seq ([] : List Value).toArray } })
      K hh (K.keep _ _ hok fun b _ o e => Heap.get?_push_of_some _ e) _ (Nat.ne_of_gt hlt.1) (Nat.ne_of_gt hlt.2) _ _ hS (fun h' tk acc' c' hk hS' hacc => ?_) hn) (fun fn s' h => ?_) (fun e s' h => ?_)
  · exact ⟨h', tk, acc', c', rfl, rfl, fun b o e => hk b o (Nat.ne_of_lt (Heap.lt_size e)) (Heap.get?_push_of_some _ e), hS', hacc⟩
  · cases fn with
    | done f =>
      obtain ⟨f', e, q⟩ := fin _ _ h
      cases e
      exact q
    | again c =>
      refine ⟨h.1, codeAny_mono h.2 fun r s'' h2 => ?_⟩
      obtain ⟨f', e, q⟩ := fin _ _ h2
      subst e
      exact q
  · obtain ⟨f', e, q⟩ := fin _ _ h
    cases e
/-- tuple(d) -/
theorem call_tuple_src {r d : Addr} {n : Nat} {P : Nat → Value → Prop} {OK : Heap → Prop} {Q : Value → Shared → Prop} (K : PySem.W.KdlSrc prog w "dict" r d n P OK) (hh : A.handled = none) (hok : OK s.heap) (hn : n ≤ sizeLine)
    (hQ : ∀ (h' : Heap) (tk : Nat) (acc : Array Value), (∀ b o, s.heap.get? b = some o → h'.get? b = some o) → ItemsOf P acc n → Q (.ref h'.objs.size) { s with heap := h'.push { cls := .type "tuple", data := .seq acc }, toks := tk }) :
    wpAny (model prog w) A (call (.type "tuple") [.ref r]) Q E s := by
  have new : codeAny (model prog w) A.in1 (.call (.builtin "tuple.__new__") ⟨[.type "tuple", .ref r], []⟩) (wants (fun obj s₁ => s₁.TypeIs obj "tuple" ∧ Q obj s₁) E) s := by
    refine codeAny_of_tree ?_
    show wpAny _ A.in1.in1 (do checkBuiltinCall "tuple.__new__" ⟨[.type "tuple", .ref r], []⟩; again (.builtin "tuple.__new__" ⟨[.type "tuple", .ref r], []⟩)) _ _ s
    refine wpAny_bind (wpAny_of_eq (F.newCall_tuple_1 _) (wpAny_pure ⟨plainId_quiet F.plain_tuple_new _, codeAny_builtin F.entry_tuple_new ?_⟩))
    rw [Around.under_plainId F.plain_tuple_new _]
    have hsub := sub_tuple_self
    have hinit := init_tuple_lookup
    have hmh := madeHere_tuple
    have hTI := K.type s hok
    have hh1 : A.in1.in1.handled = none := hh
    wp_walk using wpAny_typeOf hTI, collect_src (A := A.in1.in1) K hh1 hok hn
    intro h' tk acc hk hacc
    show wpAny _ _ (Builtin.Tuple.tupleExact acc.toList.toArray >>= fun v => ret v) _ _ _
    unfold Builtin.Tuple.tupleExact
    refine wpAny_bind (wpAny_newObj_type ?_ (by show acc.toList.toArray.size ≤ sizeLine; simp only [Array.toArray_toList]; rw [hacc.1]; exact hn))
    have e : acc.toList.toArray = acc := by simp
    rw [e]
    exact wpAny_pure ⟨⟨_, Heap.get?_push_size _ rfl, rfl⟩, hQ h' tk acc hk hacc⟩
  refine callType_codes F.called_tuple (F.typeCall_tuple_1 _) F.entry_object_init new fun obj s₁ h₁ => ?_
  exact ⟨h₁.1, F.args_object_init_2 obj _, object_init_meets F.called_tuple.init.lookup F.called_tuple.made (by decide) prog w A.in1 _ s₁ ⟨h₁.1, rfl, h₁.2⟩⟩
end
section
variable {X : Cx}
/-- tuple(d), d a dict: its keys -/
theorem call_tuple_dK (hc : X.calm = true) : CallR X (.type "tuple") (fun xs H Q => ∃ p kvs, xs = [.ref p] ∧ H p = some (.dK kvs) ∧ ∀ q, H q = none → Q (.ref q) (upd H q (.tup (kvs.map fun kv => kV kv.1)))) := by
  intro pins s σ H xs us Q I r h
  obtain ⟨p, kvs, rfl, hk, q⟩ := h
  obtain ⟨u, rfl, rx⟩ := vals1 r
  obtain rfl : u = Value.ref p := rx
  obtain ⟨z, lo, vs, rk, hd⟩ := (show ObjOk X.prog X.w H s.heap p (.dK kvs) from I.hok p _ hk)
  obtain ⟨ep, hat⟩ := hd.dictAt
  have hl : kvs.length = vs.length := Paired.length rk
  refine call_tuple_src (PySem.W.kdl_dict (knd := mixKind X.prog X.w) (kvs := vs) (ep := ep) lo) (I.ok.hd hc) hat (by omega) fun h' tk acc hkeep hacc => ?_
  have I2 : Inv X pins σ H { s with heap := h', toks := tk } := I.kept hkeep
  refine ⟨.ref h'.objs.size, upd H h'.objs.size (.tup (kvs.map fun kv => kV kv.1)), I2.laid (t' := tk) (fun c o e => Heap.get?_push_of_some _ e) (Nat.le_refl _) (show ObjOk X.prog X.w _ _ _ (.tup (kvs.map fun kv => kV kv.1)) from ⟨?_, acc.toList, ?_, ?_⟩), rfl, q _ (I2.hok.fresh (Nat.le_refl _))⟩
  · rw [List.length_map]; exact z
  · have el : acc.toList.length = acc.size := by simp
    refine vals_of_at (by rw [List.length_map, el, hacc.1, hl]) fun j x w h1 h2 => ?_
    obtain ⟨k, y, hky, hi⟩ := hacc.2 j w (by rw [← Array.getElem?_toList]; exact h2)
    have e1 : (kvs.map (·.1))[j]? = some k := by rw [KV.keys rk, List.getElem?_map, hky] <;> rfl
    have e2 : (kvs.map fun kv => kV kv.1)[j]? = some (kV k) := by
      rw [show (kvs.map fun kv => kV kv.1) = (kvs.map (·.1)).map kV by rw [List.map_map] <;> rfl, List.getElem?_map, e1] <;> rfl
    rw [e2] at h1
    cases h1
    exact keyIs_rel hi
  · rw [Array.toArray_toList]; exact IsTup.new _ _
/-- list(reversed(x)), x a tuple -/
def tLstRev (K : PySem.W.Frag) (te : TE) : TE := fun σ H Q => te σ H fun v H1 => ∃ (a : Addr) (xs : List V), v = .ref a ∧ SqT K H1 a xs ∧ ∀ q, H1 q = none → q ≠ sysModules → Q (.ref q) (upd H1 q (.lst xs.reverse))
theorem pe_lstRev {e : Expr} {te : TE} {p p2 pos pos2 : Pos} (hc : X.calm = true) (hg : Gl X "list") (hm : X.mg "list" = none) (hg2 : Gl X "reversed") (hm2 : X.mg "reversed" = none) (he : PE X e te)
    (hs : starEach [e] X.env = (false, eval e X.env) :: starEach [] X.env := by rfl)
    (hs2 : starEach [.Call (.Name "reversed" p2) [e] [] pos2] X.env = (false, eval (.Call (.Name "reversed" p2) [e] [] pos2) X.env) :: starEach [] X.env := by rfl) :
    PE X (.Call (.Name "list" p) [.Call (.Name "reversed" p2) [e] [] pos2] [] pos) (tLstRev X.K te) := by
  refine ⟨fun pins s σ H Q I h => ?_⟩
  refine Call_ (ld_blt I hg hm boot_list (PyProof.Rows.callWith_type1 (args_cons (Call_ (ld_blt I hg2 hm2 PyProof.Rows.boot_reversed (PyProof.Rows.callWith_type1 (args_cons (thn (he.run pins s σ H _ I h) fun u s1 ⟨v, H1, I1, r1, q1⟩ => args_nil ?_) hs) hs rfl))) hs2) hs2 rfl))
  obtain ⟨a, xs, rfl, hq, q⟩ := q1
  obtain rfl : u = Value.ref a := r1
  obtain ⟨its, rv, p', hz⟩ := I1.tuple hq
  have hl := rv.length
  have hn := line63
  have hn2 : its.toArray.size ≤ sizeLine := by rw [List.size_toArray, ← rv.length]; exact hz
  refine RT.call_reversed_tup p' (fun A E Q k => len_tuple p' (by simp only [List.size_toArray] <;> omega) k) (args_nil ?_)
  have k0 : ∀ b o, s1.heap.get? b = some o → (s1.heap.push (RT.rtObj a ((its.toArray.size : Int) - 1))).get? b = some o := fun b o e => Heap.get?_push_of_some _ e
  have hne : a ≠ s1.heap.objs.size := let ⟨o, e, _⟩ := p'; Nat.ne_of_lt (Heap.lt_size e)
  have p2 : IsTup (s1.heap.push (RT.rtObj a ((its.toArray.size : Int) - 1))) a its.toArray := let ⟨o, e, r⟩ := p'; ⟨o, k0 _ _ e, r⟩
  refine call_list_rt (s := { s1 with heap := s1.heap.push (RT.rtObj a ((its.toArray.size : Int) - 1)), toks := s1.toks + 1 + 1 }) (I1.ok.hd hc) ⟨_, Heap.get?_push_size _ rfl, rfl, rfl⟩ p2 hne hn2 fun h' tk acc c' hk hS hi => ?_
  have sz : s1.heap.objs.size ≤ (s1.heap.push (RT.rtObj a ((its.toArray.size : Int) - 1))).objs.size := by simp [Heap.push]
  refine ⟨.ref _, upd H1 _ (.lst xs.reverse), I1.laid (t' := tk) (fun b o e => hk b o (Nat.ne_of_lt (Heap.lt_size e)) (k0 b o e)) sz (show ObjOk X.prog X.w _ _ _ (.lst xs.reverse) from ⟨by rw [List.length_reverse]; exact hz, acc.toList, c', RT.vals_rev rv hi, ?_⟩), rfl, q _ (I1.hok.fresh sz) (Nat.ne_of_gt (Nat.lt_of_lt_of_le I1.big sz))⟩
  rw [Array.toArray_toList]
  exact hS
end
end Kq

set_option Elab.async false
set_option linter.all false
set_option maxRecDepth 100000
set_option maxHeartbeats 4000000
namespace Kq
open PySem PySem.Spec PyProof.Rows L2
/-! statements over plain data; w: the lists of the def's own, by slot -/
abbrev Own := Nat → Option (Addr × List V)
def Cz.ext (C : Cz) (w : Own) : Cz where
  M := fun b => C.M b ∨ ∃ i vs, w i = some (b, vs)
  lax := C.lax
  tok := C.tok
  J := fun H => C.J H ∧ ∀ i b vs, w i = some (b, vs) → H b = some (.lst vs)
  st := fun H H' s j => ⟨C.st H H' (fun b o m e => s b o (.inl m) e) j.1, fun i b vs e => s _ _ (.inr ⟨i, vs, e⟩) (j.2 i b vs e)⟩
  mt := fun H b m j z => by
    rcases m with m | ⟨i, vs, e⟩
    · exact C.mt H b m j.1 z
    · rw [j.2 i b vs e] at z
      cases z
def Cz.plus (C : Cz) (p : Addr) : Cz where
  M := fun b => C.M b ∨ b = p
  lax := C.lax
  tok := C.tok
  J := fun H => C.J H ∧ ∃ o, H p = some o
  st := fun H H' s j => ⟨C.st H H' (fun b o m e => s b o (.inl m) e) j.1, let ⟨o, e⟩ := j.2; ⟨o, s _ _ (.inr rfl) e⟩⟩
  mt := fun H b m j z => by
    rcases m with m | rfl
    · exact C.mt H b m j.1 z
    · obtain ⟨o, e⟩ := j.2
      rw [e] at z
      cases z
mutual
theorem Dq.sub {C C' : Cz} {H : Hp} (hm : ∀ b, C'.M b → C.M b) (hl : C.lax → C'.lax) (ht : C.tok = C'.tok) : ∀ {v : V} {t : PyData}, Dq C H v t → Dq C' H v t
  | _, _, .non => .non
  | _, _, .bl b => .bl b
  | _, _, .int i => .int i
  | _, _, .str x => .str x
  | _, _, .lst n1 n2 h r => .lst (fun m => n1 (hm _ m)) (fun z => hl (n2 z)) h (DqAll.sub hm hl ht r)
  | _, _, .tup h r => .tup h (DqAll.sub hm hl ht r)
  | _, _, .dct n1 h r => .dct (fun m => n1 (hm _ m)) h (DqKv.sub hm hl ht r)
  | _, _, .tok h => .tok (ht ▸ h)
theorem DqAll.sub {C C' : Cz} {H : Hp} (hm : ∀ b, C'.M b → C.M b) (hl : C.lax → C'.lax) (ht : C.tok = C'.tok) : ∀ {vs : List V} {ds : List PyData}, DqAll C H vs ds → DqAll C' H vs ds
  | _, _, .nil => .nil
  | _, _, .cons h r => .cons (Dq.sub hm hl ht h) (DqAll.sub hm hl ht r)
theorem DqKv.sub {C C' : Cz} {H : Hp} (hm : ∀ b, C'.M b → C.M b) (hl : C.lax → C'.lax) (ht : C.tok = C'.tok) : ∀ {vs : List (Key × V)} {ds : List (PyData × PyData)}, DqKv C H vs ds → DqKv C' H vs ds
  | _, _, .nil => .nil
  | _, _, .cons h r => .cons (Dq.sub hm hl ht h) (DqKv.sub hm hl ht r)
end
/-! what stood ahead keeps clear of a new place -/
mutual
theorem Dq.clear {C : Cz} {H : Hp} {p : Addr} (np : H p = none) : ∀ {v : V} {t : PyData}, Dq C H v t → Dq (C.plus p) H v t
  | _, _, .non => .non
  | _, _, .bl b => .bl b
  | _, _, .int i => .int i
  | _, _, .str x => .str x
  | _, _, .lst n1 n2 h r => .lst (fun m => m.elim n1 (ne_of_none h np)) n2 h (DqAll.clear np r)
  | _, _, .tup h r => .tup h (DqAll.clear np r)
  | _, _, .dct n1 h r => .dct (fun m => m.elim n1 (ne_of_none h np)) h (DqKv.clear np r)
  | _, _, .tok h => .tok h
theorem DqAll.clear {C : Cz} {H : Hp} {p : Addr} (np : H p = none) : ∀ {vs : List V} {ds : List PyData}, DqAll C H vs ds → DqAll (C.plus p) H vs ds
  | _, _, .nil => .nil
  | _, _, .cons h r => .cons (Dq.clear np h) (DqAll.clear np r)
theorem DqKv.clear {C : Cz} {H : Hp} {p : Addr} (np : H p = none) : ∀ {vs : List (Key × V)} {ds : List (PyData × PyData)}, DqKv C H vs ds → DqKv (C.plus p) H vs ds
  | _, _, .nil => .nil
  | _, _, .cons h r => .cons (Dq.clear np h) (DqKv.clear np r)
end
theorem Kx.ext {C : Cz} {H H' : Hp} {w : Own} (k : Kx C H H') : Kx (C.ext w) H H' := ⟨k.1, fun b o m e => k.2 b o (fun z => m (.inl z)) e⟩
theorem Kx.plus {C : Cz} {H H' : Hp} {p : Addr} (k : Kx C H H') : Kx (C.plus p) H H' := ⟨k.1, fun b o m e => k.2 b o (fun z => m (.inl z)) e⟩
theorem Kx.free {C : Cz} {H H' : Hp} {p : Addr} (k : Kx C H H') (m : ¬ C.M p) (np : H' p = none) : H p = none := by
  cases e : H p with
  | none => rfl
  | some o =>
    rw [k.2 p o m e] at np
    cases np
def notIn (w : Own) (b : Addr) : Prop := ∀ i vs, w i ≠ some (b, vs)
/-- what stays on the way: tuples, and all that is neither the deck's nor an own list -/
def St (C : Cz) (H : Hp) (w : Own) (H' : Hp) (w' : Own) : Prop := (∀ b xs, H b = some (.tup xs) → H' b = some (.tup xs)) ∧ ∀ b o, ¬ C.M b → notIn w b → H b = some o → H' b = some o ∧ notIn w' b
def KxO (C : Cz) (w : Own) (H H' : Hp) : Prop := (∀ b xs, H b = some (.tup xs) → H' b = some (.tup xs)) ∧ ∀ b o, ¬ C.M b → notIn w b → H b = some o → H' b = some o
theorem St.kx {C : Cz} {H H' : Hp} {w w' : Own} (s : St C H w H' w') : KxO C w H H' := ⟨s.1, fun b o m n e => (s.2 b o m n e).1⟩
theorem St.refl {C : Cz} {H : Hp} {w : Own} : St C H w H w := ⟨fun _ _ e => e, fun b o m n e => ⟨e, n⟩⟩
theorem St.trans {C : Cz} {H H1 H2 : Hp} {w w1 w2 : Own} (a : St C H w H1 w1) (b : St C H1 w1 H2 w2) : St C H w H2 w2 := ⟨fun c xs e => b.1 c xs (a.1 c xs e), fun c o m n e => let ⟨e1, n1⟩ := a.2 c o m n e; b.2 c o m n1 e1⟩
theorem St.thenO {C : Cz} {H H1 H2 : Hp} {w w1 : Own} (a : St C H w H1 w1) (b : KxO C w1 H1 H2) : KxO C w H H2 := ⟨fun c xs e => b.1 c xs (a.1 c xs e), fun c o m n e => let ⟨e1, n1⟩ := a.2 c o m n e; b.2 c o m n1 e1⟩
theorem St.thenK {C : Cz} {H H1 H2 : Hp} {w w1 : Own} (a : St C H w H1 w1) (b : Kx C H1 H2) : St C H w H2 w1 := ⟨fun c xs e => b.1 c xs (a.1 c xs e), fun c o m n e => let ⟨e1, n1⟩ := a.2 c o m n e; ⟨b.2 c o m e1, n1⟩⟩
theorem KxO.ext {C : Cz} {H H' : Hp} {w : Own} (k : KxO C w H H') : Kx (C.ext w) H H' := ⟨k.1, fun b o m e => k.2 b o (fun z => m (.inl z)) (fun i vs z => m (.inr ⟨i, vs, z⟩)) e⟩
structure SOk (C : Cz) (Ow : List Nat) (H0 : Hp) (w0 : Own) (H : Hp) (σ : L2.St) (ρ : Rho) (w : Own) : Prop where
  len : ρ.length = σ.length
  j : C.J H
  k : St C H0 w0 H w
  inj : ∀ i j b vs us, w i = some (b, vs) → w j = some (b, us) → i = j
  dom : ∀ i b vs, w i = some (b, vs) → i ∈ Ow ∧ ¬ C.M b ∧ (b = sysModules → C.lax) ∧ σ[i]? = some (some (.ref b)) ∧ H b = some (.lst vs) ∧ ∃ ds, ρ[i]? = some (some (.list ds)) ∧ DqAll (C.ext w) H vs ds
  all : ∀ i, i ∈ Ow → (∃ d : PyData, ρ[i]? = some (some d)) → ∃ x, w i = some x
  at_ : ∀ (i : Nat) (d : PyData), i ∉ Ow → ρ[i]? = some (some d) → ∃ v, σ[i]? = some (some v) ∧ Dq (C.ext w) H v d
section
variable {C : Cz} {Ow : List Nat} {H0 H H' : Hp} {w0 : Own} {σ : L2.St} {ρ : Rho} {w : Own}
theorem ext_sub {v : V} {t : PyData} (h : Dq (C.ext w) H v t) : Dq C H v t := Dq.sub (C := C.ext w) (C' := C) (fun _ m => Or.inl m) (fun z => z) rfl h
theorem ext_subs {v : List V} {t : List PyData} (h : DqAll (C.ext w) H v t) : DqAll C H v t := DqAll.sub (C := C.ext w) (C' := C) (fun _ m => Or.inl m) (fun z => z) rfl h
/-- all slots as plain data -/
theorem SOk.env (h : SOk C Ow H0 w0 H σ ρ w) : EnvOk C H σ ρ := ⟨h.len, fun i d e => by
  by_cases hi : i ∈ Ow
  · obtain ⟨⟨b, vs⟩, hw⟩ := h.all i hi ⟨d, e⟩
    obtain ⟨_, m, lx, hs, hb, ds, hd, r⟩ := h.dom i b vs hw
    rw [hd] at e
    cases e
    exact ⟨_, hs, .lst m lx hb (ext_subs r)⟩
  · obtain ⟨v, e1, r⟩ := h.at_ i d hi e
    exact ⟨v, e1, ext_sub r⟩⟩
/-- the heap has grown -/
theorem SOk.keep (h : SOk C Ow H0 w0 H σ ρ w) (k : Kx C H H') (j : C.J H') : SOk C Ow H0 w0 H' σ ρ w where
  len := h.len
  j := j
  k := h.k.thenK k
  inj := h.inj
  dom := fun i b vs e => by
    obtain ⟨a1, m, a3, a4, hb, ds, hd, r⟩ := h.dom i b vs e
    exact ⟨a1, m, a3, a4, k.2 b _ m hb, ds, hd, r.keep k.ext⟩
  all := h.all
  at_ := fun i d hi e => by
    obtain ⟨v, e1, r⟩ := h.at_ i d hi e
    exact ⟨v, e1, r.keep k.ext⟩
theorem getElem?_set {α : Type} (l : List α) (i j : Nat) (x y : α) (e : (l.set i x)[j]? = some y) : (i = j ∧ x = y ∧ i < l.length) ∨ (i ≠ j ∧ l[j]? = some y) := by
  by_cases h : i = j
  · subst h
    by_cases hl : i < l.length
    · rw [List.getElem?_set_self hl] at e
      exact .inl ⟨rfl, Option.some.inj e, hl⟩
    · rw [List.getElem?_eq_none (by simp; omega)] at e
      cases e
  · rw [List.getElem?_set_ne h] at e
    exact .inr ⟨h, e⟩
/-- a slot that is none of the own lists' is stored -/
theorem SOk.set (h : SOk C Ow H0 w0 H σ ρ w) {k : Nat} (hk : k ∉ Ow) {v : V} {d : PyData} (r : Dq C H v d) (hd : Ow = [] ∨ noL d = true) : SOk C Ow H0 w0 H (σ.set k (some v)) (ρ.set k (some d)) w where
  len := by simp [h.len]
  j := h.j
  k := h.k
  inj := h.inj
  dom := fun i b vs e => by
    obtain ⟨a1, m, a3, a4, hb, ds, hds, q⟩ := h.dom i b vs e
    have ne : k ≠ i := fun z => hk (by rw [z]; exact a1)
    exact ⟨a1, m, a3, by rw [List.getElem?_set_ne ne]; exact a4, hb, ds, by rw [List.getElem?_set_ne ne]; exact hds, q⟩
  all := fun i hi ⟨e, he⟩ => by
    rw [List.getElem?_set_ne (show k ≠ i from fun z => hk (by rw [z]; exact hi))] at he
    exact h.all i hi ⟨e, he⟩
  at_ := fun i e hi he => by
    rcases getElem?_set _ _ _ _ _ he with ⟨rfl, q, hl⟩ | ⟨ne, q⟩
    · cases q
      refine ⟨v, List.getElem?_set_self (by rw [← h.len]; exact hl), ?_⟩
      rcases hd with hd | hd
      · refine Dq.sub (C := C) (C' := C.ext w) (fun b m => ?_) (fun z => z) rfl r
        rcases m with m | ⟨j, vs, z⟩
        · exact m
        · have := (h.dom j b vs z).1
          rw [hd] at this
          exact absurd this List.not_mem_nil
      · exact r.noL hd
    · obtain ⟨u, e1, q⟩ := h.at_ i e hi q
      exact ⟨u, by rw [List.getElem?_set_ne ne]; exact e1, q⟩
end
structure End0 where
  nx : Rho → Prop
  rt : PyData → Prop
  bk : Rho → Prop := fun _ => False
  ct : Rho → Prop := fun _ => False
def End0.le (D D' : End0) : Prop := (∀ ρ, D.nx ρ → D'.nx ρ) ∧ (∀ d, D.rt d → D'.rt d) ∧ (∀ ρ, D.bk ρ → D'.bk ρ) ∧ ∀ ρ, D.ct ρ → D'.ct ρ
abbrev P0S := End0 → Rho → Prop
def KE (C : Cz) (Ow : List Nat) (H0 : Hp) (w0 : Own) (D : Ends) : End0 where
  nx := fun ρ' => ∀ σ' H' w, SOk C Ow H0 w0 H' σ' ρ' w → D.nx σ' H'
  rt := fun d => ∀ v H', KxO C w0 H0 H' → C.J H' → Dq C H' v d → D.rt v H'
  bk := fun ρ' => ∀ σ' H' w, SOk C Ow H0 w0 H' σ' ρ' w → D.bk σ' H'
  ct := fun ρ' => ∀ σ' H' w, SOk C Ow H0 w0 H' σ' ρ' w → D.ct σ' H'
def lfS (C : Cz) (Ow : List Nat) (H0 : Hp) (w0 : Own) (t : P0S) : TS := fun D σ H => ∃ ρ w, SOk C Ow H0 w0 H σ ρ w ∧ t (KE C Ow H0 w0 D) ρ
structure QS (X : Cx) (C : Cz) (Ow : List Nat) (s : Stmt) (t : P0S) : Prop where
  ps : ∀ H0 w0, PS X s (lfS C Ow H0 w0 t)
  mono : ∀ ρ D D', t D ρ → End0.le D D' → t D' ρ
structure QSs (X : Cx) (C : Cz) (Ow : List Nat) (s : List Stmt) (t : P0S) : Prop where
  ps : ∀ H0 w0, PSs X s (lfS C Ow H0 w0 t)
  mono : ∀ ρ D D', t D ρ → End0.le D D' → t D' ρ
theorem PS.weak {X : Cx} {e : Stmt} {t t' : TS} (h : PS X e t) (w : ∀ D σ H, t' D σ H → t D σ H) : PS X e t' := ⟨fun pins s σ H D I q => h.run pins s σ H D I (w D σ H q)⟩
theorem PSs.weak {X : Cx} {e : List Stmt} {t t' : TS} (h : PSs X e t) (w : ∀ D σ H, t' D σ H → t D σ H) : PSs X e t' := ⟨fun pins s σ H D I q => h.run pins s σ H D I (w D σ H q)⟩
theorem End0.le_refl (D : End0) : End0.le D D := ⟨fun _ h => h, fun _ h => h, fun _ h => h, fun _ h => h⟩
section
variable {X : Cx} {C : Cz} {Ow : List Nat} {H0 : Hp} {st : Stmt} {rest : List Stmt} {t u : P0S} {pos : Pos} {a : Expr} {ta : P0} {tA : P0T}
/-! sequences -/
@[simp] def sNext : P0S := fun D ρ => D.nx ρ
@[simp] def sSeq (t u : P0S) : P0S := fun D ρ => t { D with nx := u D } ρ
theorem qss_nil : QSs X C Ow [] sNext := ⟨fun H0 w0 => PSs.weak pss_nil fun D σ H ⟨ρ, w, h, q⟩ => q σ H w h, fun ρ D D' h l => l.1 _ h⟩
theorem qss_cons (h1 : QS X C Ow st t) (h2 : QSs X C Ow rest u) : QSs X C Ow (st :: rest) (sSeq t u) := by
  refine ⟨fun H0 w0 => PSs.weak (pss_cons (h1.ps H0 w0) (h2.ps H0 w0)) fun D σ H h => ?_, fun ρ D D' h l => h1.mono ρ { D with nx := u D } { D' with nx := u D' } h ⟨fun ρ' q => h2.mono _ _ _ q l, l.2⟩⟩
  obtain ⟨ρ, w, h, q⟩ := h
  exact ⟨ρ, w, h, h1.mono ρ { KE C Ow H0 w0 D with nx := u (KE C Ow H0 w0 D) } _ q ⟨fun ρ' q σ' H' w' h' => ⟨ρ', w', h', q⟩, fun _ q => q, fun _ q => q, fun _ q => q⟩⟩
theorem qss_one (h1 : QS X C Ow st t) : QSs X C Ow [st] t := ⟨fun H0 w0 => pss_one (h1.ps H0 w0), h1.mono⟩
theorem qs_pass : QS X C Ow (.Pass pos) sNext := ⟨fun H0 w0 => PS.weak ps_pass fun D σ H ⟨ρ, w, h, q⟩ => q σ H w h, fun ρ D D' h l => l.1 _ h⟩
theorem qs_continue : QS X C Ow (.Continue pos) (fun D ρ => D.ct ρ) := ⟨fun H0 w0 => PS.weak ps_continue fun D σ H ⟨ρ, w, h, q⟩ => q σ H w h, fun ρ D D' h l => l.2.2.2 _ h⟩
theorem qs_break : QS X C Ow (.Break pos) (fun D ρ => D.bk ρ) := ⟨fun H0 w0 => PS.weak ps_break fun D σ H ⟨ρ, w, h, q⟩ => q σ H w h, fun ρ D D' h l => l.2.2.1 _ h⟩
@[simp] def sRet (t : P0) : P0S := fun D ρ => t ρ D.rt
theorem qs_ret (h : QE X C a ta) : QS X C Ow (.Return (some a) pos) (sRet ta) := by
  refine ⟨fun H0 w0 => PS.weak (ps_ret h.pe) fun D σ H q => ?_, fun ρ D D' q l => h.mono _ _ _ l.2.1 q⟩
  obtain ⟨ρ, w, s, q⟩ := q
  exact ⟨ρ, s.env, s.j, h.mono _ _ _ (fun d q v H' k j r => q v H' (s.k.thenK k).kx j r) q⟩
theorem qs_retN : QS X C Ow (.Return none pos) (fun D _ => D.rt .none) := by
  refine ⟨fun H0 w0 => PS.weak ps_retN fun D σ H q => ?_, fun ρ D D' q l => l.2.1 _ q⟩
  obtain ⟨ρ, w, s, q⟩ := q
  exact q .non H s.k.kx s.j .non
@[simp] def sSet (Ow : List Nat) (k : Nat) (t : P0) : P0S := fun D ρ => t ρ fun d => (Ow = [] ∨ noL d = true) ∧ D.nx (ρ.set k (some d))
theorem qs_set {k : Nat} {x : Str} {pos' : Pos} (hk : k ∉ Ow) (hN : X.N.Nodup) (hi : X.N[k]? = some x) (hx : Loc X.env.scope x) (h : QE X C a ta) (hs : swapsWith a (some (.Name x pos')) pos.line X.env = pure false := by rfl) (hf : X.fn x = true ∨ X.env.scope.names.lookup x = some .local := by first | exact .inl rfl | exact .inr rfl | assumption) :
    QS X C Ow (.Assign [.Name x pos'] a pos) (sSet Ow k ta) := by
  refine ⟨fun H0 w0 => PS.weak (ps_set hN hi hx h.pe hs hf) fun D σ H q => ?_, fun ρ D D' q l => h.mono _ _ _ (fun d q => ⟨q.1, l.1 _ q.2⟩) q⟩
  obtain ⟨ρ, w, s, q⟩ := q
  exact ⟨ρ, s.env, s.j, h.mono _ _ _ (fun d q v H' k1 j r => q.2 _ H' w ((s.keep k1 j).set hk r q.1)) q⟩
@[simp] def sIf (tA : P0T) (t u : P0S) : P0S := fun D ρ => tA ρ fun k => if k = true then t D ρ else u D ρ
theorem qs_if {c : Expr} {as bs : List Stmt} (hc : QT X C c tA) (ha : QSs X C Ow as t) (hb : QSs X C Ow bs u) : QS X C Ow (.If c as bs pos) (sIf tA t u) := by
  refine ⟨fun H0 w0 => PS.weak (ps_if hc.pt (ha.ps H0 w0) (hb.ps H0 w0)) fun D σ H q => ?_, fun ρ D D' q l => hc.mono _ _ _ (fun k q => ?_) q⟩
  · obtain ⟨ρ, w, s, q⟩ := q
    refine ⟨ρ, s.env, s.j, hc.mono _ _ _ (fun k q H' k1 j => ?_) q⟩
    cases k with
    | true => exact ⟨ρ, w, s.keep k1 j, q⟩
    | false => exact ⟨ρ, w, s.keep k1 j, q⟩
  · cases k with
    | true => exact ha.mono _ _ _ q l
    | false => exact hb.mono _ _ _ q l
@[simp] def sDrop (t : P0) : P0S := fun D ρ => t ρ fun _ => D.nx ρ
theorem qs_expr (h : QE X C a ta) (hs : swapsWith a none pos.line X.env = pure false := by rfl) : QS X C Ow (.Expr a pos) (sDrop ta) := by
  refine ⟨fun H0 w0 => PS.weak (ps_expr h.pe hs) fun D σ H q => ?_, fun ρ D D' q l => h.mono _ _ _ (fun d q => l.1 _ q) q⟩
  obtain ⟨ρ, w, s, q⟩ := q
  exact ⟨ρ, s.env, s.j, h.mono _ _ _ (fun d q v H' k1 j r => q σ H' w (s.keep k1 j)) q⟩
/-! while -/
def sWhile (tA : P0T) (t : P0S) : P0S := fun D ρ => ∃ W : Nat → Rho → Prop, (∃ m, W m ρ) ∧ ∀ m ρ, W m ρ → tA ρ fun k => if k = true then t { D with nx := fun ρ' => ∃ m', m' < m ∧ W m' ρ', ct := fun ρ' => ∃ m', m' < m ∧ W m' ρ', bk := D.nx } ρ else D.nx ρ
theorem qs_while {c : Expr} {body : List Stmt} (hp : PassesOwn (model X.prog X.w) X.A X.env X.xe) (hc : QT X C c tA) (hb : QSs X C Ow body t) : QS X C Ow (.While c body [] pos) (sWhile tA t) := by
  refine ⟨fun H0 w0 => PS.weak (ps_while hp hc.pt (hb.ps H0 w0)) fun D σ H q => ?_, fun ρ D D' q l => ?_⟩
  · obtain ⟨ρ, w, s, W, ⟨m, wz⟩, turn⟩ := q
    refine ⟨fun m σ H => ∃ ρ w, SOk C Ow H0 w0 H σ ρ w ∧ W m ρ, ⟨m, ρ, w, s, wz⟩, fun m σ H ⟨ρ, w, s, wm⟩ => ?_⟩
    refine ⟨ρ, s.env, s.j, hc.mono _ _ _ (fun k q H' k1 j => ?_) (turn m ρ wm)⟩
    have s' := s.keep k1 j
    cases k with
    | true =>
      rw [if_pos rfl] at q
      refine ⟨fun σ' H' => ∃ m', m' < m ∧ ∃ ρ w, SOk C Ow H0 w0 H' σ' ρ w ∧ W m' ρ, fun σ' H' h => h, ρ, w, s', hb.mono _ _ _ q ⟨?_, fun _ q => q, fun _ q => q, ?_⟩⟩
      · intro ρ' h σ' H' w' h'
        obtain ⟨m', hm, q⟩ := h
        exact ⟨m', hm, ρ', w', h', q⟩
      · intro ρ' h σ' H' w' h'
        obtain ⟨m', hm, q⟩ := h
        exact ⟨m', hm, ρ', w', h', q⟩
    | false => exact q σ H' w s'
  · obtain ⟨W, wz, turn⟩ := q
    refine ⟨W, wz, fun m ρ wm => hc.mono _ _ _ (fun k q => ?_) (turn m ρ wm)⟩
    cases k with
    | true =>
      rw [if_pos rfl] at q ⊢
      exact hb.mono _ _ _ q ⟨fun _ q => q, l.2.1, l.1, fun _ q => q⟩
    | false => exact l.1 _ q
/-! what a loop walks -/
def IsIt (C : Cz) (H1 : Hp) (J : It) (ds : List PyData) : Prop := ∀ i H, Kx C H1 H → (i = ds.length → J.stop i H) ∧ ∀ d, ds[i]? = some d → J.go i H ∧ ∀ x H', J.yld i H x H' → Same H H' ∧ Dq C H' x d
def lfI (C : Cz) (t : P0A) : TI := fun σ H R => ∃ ρ, EnvOk C H σ ρ ∧ C.J H ∧ t ρ fun ds => ∀ J H', Kx C H H' → C.J H' → IsIt C H' J ds → R J H'
structure QI (X : Cx) (C : Cz) (tg e : Expr) (t : P0A) : Prop where
  pi : PI X tg e (lfI C t)
  mono : ∀ ρ Q Q', (∀ d, Q d → Q' d) → t ρ Q → t ρ Q'
theorem PI.weak {tg e : Expr} {t t' : TI} (h : PI X tg e t) (w : ∀ σ H R, t' σ H R → t σ H R) : PI X tg e t' := ⟨fun pins s σ H R I q => h.run pins s σ H R I (w σ H R q)⟩
theorem qi_list {tg : Expr} (h : QE X C a ta) : QI X C tg a (fun ρ Q => ta ρ fun d => ∃ ds, d = .list ds ∧ Q ds) := by
  refine ⟨PI.weak (pi_list h.pe) fun σ H R q => ?_, fun ρ Q Q' w q => h.mono _ _ _ (fun d ⟨ds, e, q⟩ => ⟨ds, e, w _ q⟩) q⟩
  obtain ⟨ρ, he, j, q⟩ := q
  refine ⟨ρ, he, j, h.mono _ _ _ (fun d ⟨ds, e, q⟩ v H' k1 j1 r => ?_) q⟩
  subst e
  cases r with
  | @lst a xs _ n1 n2 hH hr =>
    refine ⟨a, rfl, ⟨xs, .inl (.inl hH)⟩, q _ H' k1 j1 fun i H2 k2 => ?_⟩
    have hH2 := k2.2 _ _ n1 hH
    refine ⟨fun e => ⟨xs, .inl (.inl hH2), by rw [hr.length]; omega⟩, fun d e => ?_⟩
    obtain ⟨x, hx, hd⟩ := hr.get e
    refine ⟨⟨xs, x, .inl (.inl hH2), hx⟩, fun y H3 hy => ?_⟩
    obtain ⟨rfl, hy⟩ := hy
    have : y = x := Option.some.inj ((hy xs (.inl (.inl hH2))).symm.trans hx)
    subst this
    exact ⟨Same.refl _, hd.keep k2⟩
theorem qi_tup {tg : Expr} (h : QE X C a ta) : QI X C tg a (fun ρ Q => ta ρ fun d => ∃ ds, d = .tuple ds ∧ Q ds) := by
  refine ⟨PI.weak (pi_tup h.pe) fun σ H R q => ?_, fun ρ Q Q' w q => h.mono _ _ _ (fun d ⟨ds, e, q⟩ => ⟨ds, e, w _ q⟩) q⟩
  obtain ⟨ρ, he, j, q⟩ := q
  refine ⟨ρ, he, j, h.mono _ _ _ (fun d ⟨ds, e, q⟩ v H' k1 j1 r => ?_) q⟩
  subst e
  cases r with
  | @tup a xs _ hH hr =>
    refine ⟨a, rfl, ⟨xs, .inl (.inl hH)⟩, q _ H' k1 j1 fun i H2 k2 => ?_⟩
    have hH2 := k2.1 _ _ hH
    refine ⟨fun e => ⟨xs, .inl (.inl hH2), by rw [hr.length]; omega⟩, fun d e => ?_⟩
    obtain ⟨x, hx, hd⟩ := hr.get e
    refine ⟨⟨xs, x, .inl (.inl hH2), hx⟩, fun y H3 hy => ?_⟩
    obtain ⟨rfl, hy⟩ := hy
    have : y = x := Option.some.inj ((hy xs (.inl (.inl hH2))).symm.trans hx)
    subst this
    exact ⟨Same.refl _, hd.keep k2⟩
def intsD (lo : Int) (n : Nat) : List PyData := (List.range n).map fun (i : Nat) => PyData.int (lo + (i : Nat))
theorem qi_range1 {tg : Expr} {p : Pos} (hg : Gl X "range") (hm : X.mg "range" = none) (h : QE X C a ta) (hs : starEach [a] X.env = [(false, eval a X.env)] := by rfl) (hs2 : starEach [a] X.env = (false, eval a X.env) :: starEach [] X.env := by rfl) :
    QI X C tg (.Call (.Name "range" p) [a] [] pos) (fun ρ Q => ta ρ fun d => ∃ j : Int, d = .int j ∧ (-(2 ^ 62) ≤ j ∧ j < 2 ^ 62) ∧ Q (intsD 0 j.toNat)) := by
  refine ⟨PI.weak (pi_range1 hg hm (pa_cons h.pe pa_nil hs2) hs) fun σ H R q => ?_, fun ρ Q Q' w q => h.mono _ _ _ (fun d ⟨ds, e, c, q⟩ => ⟨ds, e, c, w _ q⟩) q⟩
  obtain ⟨ρ, he, j, q⟩ := q
  refine ⟨ρ, he, j, h.mono _ _ _ (fun d ⟨n, e, c, q⟩ v H' k1 j1 r => ?_) q⟩
  subst e
  cases r with
  | int i =>
    refine ⟨n, rfl, c.1, c.2, q _ H' k1 j1 fun i H2 k2 => ?_⟩
    refine ⟨fun e => ?_, fun d e => ?_⟩
    · show n.toNat ≤ i
      rw [e]
      simp [intsD]
    · have e' : ((List.range n.toNat).map fun i => PyData.int ((0 : Int) + (i : Nat)))[i]? = some d := e
      rw [List.getElem?_map] at e'
      by_cases hi : i < n.toNat
      · rw [List.getElem?_range hi] at e'
        cases e'
        refine ⟨hi, fun x H3 hy => ?_⟩
        obtain ⟨rfl, rfl⟩ := hy
        exact ⟨Same.refl _, .int _⟩
      · rw [List.getElem?_eq_none (by simp; omega)] at e'
        cases e'
end
end Kq

set_option Elab.async false
set_option linter.all false
set_option maxRecDepth 100000
set_option maxHeartbeats 4000000
namespace Kq
open PySem PySem.Spec PyProof.Rows L2
/-! targets: which slot gets what -/
abbrev Dec := PyData → Option (List (Nat × PyData))
@[simp] def setsR (ρ : Rho) : List (Nat × PyData) → Rho
  | [] => ρ
  | (k, d) :: r => setsR (ρ.set k (some d)) r
def setsS (σ : L2.St) : List (Nat × V) → L2.St
  | [] => σ
  | (k, v) :: r => setsS (σ.set k (some v)) r
inductive Got (C : Cz) (H : Hp) : List (Nat × V) → List (Nat × PyData) → Prop
  | nil : Got C H [] []
  | cons {k : Nat} {v : V} {d : PyData} {vs : List (Nat × V)} {l : List (Nat × PyData)} : Dq C H v d → Got C H vs l → Got C H ((k, v) :: vs) ((k, d) :: l)
theorem gotSub {C : Cz} {w : Own} {H : Hp} : ∀ {vs : List (Nat × V)} {l : List (Nat × PyData)}, Got (C.ext w) H vs l → Got C H vs l
  | _, _, .nil => .nil
  | _, _, .cons r t => .cons (ext_sub r) (gotSub t)
structure QG (X : Cx) (K : PySem.W.Frag) (C : Cz) (tg : Expr) (G : TG) (dec : Dec) : Prop where
  pg : PG X tg G
  go : ∀ H σ x d l Q, Dq C H x d → dec d = some l → (∀ vs, Got C H vs l → Q (setsS σ vs) H) → G x σ H Q
@[simp] def dName (k : Nat) : Dec := fun d => some [(k, d)]
def dTup (ks : List Nat) : Dec := fun d => match d with
  | .tuple ds => if ds.length = ks.length then some (ks.zip ds) else none
  | _ => none
section
variable {X : Cx} {C : Cz}
theorem qg_name {k : Nat} {x : Str} {pos : Pos} (hN : X.N.Nodup) (hi : X.N[k]? = some x) (hx : Loc X.env.scope x) (hf : X.fn x = true ∨ X.env.scope.names.lookup x = some .local := by first | exact .inl rfl | exact .inr rfl | assumption) : QG X X.K C (.Name x pos) (gName k) (dName k) :=
  ⟨pg_name hN hi hx hf, fun H σ x d l Q r e q => by
    cases e
    exact q [(k, x)] (.cons r .nil)⟩
def gNames : List Nat → TGs
  | [] => gNil
  | k :: ks => gCons (gName k) (gNames ks)
theorem gNames_go {C : Cz} {H : Hp} {Q : L2.St → Hp → Prop} : ∀ (ks : List Nat) (xs : List V) (ds : List PyData) (σ : L2.St), DqAll C H xs ds → ds.length = ks.length → (∀ vs, Got C H vs (ks.zip ds) → Q (setsS σ vs) H) → gNames ks xs σ H Q
  | [], _, _, σ, .nil, _, q => ⟨rfl, q [] .nil⟩
  | k :: ks, _, _, σ, .cons (v := v) (vs := vs) (e := e) (ds := ds) h r, hl, q => ⟨v, vs, rfl, gNames_go ks vs ds _ r (by simpa using hl) fun ws hw => q ((k, v) :: ws) (.cons h hw)⟩
  | _ :: _, _, _, _, .nil, hl, _ => by simp at hl
theorem qg_tup {es : List Expr} {k : Nat} {ks : List Nat} {pos : Pos} (h : PG X (.Tuple es k pos) (gTup X.K ks.length (gNames ks))) : QG X X.K C (.Tuple es k pos) (gTup X.K ks.length (gNames ks)) (dTup ks) :=
  ⟨h, fun H σ x d l Q r e q => by
    cases r with
    | @tup a xs ds hH hr =>
      have e' : (if ds.length = ks.length then some (ks.zip ds) else none) = some l := e
      by_cases hl : ds.length = ks.length
      · rw [if_pos hl] at e'
        cases e'
        exact ⟨a, xs, rfl, .inl (.inl hH), by rw [hr.length]; exact hl, gNames_go ks xs ds σ hr hl q⟩
      · rw [if_neg hl] at e'
        cases e'
    | _ => cases e⟩
end
def noLp (l : List (Nat × PyData)) : Bool := noLs (l.map (·.2))
section
variable {C : Cz} {Ow : List Nat} {H0 H H' : Hp} {w0 : Own} {σ : L2.St} {ρ : Rho} {w : Own}
theorem SOk.sets : ∀ (l : List (Nat × PyData)) (vs : List (Nat × V)) (σ : L2.St) (ρ : Rho), SOk C Ow H0 w0 H σ ρ w → (∀ p ∈ l, p.1 ∉ Ow) → (Ow = [] ∨ noLp l = true) → Got C H vs l → SOk C Ow H0 w0 H (setsS σ vs) (setsR ρ l) w
  | _, _, _, _, h, _, _, .nil => h
  | (k, d) :: l, (_, v) :: vs, σ, ρ, h, hk, hn, .cons r t => by
    have hn2 : (Ow = [] ∨ noL d = true) ∧ (Ow = [] ∨ noLp l = true) := by
      rcases hn with hn | hn
      · exact ⟨.inl hn, .inl hn⟩
      · have hn' : (noL d && noLp l) = true := hn
        rw [Bool.and_eq_true] at hn'
        exact ⟨.inr hn'.1, .inr hn'.2⟩
    exact SOk.sets l vs (σ.set k (some v)) (ρ.set k (some d)) (h.set (hk (k, d) (List.mem_cons_self ..)) r hn2.1) (fun p hp => hk p (List.mem_cons_of_mem _ hp)) hn2.2 t
theorem EnvOk.sets : ∀ (l : List (Nat × PyData)) (vs : List (Nat × V)) (σ : L2.St) (ρ : Rho), EnvOk C H σ ρ → Got C H vs l → EnvOk C H (setsS σ vs) (setsR ρ l)
  | _, _, _, _, h, .nil => h
  | (k, d) :: l, (_, v) :: vs, σ, ρ, h, .cons r t => EnvOk.sets l vs (σ.set k (some v)) (ρ.set k (some d)) (h.set k r) t
end
section
variable {X : Cx} {C : Cz} {Ow : List Nat} {H0 : Hp} {st : Stmt} {rest : List Stmt} {t u : P0S} {pos : Pos} {a : Expr} {ta : P0} {tA : P0T} {ti : P0A} {dec : Dec} {G : TG}
/-! x, y = e -/
@[simp] def sAsg (Ow : List Nat) (dec : Dec) (t : P0) : P0S := fun D ρ => t ρ fun d => ∃ l, dec d = some l ∧ (∀ p ∈ l, p.1 ∉ Ow) ∧ (Ow = [] ∨ noLp l = true) ∧ D.nx (setsR ρ l)
theorem qs_asg {tg : Expr} (h : QE X C a ta) (hg : QG X X.K C tg G dec) (hs : swapsWithSole [tg] a pos.line X.env = pure false := by rfl) (hw : swappedStores [tg] a X.env = pure none := by rfl) (h1 : (assignEach [tg] X.env).map (·.2) = [assign tg X.env] := by rfl) : QS X C Ow (.Assign [tg] a pos) (sAsg Ow dec ta) := by
  refine ⟨fun H0 w0 => PS.weak (ps_asg h.pe hg.pg hs hw h1) fun D σ H q => ?_, fun ρ D D' q l => h.mono _ _ _ (fun d ⟨m, e, c1, c2, q⟩ => ⟨m, e, c1, c2, l.1 _ q⟩) q⟩
  obtain ⟨ρ, w, s, q⟩ := q
  refine ⟨ρ, s.env, s.j, h.mono _ _ _ (fun d ⟨l, e, c1, c2, q⟩ v H' k1 j r => ?_) q⟩
  exact hg.go H' σ v d l _ r e fun vs hv => q _ H' w (SOk.sets _ _ _ _ (s.keep k1 j) c1 c2 hv)
/-! for -/
def hide (Ow : List Nat) (ρ : Rho) : Rho := ρ.mapIdx fun i d => if i ∈ Ow then none else d
theorem hide_at {Ow : List Nat} {ρ : Rho} {i : Nat} {d : PyData} (h : (hide Ow ρ)[i]? = some (some d)) : i ∉ Ow ∧ ρ[i]? = some (some d) := by
  unfold hide at h
  rw [List.getElem?_mapIdx] at h
  cases e : ρ[i]? with
  | none =>
    rw [e] at h
    cases h
  | some x =>
    rw [e] at h
    have h' : (if i ∈ Ow then none else x) = some d := Option.some.inj h
    by_cases hi : i ∈ Ow
    · rw [if_pos hi] at h'
      cases h'
    · rw [if_neg hi] at h'
      subst h'
      exact ⟨hi, rfl⟩
theorem SOk.envX {w0 w : Own} {H : Hp} {σ : L2.St} {ρ : Rho} (h : SOk C Ow H0 w0 H σ ρ w) : EnvOk (C.ext w) H σ (hide Ow ρ) ∧ (C.ext w).J H := by
  refine ⟨⟨by rw [hide, List.length_mapIdx]; exact h.len, fun i d e => ?_⟩, h.j, fun i b vs e => (h.dom i b vs e).2.2.2.2.1⟩
  obtain ⟨hi, e⟩ := hide_at e
  exact h.at_ i d hi e
def sFor (Ow : List Nat) (ti : P0A) (dec : Dec) (t : P0S) : P0S := fun D ρ => ti (hide Ow ρ) fun ds => ∃ W : Nat → Rho → Prop, W 0 ρ ∧ ∀ i ρ, W i ρ → (i = ds.length → D.nx ρ) ∧ ∀ d, ds[i]? = some d → ∃ l, dec d = some l ∧ (∀ p ∈ l, p.1 ∉ Ow) ∧ (Ow = [] ∨ noLp l = true) ∧
  t { D with nx := W (i + 1), ct := W (i + 1), bk := D.nx } (setsR ρ l)
theorem SOk.rebase {w0 w : Own} {H : Hp} {σ : L2.St} {ρ : Rho} (h : SOk C Ow H0 w0 H σ ρ w) : SOk C Ow H w H σ ρ w := { h with k := St.refl }
theorem SOk.based {w0 w1 w : Own} {H1 H : Hp} {σ : L2.St} {ρ : Rho} (a : St C H0 w0 H1 w1) (h : SOk C Ow H1 w1 H σ ρ w) : SOk C Ow H0 w0 H σ ρ w := { h with k := a.trans h.k }
theorem SOk.keepX {w0 w : Own} {H H' : Hp} {σ : L2.St} {ρ : Rho} (h : SOk C Ow H0 w0 H σ ρ w) (k : Kx (C.ext w) H H') (j : (C.ext w).J H') : Kx C H H' := ⟨k.1, fun b o m e => by
  by_cases hb : ∃ i vs, w i = some (b, vs)
  · obtain ⟨i, vs, hw⟩ := hb
    have h1 := (h.dom i b vs hw).2.2.2.2.1
    rw [e] at h1
    cases h1
    exact j.2 i b vs hw
  · exact k.2 b o (fun z => z.elim m hb) e⟩
theorem PSs.ex {body : List Stmt} (h : ∀ H0 w0, PSs X body (lfS C Ow H0 w0 t)) : PSs X body (fun D σ H => ∃ H0 w0, lfS C Ow H0 w0 t D σ H) := ⟨fun pins s σ H D I ⟨H0, w0, q⟩ => (h H0 w0).run pins s σ H D I q⟩
theorem qs_for {tg iter : Expr} {body : List Stmt} (hp : PassesOwn (model X.prog X.w) X.A X.env X.xe) (hc : X.calm = true) (hi : ∀ w, QI X (C.ext w) tg iter ti) (hg : ∀ w, QG X X.K (C.ext w) tg G dec) (hb : QSs X C Ow body t) (hs : ∀ x, foldedSetIterable iter X.env x = pure x := by intro _; rfl) :
    QS X C Ow (.For tg iter body [] pos) (sFor Ow ti dec t) := by
  refine ⟨fun H0 w0 => ⟨fun pins sh σ H D I q => ?_⟩, fun ρ D D' q l => (hi fun _ => none).mono _ _ _ (fun ds ⟨W, wz, turn⟩ => ⟨W, wz, fun i ρ wi => ⟨fun e => l.1 _ ((turn i ρ wi).1 e), fun d e => ?_⟩⟩) q⟩
  · obtain ⟨ρ, w, s, q⟩ := q
    obtain ⟨he, hj⟩ := s.envX
    refine (ps_for hp hc (hi w).pi (hg w).pg (PSs.ex hb.ps) hs).run pins sh σ H D I ?_
    refine ⟨hide Ow ρ, he, hj, (hi w).mono _ _ _ (fun ds ⟨W, wz, turn⟩ J H1 k1 j1 it => ?_) q⟩
    have k1' := s.keepX k1 j1
    have s1 := s.keep k1' j1.1
    have b1 : St C H0 w0 H1 w := s1.k
    refine ⟨fun i m σ H => m = ds.length - i ∧ i ≤ ds.length ∧ ∃ ρ w2, SOk C Ow H1 w H σ ρ w2 ∧ W i ρ, ⟨ds.length, by omega, Nat.zero_le _, ρ, w, s1.rebase, wz⟩, ?_⟩
    rintro i m σ H ⟨rfl, hi, ρ, w2, s, wi⟩
    obtain ⟨fin, go⟩ := it i H s.k.kx.ext
    obtain ⟨t1, t2⟩ := turn i ρ wi
    by_cases hlt : i < ds.length
    · obtain ⟨d, hd⟩ : ∃ d, ds[i]? = some d := ⟨_, List.getElem?_eq_getElem hlt⟩
      obtain ⟨g1, g2⟩ := go d hd
      obtain ⟨l, e, c1, c2, q⟩ := t2 d hd
      refine .inr ⟨g1, fun σ' H' => ∃ ρ w2, SOk C Ow H1 w H' σ' ρ w2 ∧ W (i + 1) ρ, fun σ' H' h => ⟨_, by omega, rfl, hlt, h⟩, fun x H' hy => ?_⟩
      obtain ⟨k2, r⟩ := g2 x H' hy
      refine (hg w).go H' σ x d l _ r e fun vs hv => ⟨H1, w, setsR ρ l, w2, SOk.sets _ _ _ _ (s.keep (kxSame k2) (C.same _ _ k2 s.j)) c1 c2 (gotSub hv), ?_⟩
      refine hb.mono _ _ _ q ⟨?_, ?_, ?_, ?_⟩
      · intro ρ' q σ' H2 w' s'
        exact ⟨ρ', w', s', q⟩
      · intro d q v H2 k j r
        exact q v H2 (b1.thenO k) j r
      · intro ρ' q σ' H2 w' s'
        exact q σ' H2 w' (s'.based b1)
      · intro ρ' q σ' H2 w' s'
        exact ⟨ρ', w', s', q⟩
    · have e : i = ds.length := by omega
      exact .inl ⟨fin e, t1 e σ H w2 (s.based b1)⟩
  · obtain ⟨m, e1, c1, c2, q⟩ := (turn i ρ wi).2 d e
    exact ⟨m, e1, c1, c2, hb.mono _ _ _ q ⟨fun _ q => q, l.2.1, l.1, fun _ q => q⟩⟩
end
end Kq

set_option Elab.async false
set_option linter.all false
set_option maxRecDepth 100000
set_option maxHeartbeats 4000000
namespace Kq
open PySem PySem.Spec PyProof.Rows L2
/-! comprehensions -/
def wipeR (ρ : Rho) : List Nat → Rho
  | [] => ρ
  | v :: vs => (wipeR ρ vs).set v none
theorem wipeR_length (ρ : Rho) : ∀ vs : List Nat, (wipeR ρ vs).length = ρ.length
  | [] => rfl
  | v :: vs => by
    unfold wipeR
    rw [List.length_set, wipeR_length ρ vs]
theorem wipeR_at {ρ : Rho} {i : Nat} {d : PyData} : ∀ {vs : List Nat}, (wipeR ρ vs)[i]? = some (some d) → ρ[i]? = some (some d) ∧ i ∉ vs
  | [], h => ⟨h, by simp⟩
  | v :: vs, h => by
    rcases getElem?_set _ _ _ _ _ (show ((wipeR ρ vs).set v none)[i]? = some (some d) from h) with ⟨_, e, _⟩ | ⟨ne, e⟩
    · cases e
    · obtain ⟨h1, h2⟩ := wipeR_at e
      exact ⟨h1, fun z => by
        rcases List.mem_cons.mp z with z | z
        · exact ne z.symm
        · exact h2 z⟩
theorem wipe_at {σ : L2.St} {i : Nat} {x : Option V} : ∀ {vs : List Nat}, i ∉ vs → σ[i]? = some x → (wipe σ vs)[i]? = some x
  | [], _, h => h
  | v :: vs, hn, h => by
    show ((wipe σ vs).set v none)[i]? = some x
    rw [List.getElem?_set_ne (fun z => hn (by rw [z]; exact List.mem_cons_self ..))]
    exact wipe_at (fun z => hn (List.mem_cons_of_mem _ z)) h
theorem wipe_out {σ : L2.St} {i : Nat} : ∀ {vs : List Nat}, i ∈ vs → i < σ.length → (wipe σ vs)[i]? = some none
  | v :: vs, hi, hl => by
    show ((wipe σ vs).set v none)[i]? = some none
    by_cases e : v = i
    · subst e
      rw [List.getElem?_set_self (by rw [wipe_length]; exact hl)]
    · rw [List.getElem?_set_ne e]
      exact wipe_out ((List.mem_cons.mp hi).resolve_left fun z => e z.symm) hl
theorem EnvOk.wipe {C : Cz} {H : Hp} {σ : L2.St} {ρ : Rho} (h : EnvOk C H σ ρ) (vs : List Nat) : EnvOk C H (wipe σ vs) (wipeR ρ vs) := ⟨by rw [wipeR_length, wipe_length]; exact h.len, fun i d e => by
  obtain ⟨e1, e2⟩ := wipeR_at e
  obtain ⟨v, e3, r⟩ := h.at_ i d e1
  exact ⟨v, wipe_at e2 e3, r⟩⟩
theorem setsS_length : ∀ (l : List (Nat × V)) (σ : L2.St), (setsS σ l).length = σ.length
  | [], _ => rfl
  | (k, v) :: l, σ => by
    show (setsS (σ.set k (some v)) l).length = _
    rw [setsS_length l, List.length_set]
theorem setsS_at {i : Nat} : ∀ (l : List (Nat × V)) (σ : L2.St), (∀ p ∈ l, p.1 ≠ i) → (setsS σ l)[i]? = σ[i]?
  | [], _, _ => rfl
  | (k, v) :: l, σ, h => by
    show (setsS (σ.set k (some v)) l)[i]? = _
    rw [setsS_at l _ fun p hp => h p (List.mem_cons_of_mem _ hp), List.getElem?_set_ne (h (k, v) (List.mem_cons_self ..))]
theorem wipe_sets {σ : L2.St} {vs : List Nat} {l : List (Nat × V)} (h : ∀ p ∈ l, p.1 ∈ vs) : wipe (setsS (wipe σ vs) l) vs = wipe σ vs := by
  apply List.ext_getElem?
  intro i
  by_cases hi : i ∈ vs
  · by_cases hl : i < σ.length
    · rw [wipe_out hi (by rw [setsS_length, wipe_length]; exact hl), wipe_out hi hl]
    · rw [List.getElem?_eq_none (by rw [wipe_length, setsS_length, wipe_length]; omega), List.getElem?_eq_none (by rw [wipe_length]; omega)]
  · have e : (setsS (wipe σ vs) l)[i]? = (wipe σ vs)[i]? := setsS_at l _ fun p hp z => hi (z ▸ h p hp)
    cases q : (wipe σ vs)[i]? with
    | none =>
      rw [q] at e
      have h1 := List.getElem?_eq_none_iff.mp q
      rw [List.getElem?_eq_none (by rw [wipe_length, setsS_length]; exact h1)]
    | some x =>
      rw [q] at e
      exact wipe_at hi e
theorem Got.keys {C : Cz} {H : Hp} : ∀ {vs : List (Nat × V)} {l : List (Nat × PyData)}, Got C H vs l → ∀ {ks : List Nat}, (∀ p ∈ l, p.1 ∈ ks) → ∀ p ∈ vs, p.1 ∈ ks
  | _, _, .nil, _, _ => fun p hp => absurd hp List.not_mem_nil
  | _, _, .cons (k := k) (d := d) r t, ks, h => fun p hp => by
    rcases List.mem_cons.mp hp with e | hp
    · subst e
      exact h (k, d) (List.mem_cons_self ..)
    · exact t.keys (fun p hp => h p (List.mem_cons_of_mem _ hp)) p hp
def lcGo (ks : List Nat) (dec : Dec) (tt : P0T) (te : P0) (ρ : Rho) (Q : PyData → Prop) : List PyData → List PyData → Prop
  | [], acc => Q (.list acc)
  | d :: ds, acc => ∃ l, dec d = some l ∧ (∀ p ∈ l, p.1 ∈ ks) ∧ tt (setsR ρ l) fun b => if b = true then te (setsR ρ l) fun y => noL y = true ∧ acc.length < sizeLine ∧ lcGo ks dec tt te ρ Q ds (acc ++ [y]) else lcGo ks dec tt te ρ Q ds acc
@[simp] def vLc (ks : List Nat) (ti : P0A) (dec : Dec) (tt : P0T) (te : P0) : P0 := fun ρ Q => ti ρ fun ds => lcGo ks dec tt te (wipeR ρ ks) Q ds []
/-- the tests of a comprehension -/
structure QTs (X : Cx) (C : Cz) (ifs : List Expr) (t : P0T) : Prop where
  pts : PTs X ifs (lfT C t)
  mono : ∀ ρ Q Q', (∀ d, Q d → Q' d) → t ρ Q → t ρ Q'
theorem PTs.weak {X : Cx} {e : List Expr} {t t' : TT} (h : PTs X e t) (w : ∀ σ H Q, t' σ H Q → t σ H Q) : PTs X e t' := ⟨fun pins s σ H Q I q => h.run pins s σ H Q I (w σ H Q q)⟩
@[simp] def wYes : P0T := fun _ Q => Q true
theorem qts_nil {X : Cx} {C : Cz} : QTs X C [] wYes := ⟨PTs.weak pts_nil fun σ H Q ⟨ρ, he, j, q⟩ => q H Kx.refl j, fun _ _ _ w q => w _ q⟩
theorem qts_one {X : Cx} {C : Cz} {c : Expr} {t : P0T} (h : QT X C c t) : QTs X C [c] t := ⟨pts_one h.pt, h.mono⟩
theorem lcGo_mono {ks : List Nat} {dec : Dec} {tt : P0T} {te : P0} (hm : ∀ ρ Q Q', (∀ d, Q d → Q' d) → tt ρ Q → tt ρ Q') (hm2 : ∀ ρ Q Q', (∀ d, Q d → Q' d) → te ρ Q → te ρ Q') {ρ : Rho} {Q Q' : PyData → Prop} (w : ∀ d, Q d → Q' d) :
    ∀ (ds acc : List PyData), lcGo ks dec tt te ρ Q ds acc → lcGo ks dec tt te ρ Q' ds acc
  | [], acc, h => w _ h
  | d :: ds, acc, ⟨l, e, c, h⟩ => ⟨l, e, c, hm _ _ _ (fun b q => by
      cases b with
      | true => exact hm2 _ _ _ (fun y q => ⟨q.1, q.2.1, lcGo_mono hm hm2 w ds _ q.2.2⟩) q
      | false => exact lcGo_mono hm hm2 w ds _ q) h⟩
theorem EnvOk.sub {C C' : Cz} {H : Hp} {σ : L2.St} {ρ : Rho} (hm : ∀ b, C'.M b → C.M b) (hl : C.lax → C'.lax) (ht : C.tok = C'.tok) (h : EnvOk C H σ ρ) : EnvOk C' H σ ρ := ⟨h.len, fun i d e => by
  obtain ⟨v, e1, r⟩ := h.at_ i d e
  exact ⟨v, e1, r.sub hm hl ht⟩⟩
section
variable {X : Cx} {C : Cz} {pos : Pos}
/-- what a comprehension comes to, its list new -/
theorem lc_core {ks : List Nat} {ti : P0A} {dec : Dec} {tt : P0T} {te : P0} {J : It} {G : TG} {σ : L2.St} {ρ : Rho} {H1 : Hp} {Qd : Hp → Prop} {ds : List PyData} {D : Addr}
    (hm : ∀ ρ Q Q', (∀ d, Q d → Q' d) → tt ρ Q → tt ρ Q') (hm2 : ∀ ρ Q Q', (∀ d, Q d → Q' d) → te ρ Q → te ρ Q')
    (hg : ∀ H σ x d l Q, Dq C H x d → dec d = some l → (∀ vs, Got C H vs l → Q (setsS σ vs) H) → G x σ H Q) (he : EnvOk C H1 σ ρ) (j : C.J H1) (it : IsIt C H1 J ds) (nD : H1 D = none) (q : lcGo ks dec tt te (wipeR ρ ks) (fun d => ∀ ys vs H', d = .list ys → Kx C H1 H' → C.J H' → H' D = some (.lst vs) → DqAll (C.plus D) H' vs ys → Qd H') ds []) :
    ∃ W : Nat → Nat → Hp → Prop, (∃ m, W 0 m (upd H1 D (.lst []))) ∧ ∀ i m H, W i m H → (J.stop i H ∧ Qd H) ∨ (J.go i H ∧ ∃ Nx : Hp → Prop, (∀ H', Nx H' → ∃ m', m' < m ∧ W (i + 1) m' H') ∧ ∀ x H', J.yld i H x H' → G x (wipe σ ks) H' fun σ2 H2 => wipe σ2 ks = wipe σ ks ∧ lfT C tt σ2 H2 fun b H3 =>
      if b = true then lf C te σ2 H3 fun y H4 => ∃ acc, H4 D = some (.lst acc) ∧ acc.length < sizeLine ∧ Nx (upd H4 D (.lst (acc ++ [y]))) else Nx H3) := by
  have mD : ¬ C.M D := freshM C j nD
  have st0 : EnvOk (C.plus D) H1 σ ρ := ⟨he.len, fun i d e => by
    obtain ⟨v, e1, r⟩ := he.at_ i d e
    exact ⟨v, e1, r.clear nD⟩⟩
  refine ⟨fun i m H => m = ds.length - i ∧ i ≤ ds.length ∧ ∃ (acc : List V) (ys : List PyData), Kx C H1 H ∧ C.J H ∧ H D = some (.lst acc) ∧ DqAll (C.plus D) H acc ys ∧ noLs ys = true ∧ EnvOk (C.plus D) H (wipe σ ks) (wipeR ρ ks) ∧
    lcGo ks dec tt te (wipeR ρ ks) (fun d => ∀ ys vs H', d = .list ys → Kx C H1 H' → C.J H' → H' D = some (.lst vs) → DqAll (C.plus D) H' vs ys → Qd H') (ds.drop i) ys, ⟨ds.length, by omega, Nat.zero_le _, [], [], kxSame (same_upd nD), C.same _ _ (same_upd nD) j, upd_same, .nil, rfl, (st0.wipe ks).keep (kxSame (same_upd nD)), q⟩, ?_⟩
  rintro i m H ⟨rfl, hi, acc, ys, kx, jH, hD, hA, hn, hE, go⟩
  obtain ⟨fin, step⟩ := it i H kx
  by_cases hlt : i < ds.length
  · have hd : ds[i]? = some ds[i] := List.getElem?_eq_getElem hlt
    obtain ⟨g1, g2⟩ := step _ hd
    rw [← List.getElem_cons_drop hlt] at go
    obtain ⟨l, e, c, go⟩ := go
    refine .inr ⟨g1, fun H => ∃ (acc : List V) (ys : List PyData), Kx C H1 H ∧ C.J H ∧ H D = some (.lst acc) ∧ DqAll (C.plus D) H acc ys ∧ noLs ys = true ∧ EnvOk (C.plus D) H (wipe σ ks) (wipeR ρ ks) ∧
      lcGo ks dec tt te (wipeR ρ ks) (fun d => ∀ ys vs H', d = .list ys → Kx C H1 H' → C.J H' → H' D = some (.lst vs) → DqAll (C.plus D) H' vs ys → Qd H') (ds.drop (i + 1)) ys, fun H' h => ⟨_, by omega, rfl, hlt, h⟩, fun x H' hy => ?_⟩
    obtain ⟨s1, r⟩ := g2 x H' hy
    have k1 : Kx C H H' := kxSame s1
    have j1 := C.same _ _ s1 jH
    refine hg H' _ x _ l _ r e fun vs hv => ⟨wipe_sets (hv.keys c), ?_⟩
    have hE1 := hE.keep (Kx.plus k1)
    have hE2 : EnvOk C H' (wipe σ ks) (wipeR ρ ks) := EnvOk.sub (C := C.plus D) (C' := C) (fun _ m => Or.inl m) (fun z => z) rfl hE1
    refine ⟨setsR (wipeR ρ ks) l, EnvOk.sets _ _ _ _ hE2 hv, j1, hm _ _ _ (fun b q H3 k3 j3 => ?_) go⟩
    cases b with
    | true =>
      refine ⟨setsR (wipeR ρ ks) l, (EnvOk.sets _ _ _ _ hE2 hv).keep k3, j3, hm2 _ _ _ (fun y q v H4 k4 j4 r4 => ?_) q⟩
      have k14 : Kx C H H4 := k1.trans (k3.trans k4)
      have hD4 := k14.2 D _ mD hD
      have kD : Kx (C.plus D) H4 (upd H4 D (.lst (acc ++ [v]))) := ⟨fun b xs eb => by rw [upd_ne (ne_of eb hD4 (by intro z; cases z))]; exact eb, fun b o m eb => by rw [upd_ne (fun z => m (.inr z))]; exact eb⟩
      have al : acc.length = ys.length := hA.length
      refine ⟨acc, hD4, by rw [al]; exact q.2.1, acc ++ [v], ys ++ [y], ?_, C.st H4 _ (fun b o (m : C.M b) eb => by rw [upd_ne (show b ≠ D from fun z => mD (by rw [← z]; exact m))]; exact eb) j4, upd_same, ?_, ?_, (hE.keep (Kx.plus k14)).keep kD, q.2.2⟩
      · refine ⟨fun b xs eb => ?_, fun b o m eb => ?_⟩
        · rw [upd_ne (ne_of_none eb nD)]
          exact (kx.trans k14).1 b xs eb
        · rw [upd_ne (ne_of_none eb nD)]
          exact (kx.trans k14).2 b o m eb
      · exact ((hA.keep (Kx.plus k14)).app (.cons (r4.noL q.1) .nil)).keep kD
      · have app : ∀ (l : List PyData), noLs l = true → noLs (l ++ [y]) = true := by
          intro l
          induction l with
          | nil =>
            intro _
            show (noL y && true) = true
            rw [q.1]
            rfl
          | cons x l ih =>
            intro h
            have h' : (noL x && noLs l) = true := h
            rw [Bool.and_eq_true] at h'
            show (noL x && noLs (l ++ [y])) = true
            rw [h'.1, ih h'.2]
            rfl
        exact app ys hn
    | false =>
      have k13 : Kx C H H3 := k1.trans k3
      exact ⟨acc, ys, kx.trans k13, j3, k13.2 D _ mD hD, hA.keep (Kx.plus k13), hn, hE.keep (Kx.plus k13), q⟩
  · have e : i = ds.length := by omega
    subst e
    rw [List.drop_length] at go
    exact .inl ⟨fin rfl, go ys acc H rfl kx jH hD hA⟩
theorem qe_lc {elt tg iter : Expr} {ifs : List Expr} {scope : Scope} {own : List (Str × Nat)} {ti : P0A} {dec : Dec} {G : TG} {tt : P0T} {te : P0} (lx : C.lax) (hc : X.calm = true) (hN : X.N.Nodup) (hi : QI X C tg iter ti) (ok : BlkOk X.N X.env.scope scope own)
    (hg : ∀ (s : Shared) (H : Hp) (Cc : Addr) (cl : List (Str × Addr)) (fp : List Addr), QG (X.blk s H scope (compEnvC scope cl Cc X.env) fp) X.K C tg G dec) (ht : ∀ (s : Shared) (H : Hp) (Cc : Addr) (cl : List (Str × Addr)) (fp : List Addr), QTs (X.blk s H scope (compEnvC scope cl Cc X.env) fp) C ifs tt)
    (he : ∀ (s : Shared) (H : Hp) (Cc : Addr) (cl : List (Str × Addr)) (fp : List Addr), QE (X.blk s H scope (compEnvC scope cl Cc X.env) fp) C elt te) (hs : ∀ x, foldedSetIterable iter X.env x = pure x := by intro _; rfl) :
    QE X C (.ListComp elt [⟨tg, iter, ifs, 0⟩] scope pos) (vLc (own.map (·.2)) ti dec tt te) := by
  have am : ∀ ρ Q Q', (∀ d, Q d → Q' d) → tt ρ Q → tt ρ Q' := (ht X.s_0 (fun _ => none) 0 [] []).mono
  have bm : ∀ ρ Q Q', (∀ d, Q d → Q' d) → te ρ Q → te ρ Q' := (he X.s_0 (fun _ => none) 0 [] []).mono
  have gm := (hg X.s_0 (fun _ => none) 0 [] []).go
  refine ⟨PE.weak (pe_lc hc hN hi.pi ok (fun s H c cl fp => (hg s H c cl fp).pg) (fun s H c cl fp => (ht s H c cl fp).pts) (fun s H c cl fp => (he s H c cl fp).pe) hs) fun σ H Q h => ?_, fun ρ Q Q' w h => hi.mono _ _ _ (fun ds q => lcGo_mono am bm w ds _ q) h⟩
  obtain ⟨ρ, hE, j, h⟩ := h
  refine ⟨ρ, hE, j, hi.mono _ _ _ (fun ds q J H1 k1 j1 it => ?_) h⟩
  intro D nD
  refine lc_core (ti := ti) am bm gm (hE.keep k1) j1 it nD (lcGo_mono am bm (fun d q ys vs H' e k' j' hD r => ?_) _ _ q)
  subst e
  exact q (.ref D) H' (k1.trans k') j' (.lst (freshM C j1 nD) (fun _ => lx) hD (DqAll.sub (C := C.plus D) (C' := C) (fun _ m => Or.inl m) (fun z => z) rfl r))
/-! own lists -/
def putW (w : Own) (k : Nat) (x : Addr × List V) : Own := fun i => if i = k then some x else w i
theorem putW_same {w : Own} {k : Nat} {x : Addr × List V} : putW w k x k = some x := if_pos rfl
theorem putW_ne {w : Own} {k i : Nat} {x : Addr × List V} (h : i ≠ k) : putW w k x i = w i := if_neg h
section
variable {Ow : List Nat} {H0 H : Hp} {w0 w : Own} {σ : L2.St} {ρ : Rho}
/-- an own list gets other items -/
theorem SOk.put (h : SOk C Ow H0 w0 H σ ρ w) {k : Nat} {b : Addr} {vs us : List V} {es : List PyData} (hw : w k = some (b, vs)) (r : DqAll (C.ext w) H us es) : SOk C Ow H0 w0 (upd H b (.lst us)) σ (ρ.set k (some (.list es))) (putW w k (b, us)) := by
  obtain ⟨hk, hm, lx, hs, hb, ds, hd, hr⟩ := h.dom k b vs hw
  have eM : ∀ c, (C.ext (putW w k (b, us))).M c → (C.ext w).M c := fun c m => by
    rcases m with m | ⟨i, xs, e⟩
    · exact .inl m
    · by_cases hi : i = k
      · subst hi
        rw [putW_same] at e
        cases e
        exact .inr ⟨i, vs, hw⟩
      · rw [putW_ne hi] at e
        exact .inr ⟨i, xs, e⟩
  have kD : Kx (C.ext w) H (upd H b (.lst us)) := ⟨fun c xs e => by rw [upd_ne (ne_of e hb (by intro z; cases z))]; exact e, fun c o m e => by rw [upd_ne (fun z => m (.inr ⟨k, vs, by rw [z]; exact hw⟩))]; exact e⟩
  have kl : k < ρ.length := by
    by_cases z : k < ρ.length
    · exact z
    · rw [List.getElem?_eq_none (by omega)] at hd
      cases hd
  refine { len := by simp [h.len], j := C.st H _ (fun c o (m : C.M c) e => by rw [upd_ne (show c ≠ b from fun z => hm (by rw [← z]; exact m))]; exact e) h.j, k := ⟨fun c xs e => kD.1 c xs (h.k.1 c xs e), fun c o m n e => ?_⟩, inj := fun i j c xs ys e1 e2 => ?_, dom := fun i c xs e => ?_, all := fun i hi he => ?_, at_ := fun i d hi he => ?_ }
  · obtain ⟨e1, n1⟩ := h.k.2 c o m n e
    have ne : c ≠ b := fun z => n1 k vs (by rw [z]; exact hw)
    refine ⟨by rw [upd_ne ne]; exact e1, fun i xs z => ?_⟩
    by_cases hi : i = k
    · subst hi
      rw [putW_same] at z
      cases z
      exact ne rfl
    · rw [putW_ne hi] at z
      exact n1 i xs z
  · by_cases hi : i = k
    · by_cases hj : j = k
      · rw [hi, hj]
      · subst hi
        rw [putW_same] at e1
        rw [putW_ne hj] at e2
        cases e1
        exact h.inj _ _ _ _ _ hw e2
    · rw [putW_ne hi] at e1
      by_cases hj : j = k
      · subst hj
        rw [putW_same] at e2
        cases e2
        exact h.inj _ _ _ _ _ e1 hw
      · rw [putW_ne hj] at e2
        exact h.inj _ _ _ _ _ e1 e2
  · by_cases hi : i = k
    · subst hi
      rw [putW_same] at e
      cases e
      exact ⟨hk, hm, lx, hs, upd_same, es, List.getElem?_set_self kl, (r.keep kD).sub eM (fun z => z) rfl⟩
    · rw [putW_ne hi] at e
      obtain ⟨a1, a2, a3, a4, a5, ds2, a6, a7⟩ := h.dom i c xs e
      have ne : c ≠ b := fun z => hi (h.inj i k b xs vs (by rw [← z]; exact e) hw)
      exact ⟨a1, a2, a3, a4, by rw [upd_ne ne]; exact a5, ds2, by rw [List.getElem?_set_ne (Ne.symm hi)]; exact a6, (a7.keep kD).sub eM (fun z => z) rfl⟩
  · by_cases hi2 : i = k
    · subst hi2
      exact ⟨_, putW_same⟩
    · obtain ⟨d, he⟩ := he
      rw [List.getElem?_set_ne (Ne.symm hi2)] at he
      obtain ⟨x, hx⟩ := h.all i hi ⟨d, he⟩
      exact ⟨x, by rw [putW_ne hi2]; exact hx⟩
  · have ne : k ≠ i := fun z => hi (by rw [← z]; exact hk)
    rw [List.getElem?_set_ne ne] at he
    obtain ⟨v, e1, q⟩ := h.at_ i d hi he
    exact ⟨v, e1, (q.keep kD).sub eM (fun z => z) rfl⟩
/-- a new own list -/
theorem SOk.own (h : SOk C Ow H0 w0 H σ ρ w) {k : Nat} {p : Addr} {vs : List V} {ds : List PyData} (hl : k < ρ.length) (hk : k ∈ Ow) (np : H p = none) (lx : p = sysModules → C.lax) (r : DqAll (C.ext w) H vs ds) : SOk C Ow H0 w0 (upd H p (.lst vs)) (σ.set k (some (.ref p))) (ρ.set k (some (.list ds))) (putW w k (p, vs)) := by
  have hm := freshM C h.j np
  have sm := same_upd (o := .lst vs) np
  have kD : Kx (C.ext w) H (upd H p (.lst vs)) := kxSame sm
  have eM : ∀ c, (C.ext (putW w k (p, vs))).M c → ((C.ext w).plus p).M c := fun c m => by
    rcases m with m | ⟨i, xs, e⟩
    · exact .inl (.inl m)
    · by_cases hi : i = k
      · rw [hi, putW_same] at e
        cases e
        exact .inr rfl
      · rw [putW_ne hi] at e
        exact .inl (.inr ⟨i, xs, e⟩)
  have cl : ∀ {v : V} {d : PyData}, Dq (C.ext w) H v d → Dq (C.ext (putW w k (p, vs))) (upd H p (.lst vs)) v d := fun {v d} q => Dq.sub (C := (C.ext w).plus p) (C' := C.ext (putW w k (p, vs))) eM (fun z => z) rfl ((q.clear np).keep (Kx.plus kD))
  have cls : ∀ {v : List V} {d : List PyData}, DqAll (C.ext w) H v d → DqAll (C.ext (putW w k (p, vs))) (upd H p (.lst vs)) v d := fun {v d} q => DqAll.sub (C := (C.ext w).plus p) (C' := C.ext (putW w k (p, vs))) eM (fun z => z) rfl ((q.clear np).keep (Kx.plus kD))
  have np2 : ∀ i xs, w i ≠ some (p, xs) := fun i xs e => by
    rw [(h.dom i p xs e).2.2.2.2.1] at np
    cases np
  refine { len := by simp [h.len], j := C.same _ _ sm h.j, k := ⟨fun c xs e => sm _ _ (h.k.1 c xs e), fun c o m n e => ?_⟩, inj := fun i j c xs ys e1 e2 => ?_, dom := fun i c xs e => ?_, all := fun i hi he => ?_, at_ := fun i d hi he => ?_ }
  · obtain ⟨e1, n1⟩ := h.k.2 c o m n e
    refine ⟨sm _ _ e1, fun i xs z => ?_⟩
    by_cases hi : i = k
    · rw [hi, putW_same] at z
      cases z
      rw [e1] at np
      cases np
    · rw [putW_ne hi] at z
      exact n1 i xs z
  · by_cases hi : i = k
    · by_cases hj : j = k
      · rw [hi, hj]
      · rw [hi, putW_same] at e1
        rw [putW_ne hj] at e2
        cases e1
        exact absurd e2 (np2 j _)
    · rw [putW_ne hi] at e1
      by_cases hj : j = k
      · rw [hj, putW_same] at e2
        cases e2
        exact absurd e1 (np2 i _)
      · rw [putW_ne hj] at e2
        exact h.inj _ _ _ _ _ e1 e2
  · by_cases hi : i = k
    · rw [hi, putW_same] at e
      cases e
      rw [hi]
      exact ⟨hk, hm, lx, List.getElem?_set_self (by rw [← h.len]; exact hl), upd_same, ds, List.getElem?_set_self hl, cls r⟩
    · rw [putW_ne hi] at e
      obtain ⟨a1, a2, a3, a4, a5, ds2, a6, a7⟩ := h.dom i c xs e
      exact ⟨a1, a2, a3, by rw [List.getElem?_set_ne (Ne.symm hi)]; exact a4, sm _ _ a5, ds2, by rw [List.getElem?_set_ne (Ne.symm hi)]; exact a6, cls a7⟩
  · by_cases hi2 : i = k
    · exact ⟨_, by rw [hi2, putW_same]⟩
    · obtain ⟨d, he⟩ := he
      rw [List.getElem?_set_ne (Ne.symm hi2)] at he
      obtain ⟨x, hx⟩ := h.all i hi ⟨d, he⟩
      exact ⟨x, by rw [putW_ne hi2]; exact hx⟩
  · have ne : k ≠ i := fun z => hi (by rw [← z]; exact hk)
    rw [List.getElem?_set_ne ne] at he
    obtain ⟨v, e1, q⟩ := h.at_ i d hi he
    exact ⟨v, by rw [List.getElem?_set_ne ne]; exact e1, cl q⟩
end
end
end Kq

set_option Elab.async false
set_option linter.all false
set_option maxRecDepth 100000
set_option maxHeartbeats 4000000
namespace Kq
open PySem PySem.Spec PyProof.Rows L2
section
variable {C : Cz} {Ow : List Nat} {H0 H : Hp} {w0 w : Own} {σ : L2.St} {ρ : Rho}
theorem SOk.setX (h : SOk C Ow H0 w0 H σ ρ w) {k : Nat} (hk : k ∉ Ow) {v : V} {d : PyData} (r : Dq (C.ext w) H v d) : SOk C Ow H0 w0 H (σ.set k (some v)) (ρ.set k (some d)) w where
  len := by simp [h.len]
  j := h.j
  k := h.k
  inj := h.inj
  dom := fun i b vs e => by
    obtain ⟨a1, m, a3, a4, hb, ds, hds, q⟩ := h.dom i b vs e
    have ne : k ≠ i := fun z => hk (by rw [z]; exact a1)
    exact ⟨a1, m, a3, by rw [List.getElem?_set_ne ne]; exact a4, hb, ds, by rw [List.getElem?_set_ne ne]; exact hds, q⟩
  all := fun i hi ⟨e, he⟩ => by
    rw [List.getElem?_set_ne (show k ≠ i from fun z => hk (by rw [z]; exact hi))] at he
    exact h.all i hi ⟨e, he⟩
  at_ := fun i e hi he => by
    rcases getElem?_set _ _ _ _ _ he with ⟨rfl, q, hl⟩ | ⟨ne, q⟩
    · cases q
      exact ⟨v, List.getElem?_set_self (by rw [← h.len]; exact hl), r⟩
    · obtain ⟨u, e1, q⟩ := h.at_ i e hi q
      exact ⟨u, by rw [List.getElem?_set_ne ne]; exact e1, q⟩
theorem SOk.setsX : ∀ (l : List (Nat × PyData)) (vs : List (Nat × V)) (σ : L2.St) (ρ : Rho), SOk C Ow H0 w0 H σ ρ w → (∀ p ∈ l, p.1 ∉ Ow) → Got (C.ext w) H vs l → SOk C Ow H0 w0 H (setsS σ vs) (setsR ρ l) w
  | _, _, _, _, h, _, .nil => h
  | (k, d) :: l, (_, v) :: vs, σ, ρ, h, hk, .cons r t => SOk.setsX l vs (σ.set k (some v)) (ρ.set k (some d)) (h.setX (hk (k, d) (List.mem_cons_self ..)) r) (fun p hp => hk p (List.mem_cons_of_mem _ hp)) t
end
/-! a list that is new -/
def lfF (C : Cz) (t : P0A) : TE := fun σ H Q => ∃ ρ, EnvOk C H σ ρ ∧ C.J H ∧ t ρ fun ds => ∀ p vs H1, Kx C H H1 → C.J H1 → H1 p = none → (p = sysModules → C.lax) → DqAll C H1 vs ds → Q (.ref p) (upd H1 p (.lst vs))
structure QF (X : Cx) (C : Cz) (e : Expr) (t : P0A) : Prop where
  pe : PE X e (lfF C t)
  mono : ∀ ρ Q Q', (∀ d, Q d → Q' d) → t ρ Q → t ρ Q'
section
variable {X : Cx} {C : Cz} {Ow : List Nat} {pos : Pos} {a : Expr} {ta : P0} {tl : P0A}
theorem qf_lst {es : List Expr} (h : QA X C es tl) : QF X C (.List es pos) (fun ρ Q => tl ρ fun ds => ds.length ≤ sizeLine ∧ Q ds) := by
  refine ⟨PE.weak (pe_lstS h.pa) fun σ H Q q => ?_, fun ρ Q Q' w q => h.mono _ _ _ (fun ds q => ⟨q.1, w _ q.2⟩) q⟩
  obtain ⟨ρ, he, j, q⟩ := q
  exact ⟨ρ, he, j, h.mono ρ _ _ (fun ds q vs H1 k1 j1 r1 => ⟨by rw [r1.length]; exact q.1, fun p np hs => q.2 p vs H1 k1 j1 np (fun z => absurd z hs) r1⟩) q⟩
/-- a new list is plain data -/
theorem QF.qe (h : QF X C a tl) : QE X C a (fun ρ Q => tl ρ fun ds => Q (.list ds)) := by
  refine ⟨PE.weak h.pe fun σ H Q q => ?_, fun ρ Q Q' w q => h.mono _ _ _ (fun ds q => w _ q) q⟩
  obtain ⟨ρ, he, j, q⟩ := q
  refine ⟨ρ, he, j, h.mono _ _ _ (fun ds q p vs H1 k1 j1 np lx r => ?_) q⟩
  have s := same_upd (o := .lst vs) np
  exact q _ _ (k1.trans (kxSame s)) (C.same _ _ s j1) (.lst (freshM C j1 np) lx upd_same (r.keep (kxSame s)))
@[simp] def sOwn (Ow : List Nat) (k : Nat) (t : P0A) : P0S := fun D ρ => t (hide Ow ρ) fun ds => k < ρ.length ∧ D.nx (ρ.set k (some (.list ds)))
theorem qs_own {k : Nat} {x : Str} {pos' : Pos} (hk : k ∈ Ow) (hN : X.N.Nodup) (hi : X.N[k]? = some x) (hx : Loc X.env.scope x) (h : ∀ w, QF X (C.ext w) a tl) (hs : swapsWith a (some (.Name x pos')) pos.line X.env = pure false := by rfl) (hf : X.fn x = true ∨ X.env.scope.names.lookup x = some .local := by first | exact .inl rfl | exact .inr rfl | assumption) :
    QS X C Ow (.Assign [.Name x pos'] a pos) (sOwn Ow k tl) := by
  refine ⟨fun H0 w0 => ⟨fun pins sh σ H D I q => ?_⟩, fun ρ D D' q l => (h fun _ => none).mono _ _ _ (fun ds q => ⟨q.1, l.1 _ q.2⟩) q⟩
  obtain ⟨ρ, w, s, q⟩ := q
  obtain ⟨he, hj⟩ := s.envX
  refine (ps_set hN hi hx (h w).pe hs hf).run pins sh σ H D I ?_
  refine ⟨hide Ow ρ, he, hj, (h w).mono _ _ _ (fun ds q p vs H1 k1 j1 np lx r => ?_) q⟩
  exact q.2 _ _ _ ((s.keep (s.keepX k1 j1) j1.1).own q.1 hk np lx r)
/-! x.append(e) -/
@[simp] def sApp (Ow : List Nat) (k : Nat) (t : P0) : P0S := fun D ρ => k ∈ Ow ∧ ∃ ds, ρ[k]? = some (some (.list ds)) ∧ ds.length < sizeLine ∧ t (hide Ow ρ) fun d => D.nx (ρ.set k (some (.list (ds ++ [d]))))
theorem SOk.slot {H0 H : Hp} {w0 w : Own} {σ : L2.St} {ρ : Rho} (s : SOk C Ow H0 w0 H σ ρ w) {k : Nat} {ds : List PyData} (hk : k ∈ Ow) (e : ρ[k]? = some (some (.list ds))) : ∃ b vs, w k = some (b, vs) ∧ σ[k]? = some (some (.ref b)) ∧ H b = some (.lst vs) ∧ DqAll (C.ext w) H vs ds := by
  obtain ⟨⟨b, vs⟩, hw⟩ := s.all k hk ⟨_, e⟩
  obtain ⟨_, _, _, a4, a5, ds2, a6, a7⟩ := s.dom k b vs hw
  rw [a6] at e
  cases e
  exact ⟨b, vs, hw, a4, a5, a7⟩
theorem qs_append {k : Nat} {call : Expr} (hp : ∀ te, PE X a te → PE X call (tBM X.K "list" rAppend (tVar k) (tCons te tNil))) (h : ∀ w, QE X (C.ext w) a ta) (hs : swapsWith call none pos.line X.env = pure false := by rfl) : QS X C Ow (.Expr call pos) (sApp Ow k ta) := by
  refine ⟨fun H0 w0 => ⟨fun pins sh σ H D I q => ?_⟩, fun ρ D D' ⟨hk, ds, e, z, q⟩ l => ⟨hk, ds, e, z, (h fun _ => none).mono _ _ _ (fun d q => l.1 _ q) q⟩⟩
  obtain ⟨ρ, w, s, hk, ds, e, z, q⟩ := q
  obtain ⟨b, vs, hw, e1, e2, r⟩ := s.slot hk e
  obtain ⟨he, hj⟩ := s.envX
  refine (ps_expr (hp _ (h w).pe) hs).run pins sh σ H D I ?_
  refine ⟨.ref b, e1, .inl ⟨rfl, vs, .inl (.inl e2)⟩, hide Ow ρ, he, hj, (h w).mono _ _ _ (fun d q v H' k1 j1 r1 => ?_) q⟩
  have s1 := s.keep (s.keepX k1 j1) j1.1
  obtain ⟨b', vs', hw', e1', e2', r'⟩ := s1.slot hk e
  rw [hw] at hw'
  cases hw'
  exact ⟨b, vs, v, rfl, rfl, e2', by rw [r'.length]; exact z, q _ _ _ (s1.put hw (r'.app (.cons r1 .nil)))⟩
/-! x.extend(e), of a list or a tuple -/
@[simp] def itemsD : PyData → Option (List PyData)
  | .list ds => some ds
  | .tuple ds => some ds
  | _ => none
@[simp] def sExt (Ow : List Nat) (k : Nat) (t : P0) : P0S := fun D ρ => k ∈ Ow ∧ ∃ ds, ρ[k]? = some (some (.list ds)) ∧ t (hide Ow ρ) fun d => ∃ es, d = .tuple es ∧ ds.length + es.length ≤ sizeLine ∧ D.nx (ρ.set k (some (.list (ds ++ es))))
theorem qs_extT {k : Nat} {call : Expr} (hp : ∀ te, PE X a te → PE X call (tBM X.K "list" (fun x vs H Q => ∃ l b xs zs, x = .ref l ∧ vs = [.ref b] ∧ H l = some (.lst xs) ∧ H b = some (.tup zs) ∧ xs.length + zs.length ≤ sizeLine ∧ Q .non (upd H l (.lst (xs ++ zs)))) (tVar k) (tCons te tNil))) (h : ∀ w, QE X (C.ext w) a ta) (hs : swapsWith call none pos.line X.env = pure false := by rfl) : QS X C Ow (.Expr call pos) (sExt Ow k ta) := by
  refine ⟨fun H0 w0 => ⟨fun pins sh σ H D I q => ?_⟩, fun ρ D D' ⟨hk, ds, e, q⟩ l => ⟨hk, ds, e, (h fun _ => none).mono _ _ _ (fun d ⟨es, e1, c1, q⟩ => ⟨es, e1, c1, l.1 _ q⟩) q⟩⟩
  obtain ⟨ρ, w, s, hk, ds, e, q⟩ := q
  obtain ⟨b, vs, hw, e1, e2, r⟩ := s.slot hk e
  obtain ⟨he, hj⟩ := s.envX
  refine (ps_expr (hp _ (h w).pe) hs).run pins sh σ H D I ?_
  refine ⟨.ref b, e1, .inl ⟨rfl, vs, .inl (.inl e2)⟩, hide Ow ρ, he, hj, (h w).mono _ _ _ (fun d ⟨es, ed, c1, q⟩ v H' k1 j1 r1 => ?_) q⟩
  subst ed
  have s1 := s.keep (s.keepX k1 j1) j1.1
  obtain ⟨b', vs', hw', e1', e2', r'⟩ := s1.slot hk e
  rw [hw] at hw'
  cases hw'
  cases r1 with
  | @tup c zs _ hH hr => exact ⟨b, c, vs, zs, rfl, rfl, e2', hH, by rw [r'.length, hr.length]; exact c1, q _ _ _ (s1.put hw (r'.app hr))⟩
@[simp] def sExtL (Ow : List Nat) (k : Nat) (t : P0) : P0S := fun D ρ => k ∈ Ow ∧ ∃ ds, ρ[k]? = some (some (.list ds)) ∧ t (hide Ow ρ) fun d => ∃ es, d = .list es ∧ ds.length + es.length ≤ sizeLine ∧ D.nx (ρ.set k (some (.list (ds ++ es))))
theorem qs_extL {k : Nat} {call : Expr} (hp : ∀ te, PE X a te → PE X call (tBM X.K "list" rExtend (tVar k) (tCons te tNil))) (h : ∀ w, QE X (C.ext w) a ta) (hs : swapsWith call none pos.line X.env = pure false := by rfl) : QS X C Ow (.Expr call pos) (sExtL Ow k ta) := by
  refine ⟨fun H0 w0 => ⟨fun pins sh σ H D I q => ?_⟩, fun ρ D D' ⟨hk, ds, e, q⟩ l => ⟨hk, ds, e, (h fun _ => none).mono _ _ _ (fun d ⟨es, e1, c1, q⟩ => ⟨es, e1, c1, l.1 _ q⟩) q⟩⟩
  obtain ⟨ρ, w, s, hk, ds, e, q⟩ := q
  obtain ⟨b, vs, hw, e1, e2, r⟩ := s.slot hk e
  obtain ⟨he, hj⟩ := s.envX
  refine (ps_expr (hp _ (h w).pe) hs).run pins sh σ H D I ?_
  refine ⟨.ref b, e1, .inl ⟨rfl, vs, .inl (.inl e2)⟩, hide Ow ρ, he, hj, (h w).mono _ _ _ (fun d ⟨es, ed, c1, q⟩ v H' k1 j1 r1 => ?_) q⟩
  subst ed
  have s1 := s.keep (s.keepX k1 j1) j1.1
  obtain ⟨b', vs', hw', e1', e2', r'⟩ := s1.slot hk e
  rw [hw] at hw'
  cases hw'
  cases r1 with
  | @lst c zs _ n1 n2 hH hr => exact ⟨b, c, vs, zs, rfl, rfl, e2', hH, by rw [r'.length, hr.length]; exact c1, q _ _ _ (s1.put hw (r'.app hr))⟩
/-! target = x.pop() -/
@[simp] def sPop (Ow : List Nat) (k : Nat) (dec : Dec) : P0S := fun D ρ => k ∈ Ow ∧ ∃ ds d l, ρ[k]? = some (some (.list (ds ++ [d]))) ∧ dec d = some l ∧ (∀ p ∈ l, p.1 ∉ Ow) ∧ D.nx (setsR (ρ.set k (some (.list ds))) l)
theorem dq_last {w : Own} {H : Hp} : ∀ {vs : List V} {ds : List PyData} {d : PyData}, DqAll (C.ext w) H vs (ds ++ [d]) → ∃ v us, vs = us ++ [v] ∧ Dq (C.ext w) H v d ∧ DqAll (C.ext w) H us ds
  | _, [], _, .cons (v := v) h .nil => ⟨v, [], rfl, h, .nil⟩
  | _, e :: ds, d, .cons (v := u) h t => by
    obtain ⟨v, us, e1, r1, r2⟩ := dq_last t
    exact ⟨v, u :: us, by rw [e1]; rfl, r1, .cons h r2⟩
theorem qs_pop {k : Nat} {call tg : Expr} {G : TG} {dec : Dec} (hp : PE X call (tBM0 X.K "list" rPop (tVar k))) (hg : ∀ w, QG X X.K (C.ext w) tg G dec) (hs : swapsWithSole [tg] call pos.line X.env = pure false := by rfl) (hw : swappedStores [tg] call X.env = pure none := by rfl) (h1 : (assignEach [tg] X.env).map (·.2) = [assign tg X.env] := by rfl) :
    QS X C Ow (.Assign [tg] call pos) (sPop Ow k dec) := by
  refine ⟨fun H0 w0 => PS.weak (ps_asg hp (hg fun _ => none).pg hs hw h1) fun D σ H q => ?_, fun ρ D D' ⟨hk, ds, d, m, e, e2, c, q⟩ l => ⟨hk, ds, d, m, e, e2, c, l.1 _ q⟩⟩
  obtain ⟨ρ, w, s, hk, ds, d, l, e, e3, c, q⟩ := q
  obtain ⟨b, vs, hw, e1, e2, r⟩ := s.slot hk e
  obtain ⟨v, us, rfl, r1, r2⟩ := dq_last r
  refine ⟨.ref b, e1, .inl ⟨rfl, _, .inl (.inl e2)⟩, b, _, v, rfl, rfl, e2, by simp, ?_⟩
  rw [List.dropLast_concat]
  have s1 := s.put hw r2
  have r3 : Dq (C.ext (putW w k (b, us))) (upd H b (.lst us)) v d := by
    have kD : Kx (C.ext w) H (upd H b (.lst us)) := ⟨fun c xs ec => by rw [upd_ne (ne_of ec e2 (by intro z; cases z))]; exact ec, fun c o m ec => by rw [upd_ne (fun z => m (.inr ⟨k, us ++ [v], by rw [z]; exact hw⟩))]; exact ec⟩
    refine Dq.sub (C := C.ext w) (C' := C.ext (putW w k (b, us))) (fun c m => ?_) (fun z => z) rfl (r1.keep kD)
    rcases m with m | ⟨i, xs, ei⟩
    · exact .inl m
    · by_cases hi : i = k
      · rw [hi, putW_same] at ei
        cases ei
        exact .inr ⟨k, _, hw⟩
      · rw [putW_ne hi] at ei
        exact .inr ⟨i, xs, ei⟩
  exact (hg _).go _ σ v d l _ r3 e3 fun ws hv => q _ _ _ (SOk.setsX _ _ _ _ s1 c hv)
/-! a def -/
@[simp] def startR (N : List Str) (ds : List PyData) : Rho := ds.map some ++ List.replicate (N.length - ds.length) none
end
section
variable {P : Program} {w : World} {K : PySem.W.Frag} {mg : Str → Option Value} {base : Heap}
theorem start_at {C : Cz} {H : Hp} {N : List Str} : ∀ {vs : List V} {ds : List PyData}, DqAll C H vs ds → ∀ (n : Nat) (i : Nat) (d : PyData), (ds.map some ++ List.replicate n (none : Option PyData))[i]? = some (some d) → i < ds.length ∧ ∃ v, (vs.map some ++ List.replicate n (none : Option V))[i]? = some (some v) ∧ Dq C H v d
  | _, _, .nil, n, i, d, e => by
    simp only [List.map_nil, List.nil_append] at e
    by_cases hi : i < n
    · rw [List.getElem?_replicate_of_lt hi] at e
      cases e
    · rw [List.getElem?_eq_none (by simp; omega)] at e
      cases e
  | _, _, .cons (v := v) h t, n, 0, d, e => by
    simp at e
    subst e
    exact ⟨by simp, v, rfl, h⟩
  | _, _, .cons (v := v) h t, n, i + 1, d, e => by
    obtain ⟨h1, u, h2, h3⟩ := start_at (N := N) t n i d (by simpa using e)
    exact ⟨by simp; omega, u, by simpa using h2, h3⟩
theorem defQ {x qual : Str} {st : Stmt} {f : Addr} {fd : FuncData} {N ps : List Str} {k : Nat} {G : Cz → Prop} {pre : List PyData → Prop} {res : List PyData → PyData → Prop} (Ow : List Nat) (F : Fun K x qual st f fd) (S : FnScope N ps (defScope st)) (hlen : ∀ ds, pre ds → ds.length = ps.length) (hOw : ∀ i ∈ Ow, ps.length ≤ i)
    (body : ∀ (C : Cz), G C → ∀ (cdv : Value) (A : Around) (outer : List Env) (s : Shared) (H : Hp) (E : XK), Room k (A.deeper (envOfC qual (defScope st) s.heap.objs.size f cdv)) →
      ∃ ts, QSs (cxOf CX0 P w K mg base N qual (defScope st) f cdv A outer s H E).nox C Ow (defBody st) ts ∧ ∀ ds, pre ds → ts { nx := fun _ => res ds .none, rt := res ds } (startR N ds)) :
    FnOk P w K mg base CX0 (k + 1) f fd ps (spQ G pre res) := by
  refine F.ok S (fun vs H Q E h => ?_) (fun cdv A outer s H vs Q E hr h => ?_)
  · obtain ⟨C, ds, _, r, _, hp, _⟩ := h
    rw [r.length]
    exact hlen ds hp
  · obtain ⟨C, ds, hG, r, j, hp, hq⟩ := h
    obtain ⟨ts, hs, pure⟩ := body C hG cdv A outer s H E hr
    have hl := r.length
    have hd := hlen ds hp
    refine ⟨_, hs.ps H (fun _ => none), startR N ds, fun _ => none, ?_, hs.mono _ _ _ (pure ds hp) ⟨fun ρ q σ' H' w' s' => ?_, fun d q v H' k1 j1 r1 => ?_, fun _ q => False.elim q, fun _ q => False.elim q⟩⟩
    · refine { len := by simp [startR, L2.start, hl], j := j, k := St.refl, inj := fun i j b xs ys e => (by cases e), dom := fun i b xs e => (by cases e), all := fun i hi he => ?_, at_ := fun i d hi he => ?_ }
      · obtain ⟨d, he⟩ := he
        have h1 := (start_at (N := N) r _ i d he).1
        have h2 := hOw i hi
        omega
      · obtain ⟨_, v, h2, h3⟩ := start_at (N := N) r _ i d he
        refine ⟨v, ?_, Dq.sub (C := C) (C' := C.ext fun _ => none) (fun b m => ?_) (fun z => z) rfl h3⟩
        · show (vs.map some ++ List.replicate (N.length - vs.length) none)[i]? = _
          rw [hl]
          exact h2
        · rcases m with m | ⟨i, xs, e⟩
          · exact m
          · cases e
    · exact hq _ q .non H' ⟨s'.k.1, fun b o m e => (s'.k.2 b o m (fun i vs z => by cases z) e).1⟩ s'.j .non
    · exact hq d q v H' ⟨k1.1, fun b o m e => k1.2 b o m (fun i vs z => by cases z) e⟩ j1 r1
end
end Kq

set_option Elab.async false
set_option linter.all false
set_option maxRecDepth 100000
set_option maxHeartbeats 4000000
namespace Kq
open PySem PySem.Spec PyProof.Rows L2
section
variable {X : Cx} {C : Cz}
/-! ints -/
theorem oq_int {f : Value → Value → Sem Value} {c : Int → Int → Prop} {g : Int → Int → V} (h : Int → Int → PyData) (ho : OpR X f (rI c g)) (hg : ∀ H i j, Dq C H (g i j) (h i j)) : OQ X C f (fun d1 d2 Q => ∃ i j, d1 = .int i ∧ d2 = .int j ∧ c i j ∧ Q (h i j)) := by
  refine ⟨fun pins s σ H x y v u Q I rx ry q => ?_, fun x y Q Q' w ⟨i, j, e1, e2, c, q⟩ => ⟨i, j, e1, e2, c, w _ q⟩⟩
  obtain ⟨d1, d2, r1, r2, jj, i, j, rfl, rfl, cc, q⟩ := q
  cases r1
  cases r2
  exact ho pins s σ H _ _ v u Q I rx ry ⟨i, j, rfl, rfl, cc, q _ H Kx.refl jj (hg H i j)⟩
theorem oq_int0 {f : Value → Value → Sem Value} {g : Int → Int → V} (h : Int → Int → PyData) (ho : OpR X f (rI0 g)) (hg : ∀ H i j, Dq C H (g i j) (h i j)) : OQ X C f (fun d1 d2 Q => ∃ i j, d1 = .int i ∧ d2 = .int j ∧ Q (h i j)) := by
  refine ⟨fun pins s σ H x y v u Q I rx ry q => ?_, fun x y Q Q' w ⟨i, j, e1, e2, q⟩ => ⟨i, j, e1, e2, w _ q⟩⟩
  obtain ⟨d1, d2, r1, r2, jj, i, j, rfl, rfl, q⟩ := q
  cases r1
  cases r2
  exact ho pins s σ H _ _ v u Q I rx ry ⟨i, j, rfl, rfl, q _ H Kx.refl jj (hg H i j)⟩
@[simp] def rMul : R0 := fun d1 d2 Q => ∃ i j, d1 = .int i ∧ d2 = .int j ∧ CMul i j ∧ Q (.int (i * j))
@[simp] def rMod : R0 := fun d1 d2 Q => ∃ i j, d1 = .int i ∧ d2 = .int j ∧ 0 < j ∧ Q (.int (i % j))
@[simp] def rDiv : R0 := fun d1 d2 Q => ∃ i j, d1 = .int i ∧ d2 = .int j ∧ CDiv i j ∧ Q (.int (i / j))
@[simp] def rPow : R0 := fun d1 d2 Q => ∃ i j, d1 = .int i ∧ d2 = .int j ∧ CPow i j ∧ Q (.int (i ^ j.toNat))
@[simp] def rCmp (p : Int → Int → Bool) : R0 := fun d1 d2 Q => ∃ i j, d1 = .int i ∧ d2 = .int j ∧ Q (.bool (p i j))
theorem oq_mul : OQ X C (binaryOp .Mult) rMul := oq_int _ op_mul fun _ _ _ => .int _
theorem oq_mod : OQ X C (binaryOp .Mod) rMod := oq_int _ op_mod fun _ _ _ => .int _
theorem oq_div : OQ X C (binaryOp .FloorDiv) rDiv := oq_int _ op_fdiv fun _ _ _ => .int _
theorem oq_pow : OQ X C (binaryOp .Pow) rPow := oq_int _ op_pow fun _ _ _ => .int _
theorem oq_lt : OQ X C (compareOp .Lt) (rCmp fun i j => decide (i < j)) := oq_int0 _ op_lt fun _ _ _ => .bl _
theorem oq_le : OQ X C (compareOp .LtE) (rCmp fun i j => decide (i ≤ j)) := oq_int0 _ op_le fun _ _ _ => .bl _
theorem oq_gt : OQ X C (compareOp .Gt) (rCmp fun i j => decide (j < i)) := oq_int0 _ op_gt fun _ _ _ => .bl _
theorem oq_ge : OQ X C (compareOp .GtE) (rCmp fun i j => decide (j ≤ i)) := oq_int0 _ op_ge fun _ _ _ => .bl _
/-- numbers and truths -/
@[simp] def numD : PyData → Option Int
  | .int i => some i
  | .bool b => some (if b then 1 else 0)
  | _ => none
@[simp] def rSub : R0 := fun d1 d2 Q => ∃ i j, numD d1 = some i ∧ numD d2 = some j ∧ (isB d1 && isB d2) = false ∧ Q (.int (i - j))
where isB : PyData → Bool
  | .bool _ => true
  | _ => false
theorem oq_sub : OQ X C (binaryOp .Sub) rSub := by
  refine ⟨fun pins s σ H x y v u Q I rx ry q => ?_, fun x y Q Q' w ⟨i, j, e1, e2, c, q⟩ => ⟨i, j, e1, e2, c, w _ q⟩⟩
  obtain ⟨d1, d2, r1, r2, jj, i, j, e1, e2, c, q⟩ := q
  cases r1 with
  | int a =>
    cases e1
    cases r2 with
    | int b =>
      cases e2
      exact op_sub pins s σ H _ _ v u Q I rx ry ⟨_, _, rfl, rfl, q _ H Kx.refl jj (.int _)⟩
    | bl b =>
      cases e2
      obtain ⟨t, rfl⟩ := rx
      cases ry
      exact IntBool.sub_int_bool ⟨.int _, H, I.tok _, ⟨_, rfl⟩, q _ H Kx.refl jj (.int _)⟩
    | _ => cases e2
  | bl a =>
    cases e1
    cases r2 with
    | int b =>
      cases e2
      cases rx
      obtain ⟨t, rfl⟩ := ry
      exact IntBool.sub_bool_int ⟨.int _, H, I.tok _, ⟨_, rfl⟩, q _ H Kx.refl jj (.int _)⟩
    | bl b => cases c
    | _ => cases e2
  | _ => cases e1
/-! + -/
@[simp] def rAdd : R0 := fun d1 d2 Q => match d1, d2 with
  | .int i, .int j => Q (.int (i + j))
  | .bool a, .int j => Q (.int ((if a = true then (1 : Int) else 0) + j))
  | .str a, .str b => a.length + b.length ≤ sizeLine ∧ Q (.str (a ++ b))
  | .list xs, .list ys => xs.length + ys.length ≤ sizeLine ∧ Q (.list (xs ++ ys))
  | .tuple xs, .tuple ys => xs.length + ys.length ≤ sizeLine ∧ Q (.tuple (xs ++ ys))
  | _, _ => False
theorem rAdd_mono (x y : PyData) (Q Q' : PyData → Prop) (w : ∀ d, Q d → Q' d) (h : rAdd x y Q) : rAdd x y Q' := by
  cases x <;> cases y <;> first | exact h.elim | exact ⟨h.1, w _ h.2⟩ | exact w _ h
theorem op_catS : OpR X (binaryOp .Add) (fun x y H Q => ∃ l b xs zs, x = .ref l ∧ y = .ref b ∧ H l = some (.lst xs) ∧ H b = some (.lst zs) ∧ xs.length + zs.length ≤ sizeLine ∧ ∀ p, H p = none → p ≠ sysModules → Q (.ref p) (upd H p (.lst (xs ++ zs)))) :=
  fun pins s σ H x y v u Q I rx ry ⟨l, b, xs, zs, ex, ey, h1, h2, hz, q⟩ => by
    subst ex ey
    obtain rfl : v = Value.ref l := rx
    obtain rfl : u = Value.ref b := ry
    obtain ⟨_, i1, n1, r1, l1, o1⟩ := I.lstM h1
    obtain ⟨_, i2, n2, r2, l2, o2⟩ := I.lstM h2
    have hs : i1.toArray.size + i2.toArray.size ≤ sizeLine := by
      rw [List.size_toArray, List.size_toArray]
      omega
    refine PySem.P.add_list o1 o2 ?_ hs
    rw [show i1.toArray ++ i2.toArray = (i1 ++ i2).toArray by simp]
    exact ⟨.ref _, _, I.lnew (t' := s.toks) (r1.append r2) (by rw [List.length_append]; exact hz), rfl, q _ I.fresh (Nat.ne_of_gt I.big)⟩
theorem oq_add : OQ X C (binaryOp .Add) rAdd := by
  refine ⟨fun pins s σ H x y v u Q I rx ry q => ?_, rAdd_mono⟩
  obtain ⟨d1, d2, r1, r2, jj, q⟩ := q
  cases r1 with
  | int a =>
    cases r2 with
    | int b => exact op_add pins s σ H _ _ v u Q I rx ry ⟨_, _, rfl, rfl, q _ H Kx.refl jj (.int _)⟩
    | _ => exact q.elim
  | bl a =>
    cases r2 with
    | int b =>
      cases rx
      obtain ⟨t, rfl⟩ := ry
      exact IntBool.add_bool_int ⟨.int _, H, I.tok _, ⟨_, rfl⟩, q _ H Kx.refl jj (.int _)⟩
    | _ => exact q.elim
  | str a =>
    cases r2 with
    | str b => exact op_add_str pins s σ H _ _ v u Q I rx ry ⟨_, _, rfl, rfl, q.1, q.2 _ H Kx.refl jj (.str _)⟩
    | _ => exact q.elim
  | @lst l xs ds m1 s1 h1 a1 =>
    cases r2 with
    | @lst b ys es m2 s2 h2 a2 =>
      refine op_catS pins s σ H _ _ v u Q I rx ry ⟨l, b, xs, ys, rfl, rfl, h1, h2, by rw [a1.length, a2.length]; exact q.1, fun p np hs => ?_⟩
      have sm := same_upd (o := .lst (xs ++ ys)) np
      exact q.2 _ _ (kxSame sm) (C.same _ _ sm jj) (.lst (freshM C jj np) (fun z => absurd z hs) upd_same ((a1.app a2).keep (kxSame sm)))
    | _ => exact q.elim
  | @tup a xs ds h1 a1 =>
    cases r2 with
    | @tup b ys es h2 a2 =>
      have l1 := a1.length
      have l2 := a2.length
      refine op_catA pins s σ H _ _ v u Q I rx ry ⟨a, b, xs, ys, rfl, rfl, .inl (.inl h1), .inl (.inl h2), by rw [l1, l2]; exact q.1, fun e => ?_, fun _ e => ?_, fun _ _ p np => ?_⟩
      · subst e
        cases a1
        exact q.2 _ H Kx.refl jj (.tup h2 a2)
      · subst e
        cases a2
        have q2 := q.2
        rw [List.append_nil] at q2
        exact q2 _ H Kx.refl jj (.tup h1 a1)
      · have sm := same_upd (o := .tup (xs ++ ys)) np
        exact q.2 _ _ (kxSame sm) (C.same _ _ sm jj) (.tup upd_same ((a1.app a2).keep (kxSame sm)))
    | _ => exact q.elim
  | _ => exact q.elim
/-! texts compared -/
@[simp] def rLeS : R0 := fun d1 d2 Q => ∃ i j, d1 = .str i ∧ d2 = .str j ∧ Q (.bool (!decide (j.cps.toList < i.cps.toList)))
theorem oq_leS : OQ X C (compareOp .LtE) rLeS := by
  refine ⟨fun pins s σ H x y v u Q I rx ry q => ?_, fun x y Q Q' w ⟨i, j, e1, e2, q⟩ => ⟨i, j, e1, e2, w _ q⟩⟩
  obtain ⟨d1, d2, r1, r2, jj, i, j, rfl, rfl, q⟩ := q
  cases r1
  cases r2
  exact op_le_str pins s σ H _ _ v u Q I rx ry ⟨i, j, rfl, rfl, q _ H Kx.refl jj (.bl _)⟩
@[simp] def rLtS : R0 := fun d1 d2 Q => ∃ i j, d1 = .str i ∧ d2 = .str j ∧ Q (.bool (decide (i.cps.toList < j.cps.toList)))
theorem oq_ltS : OQ X C (compareOp .Lt) rLtS := by
  refine ⟨fun pins s σ H x y v u Q I rx ry q => ?_, fun x y Q Q' w ⟨i, j, e1, e2, q⟩ => ⟨i, j, e1, e2, w _ q⟩⟩
  obtain ⟨d1, d2, r1, r2, jj, i, j, rfl, rfl, q⟩ := q
  cases r1
  cases r2
  exact op_lt_str pins s σ H _ _ v u Q I rx ry ⟨i, j, rfl, rfl, q _ H Kx.refl jj (.bl _)⟩
/-! == -/
mutual
theorem Dq.dp {K : PySem.W.Frag} {H : Hp} : ∀ {v : V} {t : PyData}, t.canLay0 = true → Dq C H v t → Dp K H v t
  | _, _, _, .non => .non
  | _, _, _, .bl b => .bl b
  | _, _, _, .int i => .int i
  | _, _, _, .str x => .str x
  | _, _, e, .lst _ _ h r => .lst (.inl (.inl h)) (DqAll.dp (by simpa [PyData.canLay0] using e) r)
  | _, _, e, .tup h r => .tup (.inl (.inl h)) (DqAll.dp (by simpa [PyData.canLay0] using e) r)
  | _, _, e, .dct _ _ _ => by simp [PyData.canLay0] at e
  | _, _, e, .tok _ => by simp [PyData.canLay0, tokD] at e
theorem DqAll.dp {K : PySem.W.Frag} {H : Hp} : ∀ {vs : List V} {ts : List PyData}, PyData.canLayAll0 ts = true → DqAll C H vs ts → DpAll K H vs ts
  | _, _, _, .nil => .nil
  | _, _, e, .cons h r => by
    have e' : (PyData.canLay0 _ && PyData.canLayAll0 _) = true := e
    rw [Bool.and_eq_true] at e'
    exact .cons (Dq.dp e'.1 h) (DqAll.dp e'.2 r)
end
def shp (d : PyData) : Bool := SeqAt.shaped d
@[simp] def rEq : R0 := fun d1 d2 Q => shp d1 = true ∧ shp d2 = true ∧ Q (.bool (PyData.eqv d1 d2))
@[simp] def rNe : R0 := fun d1 d2 Q => shp d1 = true ∧ shp d2 = true ∧ Q (.bool (!PyData.eqv d1 d2))
theorem oq_eq (hu : X.A.units + 64 < cLine) : OQ X C (compareOp .Eq) rEq :=
  ⟨fun pins s σ H x y v u Q I rx ry ⟨d1, d2, r1, r2, jj, s1, s2, q⟩ => op_eqD hu pins s σ H _ _ v u Q I rx ry ⟨d1, d2, r1.dp (SeqAt.canLay_of_shaped s1), r2.dp (SeqAt.canLay_of_shaped s2), s1, s2, q _ H Kx.refl jj (.bl _)⟩,
    fun x y Q Q' w ⟨a, b, q⟩ => ⟨a, b, w _ q⟩⟩
theorem oq_ne (hu : X.A.units + 64 < cLine) : OQ X C (compareOp .NotEq) rNe :=
  ⟨fun pins s σ H x y v u Q I rx ry ⟨d1, d2, r1, r2, jj, s1, s2, q⟩ => op_neD hu pins s σ H _ _ v u Q I rx ry ⟨d1, d2, r1.dp (SeqAt.canLay_of_shaped s1), r2.dp (SeqAt.canLay_of_shaped s2), s1, s2, q _ H Kx.refl jj (.bl _)⟩,
    fun x y Q Q' w ⟨a, b, q⟩ => ⟨a, b, w _ q⟩⟩
/-! subscripts -/
@[simp] def ixD (d : PyData) (i : Int) : Option PyData := match d with
  | .list ds => atI ds i
  | .tuple ds => atI ds i
  | .str z => if z.length ≤ sizeLine then (atI z.cps.toList i).map fun c => .str ⟨#[c]⟩ else none
  | _ => none
theorem DqAll.atI {H : Hp} {vs : List V} {ds : List PyData} {i : Int} {d : PyData} (r : DqAll C H vs ds) (e : L2.atI ds i = some d) : ∃ v, L2.atI vs i = some v ∧ Dq C H v d := by
  unfold L2.atI at e ⊢
  rw [r.length]
  cases h : ixN ds.length i with
  | none =>
    rw [h] at e
    cases e
  | some j =>
    rw [h] at e
    obtain ⟨v, e1, q⟩ := r.get (show ds[j]? = some d from e)
    exact ⟨v, e1, q⟩
@[simp] def rIx : R0 := fun d1 d2 Q => ∃ i d, d2 = .int i ∧ ixD d1 i = some d ∧ Q d
@[simp] def vIx (ta tb : P0) : P0 := vOp rIx ta tb
theorem iq_ix : IxR X (lO C rIx) := by
  intro value slice pins s σ H x y v u Q I rx ry q hsub
  obtain ⟨d1, d2, r1, r2, jj, i, d, rfl, e, q⟩ := q
  cases r2
  cases r1 with
  | lst _ _ h r =>
    obtain ⟨v1, e1, rv⟩ := r.atI e
    exact ix_list value slice pins s σ H _ _ v u Q I rx ry ⟨_, _, i, v1, rfl, rfl, .inl (.inl h), e1, q _ H Kx.refl jj rv⟩ hsub
  | tup h r =>
    obtain ⟨v1, e1, rv⟩ := r.atI e
    exact ix_tup value slice pins s σ H _ _ v u Q I rx ry ⟨_, _, i, v1, rfl, rfl, .inl (.inl h), e1, q _ H Kx.refl jj rv⟩ hsub
  | str z =>
    have e' : (if z.length ≤ sizeLine then (L2.atI z.cps.toList i).map fun c => PyData.str ⟨#[c]⟩ else none) = some d := e
    by_cases hz : z.length ≤ sizeLine
    · rw [if_pos hz] at e'
      obtain ⟨c, e1, rfl⟩ := Option.map_eq_some_iff.mp e'
      exact ix_str value slice pins s σ H _ _ v u Q I rx ry ⟨z, i, c, rfl, rfl, hz, e1, q _ H Kx.refl jj (.str _)⟩ hsub
    · rw [if_neg hz] at e'
      cases e'
  | _ => cases e
theorem qe_ix {a b : Expr} {ta tb : P0} {pos : Pos} (ha : QE X C a ta) (hb : QE X C b tb) (hs : PlainIx b) : QE X C (.Subscript a b pos) (vIx ta tb) := by
  have mo : ∀ x y Q Q', (∀ d, Q d → Q' d) → rIx x y Q → rIx x y Q' := fun x y Q Q' w ⟨i, d, e1, e2, q⟩ => ⟨i, d, e1, e2, w _ q⟩
  refine ⟨PE.weak (pe_ix (iq_ix (C := C)) ha.pe hb.pe hs) fun σ H Q h => ?_, fun ρ Q Q' w h => ha.mono _ _ _ (fun d1 h => hb.mono _ _ _ (fun d2 h => mo _ _ _ _ w h) h) h⟩
  obtain ⟨ρ, he, j, h⟩ := h
  refine ⟨ρ, he, j, ha.mono _ _ _ (fun d1 h1 v H1 k1 j1 r1 => ?_) h⟩
  refine ⟨ρ, he.keep k1, j1, hb.mono _ _ _ (fun d2 h2 w H2 k2 j2 r2 => ?_) h1⟩
  exact ⟨d1, d2, r1.keep k2, r2, j2, mo _ _ _ _ (fun d q => q.up (k1.trans k2)) h2⟩
end
end Kq

set_option Elab.async false
set_option linter.all false
set_option maxRecDepth 100000
set_option maxHeartbeats 4000000
namespace Kq
open PySem PySem.Spec PyProof.Rows L2
/-! slices -/
def cutG {α : Type} (xs : List α) (lo hi : Option Int) : List α := (xs.drop (HT.sIx xs.length 0 lo)).take (HT.sIx xs.length xs.length hi - HT.sIx xs.length 0 lo)
abbrev P0O := Rho → (Option Int → Prop) → Prop
section
variable {X : Cx} {C : Cz} {a b c : Expr} {ta tb : P0} {tA : P0T} {pos : Pos}
theorem DqAll.cut {H : Hp} {vs : List V} {ds : List PyData} (r : DqAll C H vs ds) (lo hi : Option Int) : DqAll C H (cutV vs lo hi) (cutG ds lo hi) := by
  unfold cutV cutG
  rw [r.length]
  exact (r.drop _).take _
structure QO (X : Cx) (C : Cz) (e : Option Expr) (t : P0O) : Prop where
  po : ∃ T, PO X e T ∧ ∀ σ H Q, (∃ ρ, EnvOk C H σ ρ ∧ C.J H ∧ t ρ fun o => ∀ H', Kx C H H' → C.J H' → Q o H') → T σ H Q
  mono : ∀ ρ Q Q', (∀ d, Q d → Q' d) → t ρ Q → t ρ Q'
theorem qo_none : QO X C none (fun _ Q => Q none) := ⟨⟨_, po_none, fun σ H Q ⟨ρ, he, j, q⟩ => q H Kx.refl j⟩, fun _ _ _ w q => w _ q⟩
theorem qo_some (h : QE X C a ta) : QO X C (some a) (fun ρ Q => ta ρ fun d => ∃ i, d = .int i ∧ Q (some i)) := by
  refine ⟨⟨_, po_some h.pe, fun σ H Q ⟨ρ, he, j, q⟩ => ⟨ρ, he, j, h.mono _ _ _ (fun d ⟨i, e, q⟩ v H' k j' r => ?_) q⟩⟩, fun ρ Q Q' w q => h.mono _ _ _ (fun d ⟨i, e, q⟩ => ⟨i, e, w _ q⟩) q⟩
  subst e
  cases r
  exact ⟨i, rfl, q H' k j'⟩
@[simp] def slD (lax : Bool) (d : PyData) (lo hi : Option Int) : Option PyData := match d with
  | .tuple ds => some (.tuple (cutG ds lo hi))
  | .list ds => if lax then some (.list (cutG ds lo hi)) else none
  | .str z => if z.length ≤ sizeLine then some (.str (cutS z lo hi)) else none
  | _ => none
theorem cut_all {α : Type} {xs : List α} {lo hi : Option Int} (h : HT.sIx xs.length 0 lo = 0 ∧ HT.sIx xs.length xs.length hi = xs.length) : cutG xs lo hi = xs := by
  unfold cutG
  rw [h.1, h.2, List.drop_zero, Nat.sub_zero, List.take_length]
theorem sq_sl (lax : Bool) (lx : lax = true → C.lax) : SlR X (fun x lo hi H Q => ∃ d e, Dq C H x d ∧ C.J H ∧ slD lax d lo hi = some e ∧ Kn C H Q e) := by
  intro pins s σ H x v vl vu lo hi sl Q I rx hs pl pu q
  obtain ⟨d, e, r, j, he, q⟩ := q
  cases r with
  | @tup a xs ds h r =>
    cases he
    refine sl_tupA pins s σ H _ v vl vu lo hi sl Q I rx hs pl pu ⟨a, xs, rfl, .inl (.inl h), fun z => ?_, fun _ p np => ?_⟩
    · have hz : cutG ds lo hi = ds := cut_all (by rw [← r.length]; exact z)
      rw [hz] at q
      exact q _ H Kx.refl j (.tup h r)
    · have sm := same_upd (o := .tup (cutV xs lo hi)) np
      exact q _ _ (kxSame sm) (C.same _ _ sm j) (.tup upd_same ((r.cut lo hi).keep (kxSame sm)))
  | @lst a xs ds m1 m2 h r =>
    have he' : (if lax = true then some (PyData.list (cutG ds lo hi)) else none) = some e := he
    cases lax with
    | false => cases he'
    | true =>
      cases he'
      refine sl_list pins s σ H _ v vl vu lo hi sl Q I rx hs pl pu ⟨a, xs, rfl, .inl (.inl h), fun p np => ?_⟩
      have sm := same_upd (o := .lst (cutV xs lo hi)) np
      exact q _ _ (kxSame sm) (C.same _ _ sm j) (.lst (freshM C j np) (fun _ => lx rfl) upd_same ((r.cut lo hi).keep (kxSame sm)))
  | str z =>
    have he' : (if z.length ≤ sizeLine then some (PyData.str (cutS z lo hi)) else none) = some e := he
    by_cases hz : z.length ≤ sizeLine
    · rw [if_pos hz] at he'
      cases he'
      exact sl_str pins s σ H _ v vl vu lo hi sl Q I rx hs pl pu ⟨z, rfl, hz, q _ H Kx.refl j (.str _)⟩
    · rw [if_neg hz] at he'
      cases he'
  | _ => cases he
@[simp] def vSl (lax : Bool) (ta : P0) (tl th : P0O) : P0 := fun ρ Q => ta ρ fun d => tl ρ fun lo => th ρ fun hi => ∃ e, slD lax d lo hi = some e ∧ Q e
theorem qe_slice (lax : Bool) (lx : lax = true → C.lax) {lo hi : Option Expr} {tl th : P0O} {p2 : Pos} (ha : QE X C a ta) (hl : QO X C lo tl) (hh : QO X C hi th) : QE X C (.Subscript a (.Slice lo hi none p2) pos) (vSl lax ta tl th) := by
  obtain ⟨Tl, pl, gl⟩ := hl.po
  obtain ⟨Th, ph, gh⟩ := hh.po
  refine ⟨PE.weak (pe_slice (sq_sl (C := C) lax lx) ha.pe pl ph) fun σ H Q h => ?_, fun ρ Q Q' w h => ha.mono _ _ _ (fun d h => hl.mono _ _ _ (fun lo h => hh.mono _ _ _ (fun hi ⟨e, z, q⟩ => ⟨e, z, w _ q⟩) h) h) h⟩
  obtain ⟨ρ, he, j, h⟩ := h
  refine ⟨ρ, he, j, ha.mono _ _ _ (fun d h1 v H1 k1 j1 r1 => ?_) h⟩
  refine gl σ H1 _ ⟨ρ, he.keep k1, j1, hl.mono _ _ _ (fun lo h2 H2 k2 j2 => ?_) h1⟩
  refine gh σ H2 _ ⟨ρ, (he.keep k1).keep k2, j2, hh.mono _ _ _ (fun hi h3 H3 k3 j3 => ?_) h2⟩
  obtain ⟨e, z, q⟩ := h3
  exact ⟨d, e, (r1.keep k2).keep k3, j3, z, q.up (k1.trans (k2.trans k3))⟩
/-! isinstance -/
@[simp] def tyD : PyData → String
  | .none => "NoneType"
  | .bool _ => "bool"
  | .int _ => "int"
  | .str _ => "str"
  | .list _ => "list"
  | .tuple _ => "tuple"
  | .dict _ => "dict"
def isTok : PyData → Bool
  | .dict ((.none, _) :: _) => true
  | _ => false
theorem Dq.tyx {K : PySem.W.Frag} {H : Hp} {v : V} {t : PyData} (ht : isTok t = false) (h : Dq C H v t) : TyX K H v (.type (tyD t)) := by
  cases h with
  | non => exact .base .non
  | bl b => exact .base (.bl b)
  | int i => exact .base (.int i)
  | str x => exact .base (.str x)
  | lst _ _ h _ => exact .base (.lst h)
  | tup h _ => exact .base (.tup h)
  | dct _ h _ => exact .base (.dK h)
  | tok h => cases ht
@[simp] def isiD (T : String) (d : PyData) : Bool := tyD d == T || (T == "int" && tyD d == "bool")
theorem kits (T : String) (hT : T = "int" ∨ T = "bool" ∨ T = "tuple" ∨ T = "str" ∨ T = "list" ∨ T = "dict") (d : PyData) : kitB (tyD d) T = some (isiD T d) := by
  rcases hT with rfl | rfl | rfl | rfl | rfl | rfl <;> cases d <;> (show kitB _ _ = _) <;> (simp only [isiD, tyD]; decide +kernel)
@[simp] def vIsi (T : String) (ta : P0) : P0 := fun ρ Q => ta ρ fun d => isTok d = false ∧ Q (.bool (isiD T d))
theorem qe_isi (T : String) {x : Str} {p p2 : Pos} (hT : T = "int" ∨ T = "bool" ∨ T = "tuple" ∨ T = "str" ∨ T = "list" ∨ T = "dict") (hc : ∀ (tv : TE), PE X a tv → PE X (.Call (.Name "isinstance" p) [a, .Name x p2] [] pos) (tCB (rIsi X.K) (tCons tv (tCons (tC (.ty T)) tNil)))) (ha : QE X C a ta) : QE X C (.Call (.Name "isinstance" p) [a, .Name x p2] [] pos) (vIsi T ta) := by
  refine ⟨PE.weak (hc _ ha.pe) fun σ H Q h => ?_, fun ρ Q Q' w h => ha.mono _ _ _ (fun d q => ⟨q.1, w _ q.2⟩) h⟩
  obtain ⟨ρ, he, j, h⟩ := h
  exact ⟨ρ, he, j, ha.mono _ _ _ (fun d q v H1 k1 j1 r1 => ⟨v, .ty T, _, _, _, rfl, .ty _, r1.tyx q.1, kit_ty (kits T hT d), q.2 _ H1 k1 j1 (.bl _)⟩) h⟩
/-! len, list, tuple, all, any -/
@[simp] def lenD : PyData → Option Nat
  | .list ds => some ds.length
  | .tuple ds => some ds.length
  | .str z => if z.length ≤ sizeLine then some z.length else none
  | _ => none
@[simp] def fLen : Fr := fun ds Q => ∃ d n, ds = [d] ∧ lenD d = some n ∧ Q (.int n)
theorem cq_len : CQ X C (.builtin "len") fLen := by
  refine ⟨fun pins s σ H xs us Q I r q => ?_, fun x Q Q' w ⟨d, n, e1, e2, q⟩ => ⟨d, n, e1, e2, w _ q⟩⟩
  obtain ⟨ds, hr, j, d, n, rfl, e, q⟩ := q
  cases hr with
  | cons h t =>
    cases t
    cases h with
    | lst _ _ h1 r1 =>
      cases e
      exact call_len_seq pins s σ H _ us Q I r ⟨_, _, rfl, .inl (.inl (.inl h1)), by rw [r1.length]; exact q _ H Kx.refl j (.int _)⟩
    | tup h1 r1 =>
      cases e
      exact call_len_seq pins s σ H _ us Q I r ⟨_, _, rfl, .inr (.inl (.inl h1)), by rw [r1.length]; exact q _ H Kx.refl j (.int _)⟩
    | str z =>
      have e' : (if z.length ≤ sizeLine then some z.length else none) = some n := e
      by_cases hz : z.length ≤ sizeLine
      · rw [if_pos hz] at e'
        cases e'
        exact call_len_str pins s σ H _ us Q I r ⟨z, rfl, hz, q _ H Kx.refl j (.int _)⟩
      · rw [if_neg hz] at e'
        cases e'
    | _ => cases e
@[simp] def fTuple : Fr := fun ds Q => ∃ d es, ds = [d] ∧ itemsD d = some es ∧ Q (.tuple es)
theorem cq_tuple : CQ X C (.type "tuple") fTuple := by
  refine ⟨fun pins s σ H xs us Q I r q => ?_, fun x Q Q' w ⟨d, n, e1, e2, q⟩ => ⟨d, n, e1, e2, w _ q⟩⟩
  obtain ⟨ds, hr, j, d, es, rfl, e, q⟩ := q
  cases hr with
  | cons h t =>
    cases t
    cases h with
    | @lst a xs _ _ _ h1 r1 =>
      cases e
      refine call_tuple_of pins s σ H _ us Q I r ⟨a, xs, rfl, .inl ⟨.inl (.inl h1), fun l nl => ?_⟩⟩
      have sm := same_upd (o := .tup xs) nl
      exact q _ _ (kxSame sm) (C.same _ _ sm j) (.tup upd_same (r1.keep (kxSame sm)))
    | @tup a xs _ h1 r1 =>
      cases e
      exact call_tuple_of pins s σ H _ us Q I r ⟨a, xs, rfl, .inr ⟨.inl (.inl h1), q _ H Kx.refl j (.tup h1 r1)⟩⟩
    | _ => cases e
@[simp] def fAll (f : List Bool → Bool) : Fr := fun ds Q => ∃ bs, ds = [.list (bs.map .bool)] ∧ Q (.bool (f bs))
theorem dq_bls {H : Hp} : ∀ {vs : List V} {bs : List Bool}, DqAll C H vs (bs.map .bool) → vs = bs.map V.bl
  | _, [], .nil => rfl
  | _, b :: bs, .cons h t => by
    cases h
    rw [dq_bls t]
    rfl
theorem cq_all (hc : X.calm = true) : CQ X C (.builtin "all") (fAll fun bs => bs.all id) := by
  refine ⟨fun pins s σ H xs us Q I r q => ?_, fun x Q Q' w ⟨bs, e1, q⟩ => ⟨bs, e1, w _ q⟩⟩
  obtain ⟨ds, hr, j, bs, rfl, q⟩ := q
  cases hr with
  | cons h t =>
    cases t
    cases h with
    | lst _ _ h1 r1 => exact cr_all hc pins s σ H _ us Q I r ⟨_, bs, rfl, .inl (.inl (by rw [← dq_bls r1]; exact h1)), q _ H Kx.refl j (.bl _)⟩
theorem cq_any (hc : X.calm = true) : CQ X C (.builtin "any") (fAll fun bs => bs.any id) := by
  refine ⟨fun pins s σ H xs us Q I r q => ?_, fun x Q Q' w ⟨bs, e1, q⟩ => ⟨bs, e1, w _ q⟩⟩
  obtain ⟨ds, hr, j, bs, rfl, q⟩ := q
  cases hr with
  | cons h t =>
    cases t
    cases h with
    | lst _ _ h1 r1 => exact cr_any hc pins s σ H _ us Q I r ⟨_, bs, rfl, .inl (.inl (by rw [← dq_bls r1]; exact h1)), q _ H Kx.refl j (.bl _)⟩
/-! list(t), at no place of the machine's own -/
theorem call_list_ofS : CallR X (.type "list") (fun xs H Q => ∃ p ys, xs = [.ref p] ∧ SqT X.K H p ys ∧ ∀ l, H l = none → l ≠ sysModules → Q (.ref l) (upd H l (.lst ys))) := by
  intro pins s σ H xs us Q I r h
  obtain ⟨p, ys, rfl, hq, q⟩ := h
  obtain ⟨u, rfl, rx⟩ := vals1 r
  cases rx
  obtain ⟨its, r', pl, hz⟩ := I.tuple hq
  have hlen := r'.length
  obtain ⟨o, ho, hc, n, hd⟩ := pl
  exact call_list_seq p (.inr rfl) ho hc hd (fun h' c' kp e => ⟨.ref s.heap.objs.size, _, I.laid (t' := s.toks) kp (Nat.le_refl _) (show ObjOk X.prog X.w _ h' _ (.lst ys) from ⟨hz, its, c', r', e⟩), rfl, q _ (I.hok.fresh (Nat.le_refl _)) (Nat.ne_of_gt I.big)⟩) (by simp only [List.size_toArray] <;> omega)
@[simp] def fListT : Fr := fun ds Q => ∃ es, ds = [.tuple es] ∧ Q (.list es)
theorem cq_listT : CQ X C (.type "list") fListT := by
  refine ⟨fun pins s σ H xs us Q I r q => ?_, fun x Q Q' w ⟨es, e1, q⟩ => ⟨es, e1, w _ q⟩⟩
  obtain ⟨ds, hr, j, es, rfl, q⟩ := q
  cases hr with
  | cons h t =>
    cases t
    cases h with
    | @tup a xs _ h1 r1 =>
      refine call_list_ofS pins s σ H _ us Q I r ⟨a, xs, rfl, .inl (.inl h1), fun l nl hs => ?_⟩
      have sm := same_upd (o := .lst xs) nl
      exact q _ _ (kxSame sm) (C.same _ _ sm j) (.lst (freshM C j nl) (fun z => absurd z hs) upd_same (r1.keep (kxSame sm)))
/-! is None -/
@[simp] def isNoneD : PyData → Bool
  | .none => true
  | _ => false
theorem dq_non {H : Hp} {v : V} {d : PyData} (r : Dq C H v d) : decide (v = .non) = isNoneD d := by
  cases r <;> first | rfl | exact decide_eq_false (fun z => by cases z)
@[simp] def vIsN (ta : P0) : P0 := fun ρ Q => ta ρ fun d => Q (.bool (isNoneD d))
@[simp] def vNotN (ta : P0) : P0 := fun ρ Q => ta ρ fun d => Q (.bool (!isNoneD d))
theorem qe_isN {j pos' } (ha : QE X C a ta) : QE X C (.Compare a [.Is] [.Constant .none j pos'] pos) (vIsN ta) :=
  ⟨PE.weak (pe_cmp (pc_isN ha.pe)) fun σ H Q ⟨ρ, he, jj, h⟩ => ⟨ρ, he, jj, ha.mono _ _ _ (fun d q v H1 k1 j1 r1 => by show Q (.bl (decide (v = .non))) H1; rw [dq_non r1]; exact q _ H1 k1 j1 (.bl _)) h⟩, fun ρ Q Q' w h => ha.mono _ _ _ (fun d q => w _ q) h⟩
theorem qe_notN {j pos' } (ha : QE X C a ta) : QE X C (.Compare a [.IsNot] [.Constant .none j pos'] pos) (vNotN ta) :=
  ⟨PE.weak (pe_cmp (pc_notN ha.pe)) fun σ H Q ⟨ρ, he, jj, h⟩ => ⟨ρ, he, jj, ha.mono _ _ _ (fun d q v H1 k1 j1 r1 => by show Q (.bl (!decide (v = .non))) H1; rw [dq_non r1]; exact q _ H1 k1 j1 (.bl _)) h⟩, fun ρ Q Q' w h => ha.mono _ _ _ (fun d q => w _ q) h⟩
theorem qt_isN {j pos' } (ha : QE X C a ta) : QT X C (.Compare a [.Is] [.Constant .none j pos'] pos) (fun ρ Q => ta ρ fun d => Q (isNoneD d)) :=
  ⟨PT.weak (pt_cmp (pc_isN ha.pe)) fun σ H Q ⟨ρ, he, jj, h⟩ => ⟨ρ, he, jj, ha.mono _ _ _ (fun d q v H1 k1 j1 r1 => ⟨_, rfl, by rw [dq_non r1]; exact q H1 k1 j1⟩) h⟩, fun ρ Q Q' w h => ha.mono _ _ _ (fun d q => w _ q) h⟩
theorem qt_notN {j pos' } (ha : QE X C a ta) : QT X C (.Compare a [.IsNot] [.Constant .none j pos'] pos) (fun ρ Q => ta ρ fun d => Q (!isNoneD d)) :=
  ⟨PT.weak (pt_cmp (pc_notN ha.pe)) fun σ H Q ⟨ρ, he, jj, h⟩ => ⟨ρ, he, jj, ha.mono _ _ _ (fun d q v H1 k1 j1 r1 => ⟨_, rfl, by rw [dq_non r1]; exact q H1 k1 j1⟩) h⟩, fun ρ Q Q' w h => ha.mono _ _ _ (fun d q => w _ q) h⟩
/-! truth of a list, a tuple -/
@[simp] def truD : PyData → Option Bool
  | .list ds => some (!ds.isEmpty)
  | .tuple ds => some (!ds.isEmpty)
  | _ => none
theorem qt_tru (ha : QE X C a ta) (he : ∀ whole, isTrue a X.env whole = (do let v ← whole; standAt a.pos; holding [v] (truthy v)) := by intro _; rfl) : QT X C a (fun ρ Q => ta ρ fun d => ∃ k, truD d = some k ∧ Q k) := by
  refine ⟨PT.weak (pt_truth ha.pe he) fun σ H Q ⟨ρ, hE, jj, h⟩ => ⟨ρ, hE, jj, ha.mono _ _ _ (fun d ⟨k, e, q⟩ v H1 k1 j1 r1 => ?_) h⟩, fun ρ Q Q' w h => ha.mono _ _ _ (fun d ⟨k, e, q⟩ => ⟨k, e, w _ q⟩) h⟩
  cases r1 with
  | @lst a xs ds _ _ h1 r =>
    cases e
    refine ⟨_, .inl ⟨xs, .inl (.inl h1), ?_⟩, q H1 k1 j1⟩
    cases r <;> rfl
  | @tup a xs ds h1 r =>
    cases e
    refine ⟨_, .inr (.inl ⟨xs, .inl (.inl h1), ?_⟩), q H1 k1 j1⟩
    cases r <;> rfl
  | _ => cases e
/-! a < b < c -/
@[simp] def vChain (r r' : R0) (ta tb tc : P0) : P0 := fun ρ Q => ta ρ fun d1 => tb ρ fun d2 => r d1 d2 fun k => ∃ z, k = .bool z ∧ if z = true then tc ρ fun d3 => r' d2 d3 Q else Q (.bool false)
theorem qe_chain {op op' : CmpOp} {r r' : R0} {tc : P0} (ho : OQ X C (compareOp op) r) (ho' : OQ X C (compareOp op') r') (ha : QE X C a ta) (hb : QE X C b tb) (hc : QE X C c tc)
    (hp : ∀ {ta tb tc : TE} {r r' : R2}, OpR X (compareOp op) r → OpR X (compareOp op') r' → PE X a ta → PE X b tb → PE X c tc → PE X (.Compare a [op, op'] [b, c] pos) (tChain r r' ta tb tc)) : QE X C (.Compare a [op, op'] [b, c] pos) (vChain r r' ta tb tc) := by
  refine ⟨PE.weak (hp ho.op ho'.op ha.pe hb.pe hc.pe) fun σ H Q h => ?_, fun ρ Q Q' w h => ha.mono _ _ _ (fun d1 h => hb.mono _ _ _ (fun d2 h => ho.mono _ _ _ _ (fun k ⟨z, e, q⟩ => ⟨z, e, ?_⟩) h) h) h⟩
  · obtain ⟨ρ, he, j, h⟩ := h
    refine ⟨ρ, he, j, ha.mono _ _ _ (fun d1 h1 v H1 k1 j1 r1 => ?_) h⟩
    refine ⟨ρ, he.keep k1, j1, hb.mono _ _ _ (fun d2 h2 u H2 k2 j2 r2 => ?_) h1⟩
    refine ⟨d1, d2, r1.keep k2, r2, j2, ho.mono _ _ _ _ (fun k ⟨z, e, q⟩ x H3 k3 j3 r3 => ?_) h2⟩
    subst e
    refine ⟨z, dq_bl r3, ?_⟩
    have k13 := k1.trans (k2.trans k3)
    cases z with
    | true => exact ⟨ρ, he.keep k13, j3, hc.mono _ _ _ (fun d3 h4 y H4 k4 j4 r4 => ⟨d2, d3, (r2.keep k3).keep k4, r4, j4, ho'.mono _ _ _ _ (fun d q => q.up (k13.trans k4)) h4⟩) q⟩
    | false => exact q _ H3 k13 j3 (.bl false)
  · cases z with
    | true => exact hc.mono _ _ _ (fun d3 h => ho'.mono _ _ _ _ w h) q
    | false => exact w _ q
end
/-! a def that tells no list, its body in an inner context -/
section
variable {P : Program} {w : World} {K : PySem.W.Frag} {mg : Str → Option Value} {base : Heap}
theorem defQL {x qual : Str} {st : Stmt} {f : Addr} {fd : FuncData} {N ps : List Str} {k : Nat} {G : Cz → Prop} {pre : List PyData → Prop} {res : List PyData → PyData → Prop} (Ow : List Nat) (F : Fun K x qual st f fd) (S : FnScope N ps (defScope st)) (hlen : ∀ ds, pre ds → ds.length = ps.length) (hOw : ∀ i ∈ Ow, ps.length ≤ i)
    (hG : ∀ C, G C → G C.laxed) (hn : ∀ ds d, pre ds → res ds d → noL d = true) (body : ∀ (C : Cz), G C → C.lax → ∀ (cdv : Value) (A : Around) (outer : List Env) (s : Shared) (H : Hp) (E : XK), Room k (A.deeper (envOfC qual (defScope st) s.heap.objs.size f cdv)) →
      ∃ ts, QSs (cxOf CX0 P w K mg base N qual (defScope st) f cdv A outer s H E).nox C Ow (defBody st) ts ∧ ∀ ds, pre ds → ts { nx := fun _ => res ds .none, rt := res ds } (startR N ds)) :
    FnOk P w K mg base CX0 (k + 1) f fd ps (spQ G pre res) := by
  have h0 : FnOk P w K mg base CX0 (k + 1) f fd ps (spQ (fun C => G C ∧ C.lax) pre res) := defQ Ow F S hlen hOw fun C hC cdv A outer s H E hr => body C hC.1 hC.2 cdv A outer s H E hr
  refine h0.imp fun vs H Q E h => ?_
  obtain ⟨C, ds, g, r, j, hp, q⟩ := h
  exact ⟨C.laxed, ds, ⟨hG C g, trivial⟩, r.laxed, j, hp, fun d hd v H' k' j' r' => q d hd v H' k' j' (r'.noL (hn ds d hp hd))⟩
/-- a stronger promise's weaker one -/
theorem spQ_imp {k : Nat} {f : Addr} {fd : FuncData} {ps : List Str} {G : Cz → Prop} {pre pre' : List PyData → Prop} {res res' : List PyData → PyData → Prop} (F : FnOk P w K mg base CX0 k f fd ps (spQ G pre res)) (h1 : ∀ ds, pre' ds → pre ds) (h2 : ∀ ds d, pre' ds → res ds d → res' ds d) : FnOk P w K mg base CX0 k f fd ps (spQ G pre' res') :=
  F.imp fun vs H Q E ⟨C, ds, g, r, j, hp, q⟩ => ⟨C, ds, g, r, j, h1 ds hp, fun d hd => q d (h2 ds d hp hd)⟩
end
end Kq

set_option Elab.async false
set_option linter.all false
set_option maxRecDepth 100000
set_option maxHeartbeats 4000000
namespace Kq
open PySem PySem.Spec PyProof.Rows L2
/-! defs by name -/
structure Cal (P : Program) (w : World) (K : PySem.W.Frag) (mg : Str → Option Value) (base : Heap) (k : Nat) (x : Str) (ps : List Str) (sp : Sp) : Prop where
  ex : ∃ f fd, FnOk P w K mg base CX0 k f fd ps sp ∧ mg x = some (.ref f) ∧ PySem.W.keepIn K (.ref f) = true ∧ Binds K fd ps []
structure Dfn (K : PySem.W.Frag) (mg : Str → Option Value) (x : Str) (st : Stmt) (ps : List Str) : Prop where
  ex : ∃ f fd, Fun K x x st f fd ∧ mg x = some (.ref f) ∧ Binds K fd ps []
/-- built-in names that the top leaves alone -/
structure Bl (mg : Str → Option Value) : Prop where
  isinstance : mg "isinstance" = none
  int : mg "int" = none
  bool : mg "bool" = none
  str : mg "str" = none
  tuple : mg "tuple" = none
  list : mg "list" = none
  dict : mg "dict" = none
  set : mg "set" = none
  len : mg "len" = none
  all : mg "all" = none
  any : mg "any" = none
  sum : mg "sum" = none
  min : mg "min" = none
  max : mg "max" = none
  range : mg "range" = none
  zip : mg "zip" = none
  enumerate : mg "enumerate" = none
  reversed : mg "reversed" = none
  sorted : mg "sorted" = none
  repr : mg "repr" = none
section
variable {P : Program} {w : World} {K : PySem.W.Frag} {mg : Str → Option Value} {base : Heap}
theorem Cal.mono {j k : Nat} {x : Str} {ps : List Str} {sp : Sp} (h : Cal P w K mg base j x ps sp) (l : j ≤ k) : Cal P w K mg base k x ps sp := by
  obtain ⟨f, fd, F, r⟩ := h.ex
  exact ⟨f, fd, F.mono l, r⟩
theorem Cal.imp {k : Nat} {x : Str} {ps : List Str} {sp sp' : Sp} (h : Cal P w K mg base k x ps sp) (l : ∀ vs H Q E, sp' vs H Q E → sp vs H Q E) : Cal P w K mg base k x ps sp' := by
  obtain ⟨f, fd, F, r⟩ := h.ex
  exact ⟨f, fd, F.imp l, r⟩
theorem Cal.of {k : Nat} {x : Str} {ps : List Str} {sp : Sp} {st : Stmt} (D : Dfn K mg x st ps) (h : ∀ f fd, Fun K x x st f fd → FnOk P w K mg base CX0 k f fd ps sp) : Cal P w K mg base k x ps sp := by
  obtain ⟨f, fd, F, g, b⟩ := D.ex
  exact ⟨f, fd, h f fd F, g, F.kp, b⟩
abbrev Any : Cz → Prop := fun _ => True
abbrev One (f : PyData → PyData) : List PyData → PyData → Prop := fun ds d => ∃ x, ds = [x] ∧ d = f x
/-- the body of a def, told by its term and its reading -/
theorem defC {x : Str} {st : Stmt} {N ps : List Str} {k : Nat} {pre : List PyData → Prop} {res : List PyData → PyData → Prop} {G : Cz → Prop} (Ow : List Nat) (D : Dfn K mg x st ps) (S : FnScope N ps (defScope st)) (hlen : ∀ ds, pre ds → ds.length = ps.length) (hOw : ∀ i ∈ Ow, ps.length ≤ i)
    (hG : ∀ C, G C → G C.laxed) (hn : ∀ ds d, pre ds → res ds d → noL d = true) (body : ∀ (f : Addr) (C : Cz), G C → C.lax → ∀ (cdv : Value) (A : Around) (outer : List Env) (s : Shared) (H : Hp) (E : XK), Room k (A.deeper (envOfC x (defScope st) s.heap.objs.size f cdv)) →
      ∃ ts, QSs (cxOf CX0 P w K mg base N x (defScope st) f cdv A outer s H E).nox C Ow (defBody st) ts ∧ ∀ ds, pre ds → ts { nx := fun _ => res ds .none, rt := res ds } (startR N ds)) :
    Cal P w K mg base (k + 1) x ps (spQ G pre res) := Cal.of D fun f fd F => defQL Ow F S hlen hOw hG hn (body f)
/-- the same, telling lists too -/
theorem defCL {x : Str} {st : Stmt} {N ps : List Str} {k : Nat} {pre : List PyData → Prop} {res : List PyData → PyData → Prop} {G : Cz → Prop} (Ow : List Nat) (D : Dfn K mg x st ps) (S : FnScope N ps (defScope st)) (hlen : ∀ ds, pre ds → ds.length = ps.length) (hOw : ∀ i ∈ Ow, ps.length ≤ i)
    (body : ∀ (f : Addr) (C : Cz), G C → ∀ (cdv : Value) (A : Around) (outer : List Env) (s : Shared) (H : Hp) (E : XK), Room k (A.deeper (envOfC x (defScope st) s.heap.objs.size f cdv)) →
      ∃ ts, QSs (cxOf CX0 P w K mg base N x (defScope st) f cdv A outer s H E).nox C Ow (defBody st) ts ∧ ∀ ds, pre ds → ts { nx := fun _ => res ds .none, rt := res ds } (startR N ds)) :
    Cal P w K mg base (k + 1) x ps (spQ G pre res) := Cal.of D fun f fd F => defQ Ow F S hlen hOw (body f)
end
section
variable {X : Cx} {C : Cz} {pos : Pos}
theorem qe_cal {G : Cz → Prop} {pre : List PyData → Prop} {res : List PyData → PyData → Prop} {k : Nat} {ps : List Str} {x : Str} {p : Pos} {e : Expr} {es : List Expr} {t : P0A}
    (F : Cal X.prog X.w X.K X.mg X.base k x ps (spQ G pre res)) (hG : G C) (hr : Room k X.A) (hg : Gl X x) (ha : QA X C (e :: es) t) (hx : Passes CX0 X (fun _ _ _ => False) := by exact pass0)
    (hdb : (x == ("__debug__" : Str)) = false := by decide) (he : starEach (e :: es) X.env = (false, eval e X.env) :: starEach es X.env := by rfl) (hpl : (backTo pos (starEach es X.env)).any (·.1) = false := by rfl) :
    QE X C (.Call (.Name x p) (e :: es) [] pos) (vCall (fr pre res) t) := by
  obtain ⟨f, fd, F, g, kp, b⟩ := F.ex
  exact qe_call F hG hr hg g kp b ha hx hdb he hpl
end
end Kq

set_option Elab.async false
set_option linter.all false
set_option maxRecDepth 100000
set_option maxHeartbeats 4000000
namespace Kq
open PySem PySem.Spec PyProof.Rows L2
open AutoSeq1 (wpAny_loadPart')
section
variable (a b : Addr) (x : Str) (u : Tok) (o : Obj) (items : Array Value) (n : Nat) (dd : Option Addr) (sl : Array (Option Value)) (es : Array DictEntry) (ep : Nat) (dd2 : Option Addr) (sl2 : Array (Option Value))
theorem dq_eq1 : Meets (Builtin.«dict.__eq__» ⟨[.ref a, .str x u], []⟩) (fun _ R s => s.heap.get? a = some { cls := .type "dict", dict := dd, data := .dict es ep, slots := sl } ∧ R (.ok (.ret .notImplemented)) s) :=
  .of_wp fun prog w A R s h => by obtain ⟨hp, g, d, tk, os⟩ := s; obtain ⟨hl, h⟩ := h; have f1 := F.sub_str_dict; wp_walk using wpAny_loadPart' hl; exact ⟨_, rfl, h⟩
theorem dq_eq2 : Meets (Builtin.«str.__eq__» ⟨[.str x u, .ref a], []⟩) (fun _ R s => s.heap.get? a = some { cls := .type "dict", dict := dd, data := .dict es ep, slots := sl } ∧ R (.ok (.ret .notImplemented)) s) :=
  .of_wp fun prog w A R s h => by obtain ⟨hp, g, d, tk, os⟩ := s; obtain ⟨hl, h⟩ := h; have f1 := F.sub_dict_str; wp_walk using wpAny_loadPart' hl; exact ⟨_, rfl, h⟩
theorem dq_ne1 : Meets (Builtin.«dict.__ne__» ⟨[.ref a, .str x u], []⟩) (fun _ R s => s.heap.get? a = some { cls := .type "dict", dict := dd, data := .dict es ep, slots := sl } ∧ R (.ok (.ret .notImplemented)) s) :=
  .of_wp fun prog w A R s h => by obtain ⟨hp, g, d, tk, os⟩ := s; obtain ⟨hl, h⟩ := h; have f1 := F.sub_str_dict; wp_walk using wpAny_loadPart' hl; exact ⟨_, rfl, h⟩
theorem dq_ne2 : Meets (Builtin.«str.__ne__» ⟨[.str x u, .ref a], []⟩) (fun _ R s => s.heap.get? a = some { cls := .type "dict", dict := dd, data := .dict es ep, slots := sl } ∧ R (.ok (.ret .notImplemented)) s) :=
  .of_wp fun prog w A R s h => by obtain ⟨hp, g, d, tk, os⟩ := s; obtain ⟨hl, h⟩ := h; have f1 := F.sub_dict_str; wp_walk using wpAny_loadPart' hl; exact ⟨_, rfl, h⟩
theorem dq_eq3 : Meets (Builtin.«dict.__eq__» ⟨[.ref a, .ref b], []⟩) (fun _ R s => s.heap.get? a = some { cls := .type "dict", dict := dd, data := .dict es ep, slots := sl } ∧ s.heap.get? b = some { cls := .type "tuple", dict := dd2, data := .seq items n, slots := sl2 } ∧ R (.ok (.ret .notImplemented)) s) :=
  .of_wp fun prog w A R s h => by obtain ⟨hp, g, d, tk, os⟩ := s; obtain ⟨hl, hl2, h⟩ := h; have f1 := F.sub_tuple_dict; wp_walk using wpAny_loadPart' hl, wpAny_loadPart' hl2; exact ⟨_, rfl, h⟩
theorem dq_eq4 : Meets (Builtin.«tuple.__eq__» ⟨[.ref b, .ref a], []⟩) (fun _ R s => s.heap.get? a = some { cls := .type "dict", dict := dd, data := .dict es ep, slots := sl } ∧ s.heap.get? b = some { cls := .type "tuple", dict := dd2, data := .seq items n, slots := sl2 } ∧ R (.ok (.ret .notImplemented)) s) :=
  .of_wp fun prog w A R s h => by obtain ⟨hp, g, d, tk, os⟩ := s; obtain ⟨hl, hl2, h⟩ := h; have f1 := F.sub_dict_tuple; wp_walk using wpAny_loadPart' hl, wpAny_loadPart' hl2; exact ⟨_, rfl, h⟩
theorem dq_ne3 : Meets (Builtin.«dict.__ne__» ⟨[.ref a, .ref b], []⟩) (fun _ R s => s.heap.get? a = some { cls := .type "dict", dict := dd, data := .dict es ep, slots := sl } ∧ s.heap.get? b = some { cls := .type "tuple", dict := dd2, data := .seq items n, slots := sl2 } ∧ R (.ok (.ret .notImplemented)) s) :=
  .of_wp fun prog w A R s h => by obtain ⟨hp, g, d, tk, os⟩ := s; obtain ⟨hl, hl2, h⟩ := h; have f1 := F.sub_tuple_dict; wp_walk using wpAny_loadPart' hl, wpAny_loadPart' hl2; exact ⟨_, rfl, h⟩
theorem dq_ne4 : Meets (Builtin.«tuple.__ne__» ⟨[.ref b, .ref a], []⟩) (fun _ R s => s.heap.get? a = some { cls := .type "dict", dict := dd, data := .dict es ep, slots := sl } ∧ s.heap.get? b = some { cls := .type "tuple", dict := dd2, data := .seq items n, slots := sl2 } ∧ R (.ok (.ret .notImplemented)) s) :=
  .of_wp fun prog w A R s h => by obtain ⟨hp, g, d, tk, os⟩ := s; obtain ⟨hl, hl2, h⟩ := h; have f1 := F.sub_dict_tuple; wp_walk using wpAny_loadPart' hl, wpAny_loadPart' hl2; exact ⟨_, rfl, h⟩
end
section
variable {A : Around} {s : Shared}
theorem rc_dict_str {P : Program} {w : World} {a : Addr} {vs : List (Key × Value)} (x : Str) (u : Tok) (hd : s.heap.DictOf (mixKind P w) a vs) (hu : A.units < cLine) : SeqAt.RcAt A s (.ref a) (.str x u) false := fun prog w E Q h => by
  obtain ⟨⟨cls, dd, data, sl⟩, es, ep, ho, hx, hdat, _⟩ := hd
  have hc : cls = .type "dict" := hx.1
  simp only at hdat
  subst hc hdat
  exact SeqAt.rc_eq_decline_or (k := false) ⟨_, ho, rfl⟩ (typeIs_str s x u) (by decide) F.sub_str_dict F.slot_dict_eq F.slot_str_eq_refl
    (fun _ hq => call_meets F.slot_dict_eq ⟨_, ho, rfl⟩ F.entry_dict_eq (F.args_dict_eq_2 _ _) (dq_eq1 a x u dd sl es ep) ⟨ho, hq⟩)
    (fun _ hq => call_meets F.slot_str_eq_refl (typeIs_str s x u) F.entry_str_eq (F.args_str_eq_2 _ _) (dq_eq2 a x u dd sl es ep) ⟨ho, hq⟩)
    (fun _ hq => wpAny_of_eq (rfl : isSame (.ref a) (.str x u) = pure false) hq) (.inr hu) h
theorem rcn_dict_str {P : Program} {w : World} {a : Addr} {vs : List (Key × Value)} (x : Str) (u : Tok) (hd : s.heap.DictOf (mixKind P w) a vs) (hu : A.units < cLine) : SeqAt.RcNeAt A s (.ref a) (.str x u) true := fun prog w E Q h => by
  obtain ⟨⟨cls, dd, data, sl⟩, es, ep, ho, hx, hdat, _⟩ := hd
  have hc : cls = .type "dict" := hx.1
  simp only at hdat
  subst hc hdat
  exact SeqAt.rc_ne_decline_or (k := false) ⟨_, ho, rfl⟩ (typeIs_str s x u) (by decide) F.sub_str_dict F.slot_dict_ne F.slot_str_ne_refl
    (fun _ hq => call_meets F.slot_dict_ne ⟨_, ho, rfl⟩ F.entry_dict_ne (F.args_dict_ne_2 _ _) (dq_ne1 a x u dd sl es ep) ⟨ho, hq⟩)
    (fun _ hq => call_meets F.slot_str_ne_refl (typeIs_str s x u) F.entry_str_ne (F.args_str_ne_2 _ _) (dq_ne2 a x u dd sl es ep) ⟨ho, hq⟩)
    (fun _ hq => wpAny_of_eq (rfl : isSame (.ref a) (.str x u) = pure false) hq) (.inr hu) h
theorem rc_dict_tup {P : Program} {w : World} {a b : Addr} {vs : List (Key × Value)} {items : Array Value} (hd : s.heap.DictOf (mixKind P w) a vs) (hb : s.heap.IsTuple b items) (hu : A.units < cLine) : SeqAt.RcAt A s (.ref a) (.ref b) false := fun prog w E Q h => by
  obtain ⟨⟨cls, dd, data, sl⟩, es, ep, ho, hx, hdat, _⟩ := hd
  obtain ⟨⟨cls2, dd2, data2, sl2⟩, ho2, hc2, n2, hd2⟩ := hb
  have hc : cls = .type "dict" := hx.1
  simp only at hdat hc2 hd2
  subst hc hdat hc2 hd2
  have hne : a ≠ b := fun e => by
    subst e
    rw [ho] at ho2
    simp at ho2
  exact SeqAt.rc_eq_decline_or (k := false) ⟨_, ho, rfl⟩ ⟨_, ho2, rfl⟩ (by decide) F.sub_tuple_dict F.slot_dict_eq F.slot_tuple_eq_refl
    (fun _ hq => call_meets F.slot_dict_eq ⟨_, ho, rfl⟩ F.entry_dict_eq (F.args_dict_eq_2 _ _) (dq_eq3 a b items n2 dd sl es ep dd2 sl2) ⟨ho, ho2, hq⟩)
    (fun _ hq => call_meets F.slot_tuple_eq_refl ⟨_, ho2, rfl⟩ F.entry_tuple_eq (F.args_tuple_eq_2 _ _) (dq_eq4 a b items n2 dd sl es ep dd2 sl2) ⟨ho, ho2, hq⟩)
    (fun _ hq => wpAny_isSame_ref_other hne ho ho2 (by simp) hq) (.inr hu) h
theorem rcn_dict_tup {P : Program} {w : World} {a b : Addr} {vs : List (Key × Value)} {items : Array Value} (hd : s.heap.DictOf (mixKind P w) a vs) (hb : s.heap.IsTuple b items) (hu : A.units < cLine) : SeqAt.RcNeAt A s (.ref a) (.ref b) true := fun prog w E Q h => by
  obtain ⟨⟨cls, dd, data, sl⟩, es, ep, ho, hx, hdat, _⟩ := hd
  obtain ⟨⟨cls2, dd2, data2, sl2⟩, ho2, hc2, n2, hd2⟩ := hb
  have hc : cls = .type "dict" := hx.1
  simp only at hdat hc2 hd2
  subst hc hdat hc2 hd2
  have hne : a ≠ b := fun e => by
    subst e
    rw [ho] at ho2
    simp at ho2
  exact SeqAt.rc_ne_decline_or (k := false) ⟨_, ho, rfl⟩ ⟨_, ho2, rfl⟩ (by decide) F.sub_tuple_dict F.slot_dict_ne F.slot_tuple_ne_refl
    (fun _ hq => call_meets F.slot_dict_ne ⟨_, ho, rfl⟩ F.entry_dict_ne (F.args_dict_ne_2 _ _) (dq_ne3 a b items n2 dd sl es ep dd2 sl2) ⟨ho, ho2, hq⟩)
    (fun _ hq => call_meets F.slot_tuple_ne_refl ⟨_, ho2, rfl⟩ F.entry_tuple_ne (F.args_tuple_ne_2 _ _) (dq_ne4 a b items n2 dd sl es ep dd2 sl2) ⟨ho, ho2, hq⟩)
    (fun _ hq => wpAny_isSame_ref_other hne ho ho2 (by simp) hq) (.inr hu) h
end
def eqA (d1 d2 : PyData) : Bool := !isTok d1 && ((shp d1 && shp d2) || (match d2 with | .str _ => true | .tuple [] => true | _ => false))
section
variable {X : Cx} {C : Cz}
theorem rc_any_str (hu : X.A.units + 64 < cLine) {pins : List (Addr × Obj)} {σ : L2.St} {H : Hp} {s : Shared} {x : V} {v : Value} {t : PyData} (z : Str) (tk : Tok) (I : Inv X pins σ H s) (rx : RelV x v) (hd : Dq C H x t) (ht : isTok t = false) : SeqAt.RcAt X.A s v (.str z tk) (PyData.eqv t (.str z)) ∧ SeqAt.RcNeAt X.A s v (.str z tk) (!PyData.eqv t (.str z)) := by
  have hu0 : X.A.units < cLine := by omega
  cases hd with
  | non =>
    cases rx
    exact ⟨SeqAt.RcAt.none_str z tk, SeqAt.RcNeAt.none_str z tk⟩
  | bl b =>
    cases rx
    exact ⟨SeqAt.RcAt.bool_str b z tk, SeqAt.RcNeAt.bool_str b z tk⟩
  | int i =>
    obtain ⟨t', rfl⟩ := rx
    exact ⟨SeqAt.RcAt.int_str i t' z tk, SeqAt.RcNeAt.int_str i t' z tk⟩
  | str x =>
    obtain ⟨t', rfl⟩ := rx
    exact ⟨SeqAt.RcAt.str_str x t' z tk, SeqAt.RcNeAt.str_str x t' z tk⟩
  | lst _ _ h _ =>
    cases rx
    obtain ⟨its, rv, p, hz⟩ := I.list (.inl (.inl h))
    exact ⟨SeqAt.RcAt.list_str z tk p.isList hu0, SeqAt.RcNeAt.list_str z tk p.isList hu0⟩
  | tup h _ =>
    cases rx
    obtain ⟨its, rv, p, hz⟩ := I.tuple (.inl (.inl h))
    obtain ⟨o, e, hc, n, hdd⟩ := p
    exact ⟨SeqAt.RcAt.tuple_str z tk ⟨o, e, hc, n, hdd⟩ hu0, SeqAt.RcNeAt.tuple_str z tk ⟨o, e, hc, n, hdd⟩ hu0⟩
  | dct _ h _ =>
    cases rx
    obtain ⟨_, _, vs, _, hdd⟩ := dk_of I.hok h
    exact ⟨rc_dict_str z tk hdd hu0, rcn_dict_str z tk hdd hu0⟩
  | tok _ => cases ht
theorem eqv_nilL (xs : List PyData) : PyData.eqvAll xs [] = xs.isEmpty := by cases xs <;> rfl
theorem rc_any_nil (hu : X.A.units + 64 < cLine) {pins : List (Addr × Obj)} {σ : L2.St} {H : Hp} {s : Shared} {x : V} {v : Value} {t : PyData} {b : Addr} (hb : H b = some (.tup [])) (I : Inv X pins σ H s) (rx : RelV x v) (hd : Dq C H x t) (ht : isTok t = false) : SeqAt.RcAt X.A s v (.ref b) (PyData.eqv t (.tuple [])) ∧ SeqAt.RcNeAt X.A s v (.ref b) (!PyData.eqv t (.tuple [])) := by
  have hu0 : X.A.units < cLine := by omega
  obtain ⟨its0, rv0, p0, _⟩ := I.tuple (.inl (.inl hb))
  obtain ⟨o0, e0, hc0, n0, hdd0⟩ := p0
  have hi0 : its0 = [] := by
    cases rv0
    rfl
  subst hi0
  have hb0 : s.heap.IsTuple b #[] := ⟨o0, e0, hc0, n0, hdd0⟩
  cases hd with
  | non =>
    cases rx
    exact ⟨SeqAt.RcAt.none_tuple hb0 hu0, SeqAt.RcNeAt.none_tuple hb0 hu0⟩
  | bl k =>
    cases rx
    exact ⟨SeqAt.RcAt.bool_tuple k hb0 hu0, SeqAt.RcNeAt.bool_tuple k hb0 hu0⟩
  | int i =>
    obtain ⟨t', rfl⟩ := rx
    exact ⟨SeqAt.RcAt.int_tuple i t' hb0 hu0, SeqAt.RcNeAt.int_tuple i t' hb0 hu0⟩
  | str x =>
    obtain ⟨t', rfl⟩ := rx
    exact ⟨SeqAt.RcAt.str_tuple x t' hb0 hu0, SeqAt.RcNeAt.str_tuple x t' hb0 hu0⟩
  | lst _ _ h _ =>
    cases rx
    obtain ⟨its, rv, p, hz⟩ := I.list (.inl (.inl h))
    exact ⟨SeqAt.RcAt.list_tuple p.isList hb0 hu0, SeqAt.RcNeAt.list_tuple p.isList hb0 hu0⟩
  | @tup a xs ds h r =>
    cases rx
    obtain ⟨its, rv, p, hz⟩ := I.tuple (.inl (.inl h))
    obtain ⟨o, e, hc, n, hdd⟩ := p
    have h1 := SeqAt.RcAt.tuples (A := X.A) (e := fun _ => true) ⟨o, e, hc, n, hdd⟩ hb0 hu0 fun j _ h2 => absurd h2 (by simp)
    have h2 := SeqAt.RcNeAt.tuples (A := X.A) (e := fun _ => true) ⟨o, e, hc, n, hdd⟩ hb0 hu0 fun j _ h2 => absurd h2 (by simp)
    have ev : PyData.eqv (.tuple ds) (.tuple []) = ds.isEmpty := by
      unfold PyData.eqv
      exact eqv_nilL ds
    rw [ev]
    cases r with
    | nil =>
      cases rv
      exact ⟨h1, h2⟩
    | cons _ _ =>
      cases rv
      constructor
      · simpa using h1
      · simpa using h2
  | dct _ h _ =>
    cases rx
    obtain ⟨_, _, vs, _, hdd⟩ := dk_of I.hok h
    exact ⟨rc_dict_tup hdd hb0 hu0, rcn_dict_tup hdd hb0 hu0⟩
  | tok _ => cases ht
@[simp] def rEqA : R0 := fun d1 d2 Q => eqA d1 d2 = true ∧ Q (.bool (PyData.eqv d1 d2))
@[simp] def rNeA : R0 := fun d1 d2 Q => eqA d1 d2 = true ∧ Q (.bool (!PyData.eqv d1 d2))
theorem eqA_cases {d1 d2 : PyData} (h : eqA d1 d2 = true) : isTok d1 = false ∧ ((shp d1 = true ∧ shp d2 = true) ∨ (∃ z, d2 = .str z) ∨ d2 = .tuple []) := by
  unfold eqA at h
  simp only [Bool.and_eq_true, Bool.not_eq_true', Bool.or_eq_true] at h
  refine ⟨h.1, ?_⟩
  rcases h.2 with h | h
  · exact .inl h
  · match d2, h with
    | .str z, _ => exact .inr (.inl ⟨z, rfl⟩)
    | .tuple [], _ => exact .inr (.inr rfl)
theorem oq_eqA (hu : X.A.units + 64 < cLine) : OQ X C (compareOp .Eq) rEqA := by
  refine ⟨fun pins s σ H x y v u Q I rx ry ⟨d1, d2, r1, r2, jj, c, q⟩ => ?_, fun x y Q Q' w ⟨a, q⟩ => ⟨a, w _ q⟩⟩
  obtain ⟨ht, ⟨s1, s2⟩ | ⟨z, rfl⟩ | rfl⟩ := eqA_cases c
  · exact (oq_eq hu).op pins s σ H _ _ v u Q I rx ry ⟨d1, d2, r1, r2, jj, s1, s2, q⟩
  · cases r2
    obtain ⟨tk, rfl⟩ := ry
    exact (rc_any_str hu z tk I rx r1 ht).1 X.prog X.w X.xe _ ⟨.bl _, H, I, rfl, q _ H Kx.refl jj (.bl _)⟩
  · cases r2 with
    | tup h r =>
      cases r
      cases ry
      exact (rc_any_nil hu h I rx r1 ht).1 X.prog X.w X.xe _ ⟨.bl _, H, I, rfl, q _ H Kx.refl jj (.bl _)⟩
theorem oq_neA (hu : X.A.units + 64 < cLine) : OQ X C (compareOp .NotEq) rNeA := by
  refine ⟨fun pins s σ H x y v u Q I rx ry ⟨d1, d2, r1, r2, jj, c, q⟩ => ?_, fun x y Q Q' w ⟨a, q⟩ => ⟨a, w _ q⟩⟩
  obtain ⟨ht, ⟨s1, s2⟩ | ⟨z, rfl⟩ | rfl⟩ := eqA_cases c
  · exact (oq_ne hu).op pins s σ H _ _ v u Q I rx ry ⟨d1, d2, r1, r2, jj, s1, s2, q⟩
  · cases r2
    obtain ⟨tk, rfl⟩ := ry
    exact (rc_any_str hu z tk I rx r1 ht).2 X.prog X.w X.xe _ ⟨.bl _, H, I, rfl, q _ H Kx.refl jj (.bl _)⟩
  · cases r2 with
    | tup h r =>
      cases r
      cases ry
      exact (rc_any_nil hu h I rx r1 ht).2 X.prog X.w X.xe _ ⟨.bl _, H, I, rfl, q _ H Kx.refl jj (.bl _)⟩
/-! list(reversed(t)) -/
theorem qf_lstRev {a e : Expr} {ta : P0} (hp : ∀ te, PE X a te → PE X e (tLstRev X.K te)) (h : QE X C a ta) : QF X C e (fun ρ Q => ta ρ fun d => ∃ es, d = .tuple es ∧ Q es.reverse) := by
  refine ⟨PE.weak (hp _ h.pe) fun σ H Q q => ?_, fun ρ Q Q' w q => h.mono _ _ _ (fun d ⟨es, e, q⟩ => ⟨es, e, w _ q⟩) q⟩
  obtain ⟨ρ, he, j, q⟩ := q
  refine ⟨ρ, he, j, h.mono ρ _ _ (fun d ⟨es, e, q⟩ v H1 k1 j1 r1 => ?_) q⟩
  subst e
  cases r1 with
  | @tup a xs _ h1 r => exact ⟨a, xs, rfl, .inl (.inl h1), fun p np hs => q p xs.reverse H1 k1 j1 np (fun z => absurd z hs) r.rev⟩
/-! over a text -/
theorem qi_str {tg a : Expr} {ta : P0} (h : QE X C a ta) : QI X C tg a (fun ρ Q => ta ρ fun d => ∃ z, d = .str z ∧ Q (z.cps.toList.map fun c => .str ⟨#[c]⟩)) := by
  refine ⟨PI.weak (pi_str h.pe) fun σ H R q => ?_, fun ρ Q Q' w q => h.mono _ _ _ (fun d ⟨ds, e, q⟩ => ⟨ds, e, w _ q⟩) q⟩
  obtain ⟨ρ, he, j, q⟩ := q
  refine ⟨ρ, he, j, h.mono _ _ _ (fun d ⟨z, e, q⟩ v H' k1 j1 r => ?_) q⟩
  subst e
  cases r with
  | str x =>
    refine ⟨z, rfl, q _ H' k1 j1 fun i H2 k2 => ?_⟩
    refine ⟨fun e => ?_, fun d e => ?_⟩
    · show z.cps.size ≤ i
      rw [e]
      simp
    · rw [List.getElem?_map] at e
      cases hc : z.cps.toList[i]? with
      | none =>
        rw [hc] at e
        cases e
      | some c =>
        rw [hc] at e
        cases e
        have hi : i < z.cps.size := by
          have := (List.getElem?_eq_some_iff.mp hc).1
          simpa using this
        refine ⟨hi, fun x H3 hy => ?_⟩
        obtain ⟨rfl, c', hc', rfl⟩ := hy
        have : c' = c := by
          rw [← Array.getElem?_toList, hc] at hc'
          exact (Option.some.inj hc').symm
        subst this
        exact ⟨Same.refl _, .str _⟩
end
@[simp] theorem shp_int (i : Int) : shp (.int i) = true := rfl
@[simp] theorem shp_bool (i : Bool) : shp (.bool i) = true := rfl
@[simp] theorem shp_none : shp .none = true := rfl
@[simp] theorem eqv_int (i j : Int) : PyData.eqv (.int i) (.int j) = (i == j) := by simp [PyData.eqv]
@[simp] theorem eqv_str (i j : Str) : PyData.eqv (.str i) (.str j) = (i == j) := by simp [PyData.eqv]
@[simp] theorem eqA_str (d : PyData) (z : Str) : eqA d (.str z) = !isTok d := by simp [eqA]
@[simp] theorem eqA_nil (d : PyData) : eqA d (.tuple []) = !isTok d := by simp [eqA]
section
end
end Kq

set_option Elab.async false
set_option linter.all false
set_option maxRecDepth 100000
set_option maxHeartbeats 4000000
namespace Kq
open PySem PySem.Spec PyProof.Rows L2
/-! dicts whose keys are numbers and texts -/
abbrev DL := List (Key × PyData)
def dD (l : DL) : PyData := .dict (l.map fun p => (keyD p.1, p.2))
def putG (l : DL) (k : Key) (v : PyData) : DL := if (l.any fun kv => decide (kv.1 = k)) = true then l.map (fun kv => if kv.1 = k then (kv.1, v) else kv) else l ++ [(k, v)]
def valG (l : DL) (k : Key) : Option PyData := (l.find? fun kv => decide (kv.1 = k)).map (·.2)
inductive DqL (C : Cz) (H : Hp) : List (Key × V) → DL → Prop
  | nil : DqL C H [] []
  | cons {k : Key} {v : V} {d : PyData} {kvs : List (Key × V)} {l : DL} : Dq C H v d → DqL C H kvs l → DqL C H ((k, v) :: kvs) ((k, d) :: l)
theorem keyD_inj : ∀ {a b : Key}, keyD a = keyD b → a = b
  | .inl _, .inl _, h => by cases h; rfl
  | .inr _, .inr _, h => by cases h; rfl
  | .inl _, .inr _, h => by cases h
  | .inr _, .inl _, h => by cases h
theorem DqL.kv {C : Cz} {H : Hp} : ∀ {kvs : List (Key × V)} {l : DL}, DqL C H kvs l → DqKv C H kvs (l.map fun p => (keyD p.1, p.2))
  | _, _, .nil => .nil
  | _, _, .cons h t => .cons h (DqL.kv t)
theorem DqKv.dl {C : Cz} {H : Hp} : ∀ {kvs : List (Key × V)} {l : DL}, DqKv C H kvs (l.map fun p => (keyD p.1, p.2)) → DqL C H kvs l
  | [], [], _ => .nil
  | (k, v) :: kvs, (k2, d) :: l, h => by
    generalize e : ((k2, d) :: l).map (fun p : Key × PyData => (keyD p.1, p.2)) = ps at h
    cases h with
    | cons h t =>
      simp only [List.map_cons, List.cons.injEq, Prod.mk.injEq] at e
      obtain ⟨⟨e1, e2⟩, e3⟩ := e
      have := keyD_inj e1
      subst this e2
      rw [← e3] at t
      exact .cons h (DqKv.dl t)
  | [], (_, _) :: _, h => by cases h
  | (_, _) :: _, [], h => by cases h
theorem DqL.keep {C : Cz} {H H' : Hp} (k : Kx C H H') : ∀ {kvs : List (Key × V)} {l : DL}, DqL C H kvs l → DqL C H' kvs l
  | _, _, .nil => .nil
  | _, _, .cons h t => .cons (h.keep k) (DqL.keep k t)
theorem DqL.keys {C : Cz} {H : Hp} : ∀ {kvs : List (Key × V)} {l : DL}, DqL C H kvs l → kvs.map (·.1) = l.map (·.1)
  | _, _, .nil => rfl
  | _, _, .cons h t => by rw [List.map_cons, List.map_cons, DqL.keys t]
theorem DqL.length {C : Cz} {H : Hp} {kvs : List (Key × V)} {l : DL} (h : DqL C H kvs l) : kvs.length = l.length := by
  have := congrArg List.length h.keys
  simpa using this
theorem DqL.any {C : Cz} {H : Hp} (k : Key) : ∀ {kvs : List (Key × V)} {l : DL}, DqL C H kvs l → (kvs.any fun kv => decide (kv.1 = k)) = l.any fun kv => decide (kv.1 = k)
  | _, _, .nil => rfl
  | _, _, .cons h t => by rw [List.any_cons, List.any_cons, DqL.any k t]
theorem DqL.app {C : Cz} {H : Hp} : ∀ {kvs us : List (Key × V)} {l m : DL}, DqL C H kvs l → DqL C H us m → DqL C H (kvs ++ us) (l ++ m)
  | _, _, _, _, .nil, h => h
  | _, _, _, _, .cons h t, r => .cons h (DqL.app t r)
theorem DqL.mapP {C : Cz} {H : Hp} {k : Key} {v : V} {d : PyData} (r : Dq C H v d) : ∀ {kvs : List (Key × V)} {l : DL}, DqL C H kvs l → DqL C H (kvs.map fun kv => if kv.1 = k then (kv.1, v) else kv) (l.map fun kv => if kv.1 = k then (kv.1, d) else kv)
  | _, _, .nil => .nil
  | _, _, .cons (k := j) (v := u) (d := e) h t => by
    rw [List.map_cons, List.map_cons]
    by_cases e : j = k
    · rw [if_pos e, if_pos e]
      exact .cons r (DqL.mapP r t)
    · rw [if_neg e, if_neg e]
      exact .cons h (DqL.mapP r t)
theorem DqL.put {C : Cz} {H : Hp} {kvs : List (Key × V)} {l : DL} {k : Key} {v : V} {d : PyData} (h : DqL C H kvs l) (r : Dq C H v d) : DqL C H (putK kvs k v) (putG l k d) := by
  unfold putK putG
  rw [h.any k]
  by_cases e : (l.any fun kv => decide (kv.1 = k)) = true
  · rw [if_pos e, if_pos e]
    exact h.mapP r
  · rw [if_neg e, if_neg e]
    exact h.app (.cons r .nil)
theorem DqL.val {C : Cz} {H : Hp} {k : Key} : ∀ {kvs : List (Key × V)} {l : DL}, DqL C H kvs l → (∀ d, valG l k = some d → ∃ v, valV kvs k = some v ∧ Dq C H v d) ∧ (valG l k = none → valV kvs k = none)
  | _, _, .nil => ⟨fun d e => (by cases e), fun _ => rfl⟩
  | _, _, .cons (k := j) (v := u) (d := x) (l := l) h t => by
    have ih := DqL.val (k := k) t
    by_cases e : j = k
    · have e1 : valG ((j, x) :: l) k = some x := by simp [valG, List.find?_cons, e]
      rw [e1, valV_pos e]
      exact ⟨fun d z => (by cases z; exact ⟨u, rfl, h⟩), fun z => (by cases z)⟩
    · have e1 : valG ((j, x) :: l) k = valG l k := by simp [valG, List.find?_cons, e]
      rw [e1, valV_neg e]
      exact ih
theorem dq_dct {C : Cz} {H : Hp} {v : V} {l : DL} (r : Dq C H v (dD l)) : ∃ a kvs, v = .ref a ∧ ¬ C.M a ∧ H a = some (.dK kvs) ∧ DqL C H kvs l := by
  generalize e : dD l = t at r
  cases r with
  | @dct a kvs ps m h r =>
    have e' : l.map (fun p => (keyD p.1, p.2)) = ps := by
      unfold dD at e
      exact PyData.dict.inj e
    subst e'
    exact ⟨a, kvs, rfl, m, h, DqKv.dl r⟩
  | tok h =>
    exfalso
    unfold dD tokD at e
    have e' := PyData.dict.inj e
    cases l with
    | nil => cases e'
    | cons p l =>
      obtain ⟨k, d⟩ := p
      simp only [List.map_cons, List.cons.injEq, Prod.mk.injEq] at e'
      cases k <;> cases e'.1.1
  | _ => cases e
/-! comprehensions of dicts -/
def dcGo (ks : List Nat) (dec : Dec) (tt : P0T) (tk te : P0) (ρ : Rho) (Q : PyData → Prop) : List PyData → DL → Prop
  | [], acc => Q (dD acc)
  | d :: ds, acc => ∃ l, dec d = some l ∧ (∀ p ∈ l, p.1 ∈ ks) ∧ tt (setsR ρ l) fun b => if b = true then tk (setsR ρ l) fun y => te (setsR ρ l) fun z => ∃ k, y = keyD k ∧ noL z = true ∧ acc.length < sizeLine ∧ dcGo ks dec tt tk te ρ Q ds (putG acc k z) else dcGo ks dec tt tk te ρ Q ds acc
@[simp] def vDc (ks : List Nat) (ti : P0A) (dec : Dec) (tt : P0T) (tk te : P0) : P0 := fun ρ Q => ti ρ fun ds => dcGo ks dec tt tk te (wipeR ρ ks) Q ds []
theorem dcGo_mono {ks : List Nat} {dec : Dec} {tt : P0T} {tk te : P0} (hm : ∀ ρ Q Q', (∀ d, Q d → Q' d) → tt ρ Q → tt ρ Q') (hk : ∀ ρ Q Q', (∀ d, Q d → Q' d) → tk ρ Q → tk ρ Q') (hm2 : ∀ ρ Q Q', (∀ d, Q d → Q' d) → te ρ Q → te ρ Q') {ρ : Rho} {Q Q' : PyData → Prop} (w : ∀ d, Q d → Q' d) :
    ∀ (ds : List PyData) (acc : DL), dcGo ks dec tt tk te ρ Q ds acc → dcGo ks dec tt tk te ρ Q' ds acc
  | [], acc, h => w _ h
  | d :: ds, acc, ⟨l, e, c, h⟩ => ⟨l, e, c, hm _ _ _ (fun b q => by
      cases b with
      | true => exact hk _ _ _ (fun y q => hm2 _ _ _ (fun z ⟨k, e1, e2, e3, q⟩ => ⟨k, e1, e2, e3, dcGo_mono hm hk hm2 w ds _ q⟩) q) q
      | false => exact dcGo_mono hm hk hm2 w ds _ q) h⟩
theorem dq_key {C : Cz} {H : Hp} {v : V} {k : Key} (r : Dq C H v (keyD k)) : v = kV k := by
  cases k with
  | inl i => cases r; rfl
  | inr x => cases r; rfl
section
variable {X : Cx} {C : Cz} {pos : Pos}
theorem qe_dc {kx vx tg iter : Expr} {ifs : List Expr} {scope : Scope} {own : List (Str × Nat)} {ti : P0A} {dec : Dec} {G : TG} {tt : P0T} {tk te : P0} (hc : X.calm = true) (hN : X.N.Nodup) (hi : QI X C tg iter ti) (ok : BlkOk X.N X.env.scope scope own)
    (hg : ∀ (s : Shared) (H : Hp) (Cc : Addr) (cl : List (Str × Addr)) (fp : List Addr), QG (X.blk s H scope (compEnvC scope cl Cc X.env) fp) X.K C tg G dec) (ht : ∀ (s : Shared) (H : Hp) (Cc : Addr) (cl : List (Str × Addr)) (fp : List Addr), QTs (X.blk s H scope (compEnvC scope cl Cc X.env) fp) C ifs tt)
    (hk : ∀ (s : Shared) (H : Hp) (Cc : Addr) (cl : List (Str × Addr)) (fp : List Addr), QE (X.blk s H scope (compEnvC scope cl Cc X.env) fp) C kx tk) (he : ∀ (s : Shared) (H : Hp) (Cc : Addr) (cl : List (Str × Addr)) (fp : List Addr), QE (X.blk s H scope (compEnvC scope cl Cc X.env) fp) C vx te) (hs : ∀ x, foldedSetIterable iter X.env x = pure x := by intro _; rfl) :
    QE X C (.DictComp kx vx [⟨tg, iter, ifs, 0⟩] scope pos) (vDc (own.map (·.2)) ti dec tt tk te) := by
  have am := (ht X.s_0 (fun _ => none) 0 [] []).mono
  have km := (hk X.s_0 (fun _ => none) 0 [] []).mono
  have bm := (he X.s_0 (fun _ => none) 0 [] []).mono
  have gm := (hg X.s_0 (fun _ => none) 0 [] []).go
  refine ⟨PE.weak (pe_dc hc hN hi.pi ok (fun s H c cl fp => (hg s H c cl fp).pg) (fun s H c cl fp => (ht s H c cl fp).pts) (fun s H c cl fp => (hk s H c cl fp).pe) (fun s H c cl fp => (he s H c cl fp).pe) hs) fun σ H Q h => ?_, fun ρ Q Q' w h => hi.mono _ _ _ (fun ds q => dcGo_mono am km bm w ds _ q) h⟩
  obtain ⟨ρ, hE, j, h⟩ := h
  refine ⟨ρ, hE, j, hi.mono _ _ _ (fun ds q J H1 k1 j1 it => ?_) h⟩
  intro D nD
  have he1 := hE.keep k1
  have mD : ¬ C.M D := freshM C j1 nD
  have st0 : EnvOk (C.plus D) H1 σ ρ := ⟨he1.len, fun i d e => by
    obtain ⟨v, e1, r⟩ := he1.at_ i d e
    exact ⟨v, e1, r.clear nD⟩⟩
  generalize hks : own.map (·.2) = ks at *
  refine ⟨fun i m H => m = ds.length - i ∧ i ≤ ds.length ∧ ∃ (acc : List (Key × V)) (ys : DL), Kx C H1 H ∧ C.J H ∧ H D = some (.dK acc) ∧ DqL (C.plus D) H acc ys ∧ (∀ p ∈ ys, noL p.2 = true) ∧ EnvOk (C.plus D) H (wipe σ ks) (wipeR ρ ks) ∧
    dcGo ks dec tt tk te (wipeR ρ ks) (Kn C _ Q) (ds.drop i) ys, ⟨ds.length, by omega, Nat.zero_le _, [], [], kxSame (same_upd nD), C.same _ _ (same_upd nD) j1, upd_same, .nil, by simp, (st0.wipe ks).keep (kxSame (same_upd nD)), q⟩, ?_⟩
  rintro i m H ⟨rfl, hi, acc, ys, kx, jH, hD, hA, hn, hEn, go⟩
  obtain ⟨fin, step⟩ := it i H kx
  by_cases hlt : i < ds.length
  · have hd : ds[i]? = some ds[i] := List.getElem?_eq_getElem hlt
    obtain ⟨g1, g2⟩ := step _ hd
    rw [← List.getElem_cons_drop hlt] at go
    obtain ⟨l, e, c, go⟩ := go
    refine .inr ⟨g1, fun H => ∃ (acc : List (Key × V)) (ys : DL), Kx C H1 H ∧ C.J H ∧ H D = some (.dK acc) ∧ DqL (C.plus D) H acc ys ∧ (∀ p ∈ ys, noL p.2 = true) ∧ EnvOk (C.plus D) H (wipe σ ks) (wipeR ρ ks) ∧
      dcGo ks dec tt tk te (wipeR ρ ks) (Kn C _ Q) (ds.drop (i + 1)) ys, fun H' h => ⟨_, by omega, rfl, hlt, h⟩, fun x H' hy => ?_⟩
    obtain ⟨s1, r⟩ := g2 x H' hy
    have k1' : Kx C H H' := kxSame s1
    have j1' := C.same _ _ s1 jH
    refine gm H' _ x _ l _ r e fun vs hv => ⟨wipe_sets (hv.keys c), ?_⟩
    have hE1 := hEn.keep (Kx.plus k1')
    have hE2 : EnvOk C H' (wipe σ ks) (wipeR ρ ks) := EnvOk.sub (C := C.plus D) (C' := C) (fun _ m => Or.inl m) (fun z => z) rfl hE1
    have hE3 := EnvOk.sets _ _ _ _ hE2 hv
    refine ⟨setsR (wipeR ρ ks) l, hE3, j1', am _ _ _ (fun b q H3 k3 j3 => ?_) go⟩
    cases b with
    | true =>
      refine ⟨setsR (wipeR ρ ks) l, hE3.keep k3, j3, km _ _ _ (fun y q vk H4 k4 j4 r4 => ?_) q⟩
      refine ⟨setsR (wipeR ρ ks) l, (hE3.keep k3).keep k4, j4, bm _ _ _ (fun z ⟨k, ey, nz, hl, q5⟩ v H5 k5 j5 r5 => ?_) q⟩
      subst ey
      have k15 : Kx C H H5 := k1'.trans (k3.trans (k4.trans k5))
      have hD5 := k15.2 D _ mD hD
      have kD : Kx (C.plus D) H5 (upd H5 D (.dK (putK acc k v))) := ⟨fun b xs eb => by rw [upd_ne (ne_of eb hD5 (by intro z; cases z))]; exact eb, fun b o m eb => by rw [upd_ne (fun z => m (.inr z))]; exact eb⟩
      refine ⟨acc, k, dq_key r4, hD5, by rw [hA.length]; exact hl, putK acc k v, putG ys k z, ?_, C.st H5 _ (fun b o (m : C.M b) eb => by rw [upd_ne (show b ≠ D from fun z => mD (by rw [← z]; exact m))]; exact eb) j5, upd_same, ?_, ?_, (hEn.keep (Kx.plus k15)).keep kD, q5⟩
      · refine ⟨fun b xs eb => ?_, fun b o m eb => ?_⟩
        · rw [upd_ne (ne_of_none eb nD)]
          exact (kx.trans k15).1 b xs eb
        · rw [upd_ne (ne_of_none eb nD)]
          exact (kx.trans k15).2 b o m eb
      · exact ((hA.keep (Kx.plus k15)).put (r5.noL nz)).keep kD
      · intro p hp
        unfold putG at hp
        by_cases ea : (ys.any fun kv => decide (kv.1 = k)) = true
        · rw [if_pos ea] at hp
          obtain ⟨p0, hp0, rfl⟩ := List.mem_map.mp hp
          by_cases e2 : p0.1 = k
          · rw [if_pos e2]
            exact nz
          · rw [if_neg e2]
            exact hn p0 hp0
        · rw [if_neg ea] at hp
          rcases List.mem_append.mp hp with hp | hp
          · exact hn p hp
          · rw [List.mem_singleton.mp hp]
            exact nz
    | false =>
      have k13 : Kx C H H3 := k1'.trans k3
      exact ⟨acc, ys, kx.trans k13, j3, k13.2 D _ mD hD, hA.keep (Kx.plus k13), hn, hEn.keep (Kx.plus k13), q⟩
  · have e : i = ds.length := by omega
    subst e
    rw [List.drop_length] at go
    have sub : ∀ {kvs : List (Key × V)} {l : DL}, DqL (C.plus D) H kvs l → DqL C H kvs l := by
      intro kvs l h
      induction h with
      | nil => exact .nil
      | cons h _ ih => exact .cons (Dq.sub (C := C.plus D) (C' := C) (fun _ m => Or.inl m) (fun z => z) rfl h) ih
    exact .inl ⟨fin rfl, go (.ref D) H (k1.trans kx) jH (.dct mD hD (sub hA).kv)⟩
theorem dq_keys {H : Hp} : ∀ ks : List Key, DqAll C H (ks.map kV) (ks.map keyD)
  | [] => .nil
  | .inl i :: ks => .cons (.int i) (dq_keys ks)
  | .inr x :: ks => .cons (.str x) (dq_keys ks)
/-! tuple(d) -/
@[simp] def fTupD : Fr := fun ds Q => ∃ l : DL, ds = [dD l] ∧ Q (.tuple (l.map fun p => keyD p.1))
theorem cq_tupleD (hc : X.calm = true) : CQ X C (.type "tuple") fTupD := by
  refine ⟨fun pins s σ H xs us Q I r q => ?_, fun x Q Q' w ⟨l, e1, q⟩ => ⟨l, e1, w _ q⟩⟩
  obtain ⟨ds, hr, j, l, rfl, q⟩ := q
  cases hr with
  | cons h t =>
    cases t
    obtain ⟨a, kvs, rfl, m, hH, hl⟩ := dq_dct h
    refine call_tuple_dK hc pins s σ H _ us Q I r ⟨a, kvs, rfl, hH, fun p np => ?_⟩
    have sm := same_upd (o := .tup (kvs.map fun kv => kV kv.1)) np
    refine q _ _ (kxSame sm) (C.same _ _ sm j) (.tup upd_same ?_)
    have e1 : (kvs.map fun kv => kV kv.1) = (kvs.map (·.1)).map kV := by rw [List.map_map]; rfl
    have e2 : (l.map fun p => keyD p.1) = (l.map (·.1)).map keyD := by rw [List.map_map]; rfl
    rw [e1, e2, hl.keys]
    exact dq_keys _
/-! d[k], d.get(k), d.get(k, x), k in d -/
variable {a b c : Expr} {ta tb tc : P0}
theorem dq_key2 {H : Hp} {d : PyData} {v : V} {k : Key} (e : d = keyD k) (r : Dq C H v d) : v = kV k := by
  subst e
  exact dq_key r
@[simp] def vDget (ta tb : P0) : P0 := fun ρ Q => ta ρ fun d1 => tb ρ fun d2 => ∃ (l : DL) (k : Key) (d : PyData), d1 = dD l ∧ d2 = keyD k ∧ valG l k = some d ∧ Q d
theorem qe_dget (hu : X.A.units + 1 < cLine) (ha : QE X C a ta) (hb : QE X C b tb) (hs : NoSl b) : QE X C (.Subscript a b pos) (vDget ta tb) := by
  refine ⟨PE.weak (pe_dget hu ha.pe hb.pe hs) fun σ H Q h => ?_, fun ρ Q Q' w h => ha.mono _ _ _ (fun d1 h => hb.mono _ _ _ (fun d2 ⟨l, k, d, e1, e2, e3, q⟩ => ⟨l, k, d, e1, e2, e3, w _ q⟩) h) h⟩
  obtain ⟨ρ, he, j, h⟩ := h
  refine ⟨ρ, he, j, ha.mono _ _ _ (fun d1 h1 v H1 k1 j1 r1 => ?_) h⟩
  refine ⟨ρ, he.keep k1, j1, hb.mono _ _ _ (fun d2 ⟨l, k, d, e1, e2, e3, q⟩ w H2 k2 j2 r2 => ?_) h1⟩
  subst e1
  obtain ⟨a', kvs, rfl, m, hH, hl⟩ := dq_dct (r1.keep k2)
  obtain ⟨x, ex, rx⟩ := hl.val.1 d e3
  rw [dq_key2 e2 r2]
  have g := DGet.k (k := k) hH
  rw [ex] at g
  exact ⟨a', x, rfl, g, q _ H2 (k1.trans k2) j2 rx⟩
@[simp] def vDget2 (ta tb tc : P0) : P0 := fun ρ Q => ta ρ fun d1 => ∃ l : DL, d1 = dD l ∧ tb ρ fun d2 => tc ρ fun d3 => ∃ k : Key, d2 = keyD k ∧ Q ((valG l k).getD d3)
theorem qe_dget2 {apos cpos : Pos} (hu : X.A.units + 1 < cLine) (ha : QE X C a ta) (hb : QE X C b tb) (hc : QE X C c tc) (m : M2 X a "get" apos b c cpos) : QE X C (.Call (.Attribute a "get" apos) [b, c] [] cpos) (vDget2 ta tb tc) := by
  refine ⟨PE.weak (pe_dget2 hu ha.pe hb.pe hc.pe m) fun σ H Q h => ?_, fun ρ Q Q' w h => ha.mono _ _ _ (fun d1 ⟨l, e, h⟩ => ⟨l, e, hb.mono _ _ _ (fun d2 h => hc.mono _ _ _ (fun d3 ⟨k, e2, q⟩ => ⟨k, e2, w _ q⟩) h) h⟩) h⟩
  obtain ⟨ρ, he, j, h⟩ := h
  refine ⟨ρ, he, j, ha.mono _ _ _ (fun d1 ⟨l, e1, h1⟩ v H1 k1 j1 r1 => ?_) h⟩
  subst e1
  obtain ⟨a', kvs, rfl, m, hH, hl⟩ := dq_dct r1
  refine ⟨a', rfl, .inl ⟨kvs, .inl hH⟩, ρ, he.keep k1, j1, hb.mono _ _ _ (fun d2 h2 u H2 k2 j2 r2 => ?_) h1⟩
  refine ⟨ρ, (he.keep k1).keep k2, j2, hc.mono _ _ _ (fun d3 ⟨k, e2, q⟩ z H3 k3 j3 r3 => ?_) h2⟩
  rw [dq_key2 e2 (r2.keep k3)]
  have hH3 := k3.2 _ _ m (k2.2 _ _ m hH)
  have hl3 := (hl.keep k2).keep k3
  have g := DGet.k (k := k) hH3
  cases ev : valG l k with
  | none =>
    rw [hl3.val.2 ev] at g
    rw [ev] at q
    exact ⟨none, g, q _ H3 (k1.trans (k2.trans k3)) j3 r3⟩
  | some d =>
    obtain ⟨x, ex, rx⟩ := hl3.val.1 d ev
    rw [ex] at g
    rw [ev] at q
    exact ⟨some x, g, q _ H3 (k1.trans (k2.trans k3)) j3 rx⟩
end
end Kq

set_option Elab.async false
set_option linter.all false
set_option maxRecDepth 100000
namespace Kq
open PySem PySem.Spec PyProof.Rows L2
def topS (i : Nat) : Stmt := PySem.Challenge.pw_fairsearch_k02_unknowns_and_ground_ones.main.body.getD i (.Pass ⟨0, 0, 0, 0⟩)
end Kq

set_option Elab.async false
set_option linter.all false
set_option maxRecDepth 100000
set_option maxHeartbeats 4000000
namespace Kq
open PySem PySem.Spec PyProof.Rows L2
abbrev s_is_whole : Stmt := topS 1
theorem sc_is_whole : FnScope ["thing"] ["thing"] (defScope s_is_whole) := ⟨rfl, rfl, rfl, by decide +kernel, rfl, by decide +kernel, by decide +kernel⟩
abbrev s_is_tuple_of : Stmt := topS 2
theorem sc_is_tuple_of : FnScope ["thing", "many"] ["thing", "many"] (defScope s_is_tuple_of) := ⟨rfl, rfl, rfl, by decide +kernel, rfl, by decide +kernel, by decide +kernel⟩
abbrev s_is_marked : Stmt := topS 3
theorem sc_is_marked : FnScope ["thing"] ["thing"] (defScope s_is_marked) := ⟨rfl, rfl, rfl, by decide +kernel, rfl, by decide +kernel, by decide +kernel⟩
abbrev s_is_unknown : Stmt := topS 4
theorem sc_is_unknown : FnScope ["thing"] ["thing"] (defScope s_is_unknown) := ⟨rfl, rfl, rfl, by decide +kernel, rfl, by decide +kernel, by decide +kernel⟩
abbrev s_is_pair : Stmt := topS 5
theorem sc_is_pair : FnScope ["thing"] ["thing"] (defScope s_is_pair) := ⟨rfl, rfl, rfl, by decide +kernel, rfl, by decide +kernel, by decide +kernel⟩
abbrev s_leaves_of : Stmt := topS 7
theorem sc_leaves_of : FnScope ["things", "leaves", "waiting", "part"] ["things"] (defScope s_leaves_of) := ⟨rfl, rfl, rfl, by decide +kernel, rfl, by decide +kernel, by decide +kernel⟩
/-! anything, clean of tokens -/
mutual
def cl : PyData → Bool
  | .str z => decide (z.length ≤ 100000)
  | .list xs => clAll xs
  | .tuple xs => clAll xs
  | .dict ((.none, _) :: _) => false
  | _ => true
def clAll : List PyData → Bool
  | [] => true
  | x :: xs => cl x && clAll xs
end
theorem cl_tok {d : PyData} (h : cl d = true) : isTok d = false := by
  cases d with
  | dict kvs =>
    match kvs, h with
    | [], _ => rfl
    | (.none, _) :: _, h => simp [cl] at h
    | (.bool _, _) :: _, _ => rfl
    | (.int _, _) :: _, _ => rfl
    | (.str _, _) :: _, _ => rfl
    | (.list _, _) :: _, _ => rfl
    | (.tuple _, _) :: _, _ => rfl
    | (.dict _, _) :: _, _ => rfl
  | _ => rfl
theorem cl_all {xs : List PyData} (h : cl (.tuple xs) = true) : clAll xs = true := by simpa [cl] using h
theorem cl_cons {x : PyData} {xs : List PyData} (h : clAll (x :: xs) = true) : cl x = true ∧ clAll xs = true := by simpa [clAll] using h
@[simp] def p1 (p : PyData → Prop) : List PyData → Prop := fun ds => ∃ x, ds = [x] ∧ p x
@[simp] def r1 (f : PyData → PyData) : List PyData → PyData → Prop := fun ds d => ∃ x, ds = [x] ∧ d = f x
@[simp] def b1 (f : PyData → Bool) : List PyData → PyData → Prop := r1 fun x => .bool (f x)
theorem len1 {p : PyData → Prop} {a : Str} : ∀ ds, p1 p ds → ds.length = [a].length := by rintro _ ⟨x, rfl, _⟩; rfl
theorem nob {p : PyData → Prop} {f : PyData → Bool} : ∀ ds d, p1 p ds → b1 f ds d → noL d = true := by rintro _ d _ ⟨x, rfl, rfl⟩; rfl
def isWhole : PyData → Bool
  | .int _ => true
  | _ => false
def signOk (c : Nat) : Bool := decide (97 ≤ c) && decide (c ≤ 122)
def isWordS (z : Str) : Bool := decide (1 ≤ z.length) && decide (z.length ≤ 8) && z.cps.toList.all signOk
def isWord : PyData → Bool
  | .str z => isWordS z
  | _ => false
def isAtom (d : PyData) : Bool := isWhole d || isWord d
def isQ (d : PyData) : Bool := PyData.eqv d (.str "?")
def isMk : PyData → Bool
  | .tuple [a, _] => isQ a
  | _ => false
def isPr : PyData → Bool
  | .tuple [a, _] => !isQ a
  | _ => false
def isUk : PyData → Bool
  | .tuple [a, .int n] => isQ a && decide (0 ≤ n)
  | _ => false
def isNil : PyData → Bool
  | .tuple [] => true
  | _ => false
def isLeaf (d : PyData) : Bool := isNil d || isAtom d || isUk d
theorem small2 : ∀ n : Nat, n ≤ 100000 → n ≤ sizeLine := fun n h => Nat.le_trans h (by decide)
/-! comprehensions -/
theorem lc_go {ks : List Nat} {dec : Dec} {tt : P0T} {te : P0} {ρ : Rho} {Q : PyData → Prop} (f : PyData → Option PyData) : ∀ (ds acc : List PyData), acc.length + ds.length ≤ 1000000 →
    (∀ d ∈ ds, ∃ l, dec d = some l ∧ (∀ p ∈ l, p.1 ∈ ks) ∧ ∀ R : Option PyData → Prop, R (f d) → tt (setsR ρ l) fun b => if b = true then te (setsR ρ l) fun y => noL y = true ∧ R (some y) else R none) → Q (.list (acc ++ ds.filterMap f)) → lcGo ks dec tt te ρ Q ds acc
  | [], acc, _, _, q => by
    rw [List.filterMap_nil, List.append_nil] at q
    exact q
  | d :: ds, acc, hl, h, q => by
    obtain ⟨l, e, c, hr⟩ := h d (List.mem_cons_self ..)
    rw [List.length_cons] at hl
    have rest := fun d hd => h d (List.mem_cons_of_mem _ hd)
    have big : acc.length < sizeLine := Nat.lt_of_lt_of_le (show acc.length < 1000000 by omega) (by decide)
    refine ⟨l, e, c, ?_⟩
    have := hr (fun o => match o with | some y => acc.length < sizeLine ∧ lcGo ks dec tt te ρ Q ds (acc ++ [y]) | none => lcGo ks dec tt te ρ Q ds acc) ?_
    · exact this
    · cases hf : f d with
      | none => exact lc_go f ds acc (by omega) rest (by rw [List.filterMap_cons, hf] at q; exact q)
      | some y => exact ⟨big, lc_go f ds (acc ++ [y]) (by rw [List.length_append]; show acc.length + 1 + _ ≤ _; omega) rest (by rw [List.filterMap_cons, hf] at q; simpa using q)⟩
section
variable {P : Program} {w : World} {K : PySem.W.Frag} {mg : Str → Option Value} {base : Heap} {n : Nat}
theorem c_is_whole (B : Bl mg) (D : Dfn K mg "is_whole" s_is_whole ["thing"]) : Cal P w K mg base (n + 1) "is_whole" ["thing"] (spQ Any (p1 fun x => isTok x = false) (b1 isWhole)) := by
  refine defC [] D sc_is_whole len1 (by simp) (fun _ h => h) nob (fun f C hG lx cdv A outer s H E hr => ⟨_, (qss_one (qs_ret (qe_and (qe_isi "int" (by decide) (fun _ h => pe_callB call_isi (by rfl) B.isinstance (by decide +kernel) (pa_cons h (pa_cons (pe_bltn (v := .ty "int") (by rfl) B.int (by decide +kernel) rfl) pa_nil))) (qv 0)) (qe_one (qe_not (qe_isi "bool" (by decide) (fun _ h => pe_callB call_isi (by rfl) B.isinstance (by decide +kernel) (pa_cons h (pa_cons (pe_bltn (v := .ty "bool") (by rfl) B.bool (by decide +kernel) rfl) pa_nil))) (qv 0))))))), ?_⟩)
  rintro _ ⟨x, rfl, hx⟩
  cases x <;> simp [isWhole, hx]
def isTupOf : PyData → Int → Bool
  | .tuple xs, n => ((xs.length : Int) == n)
  | _, _ => false
@[simp] def toF : List PyData → Bool
  | [x, .int n] => isTupOf x n
  | _ => false
@[simp] def pTo : List PyData → Prop := fun ds => ∃ x n, ds = [x, .int n] ∧ isTok x = false
@[simp] def rTo : List PyData → PyData → Prop := fun ds d => d = .bool (toF ds)
theorem c_is_tuple_of (B : Bl mg) (D : Dfn K mg "is_tuple_of" s_is_tuple_of ["thing", "many"]) : Cal P w K mg base (n + 1) "is_tuple_of" ["thing", "many"] (spQ Any pTo rTo) := by
  refine defC [] D sc_is_tuple_of (by rintro _ ⟨x, n, rfl, _⟩; rfl) (by simp) (fun _ h => h) (by rintro _ d _ rfl; rfl) (fun f C hG lx cdv A outer s H E hr => ⟨_, (qss_one (qs_ret (qe_and (qe_isi "tuple" (by decide) (fun _ h => pe_callB call_isi (by rfl) B.isinstance (by decide +kernel) (pa_cons h (pa_cons (pe_bltn (v := .ty "tuple") (by rfl) B.tuple (by decide +kernel) rfl) pa_nil))) (qv 0)) (qe_one (qe_cmp (oq_eq hr.units) (qe_callB cq_len (by rfl) B.len PySem.boot_len (qa_cons (qv 0) qa_nil)) (qv 1) (nomark _)))))), ?_⟩)
  rintro _ ⟨x, m, rfl, hx⟩
  cases x <;> simp [isTupOf, hx]
theorem c_is_marked (B : Bl mg) (D : Dfn K mg "is_marked" s_is_marked ["thing"]) (c_is_tuple_of : Cal P w K mg base n "is_tuple_of" ["thing", "many"] (spQ Any pTo rTo)) : Cal P w K mg base (n + 1) "is_marked" ["thing"] (spQ Any (p1 fun x => cl x = true) (b1 isMk)) := by
  refine defC [] D sc_is_marked len1 (by simp) (fun _ h => h) nob (fun f C hG lx cdv A outer s H E hr => ⟨_, (qss_one (qs_ret (qe_and (qe_cal c_is_tuple_of hG hr (by rfl) (qa_cons (qv 0) (qa_cons qe_int qa_nil))) (qe_one (qe_cmp (oq_eqA hr.units) (qe_ix (qv 0) qe_int (fun _ _ => rfl)) qe_str (nomark _)))))), ?_⟩)
  rintro _ ⟨x, rfl, hx⟩
  have ht := cl_tok hx
  cases x with
  | tuple xs =>
    match xs, hx with
    | [], _ => simp [isMk, isTupOf, ht]
    | [a], _ => simp [isMk, isTupOf, ht]
    | [a, b], h => simp [isMk, isTupOf, L2.atI, ixN, cl_tok (cl_cons (cl_all h)).1, isQ, ht]
    | a :: b :: c :: r, _ =>
      simp [isMk, isTupOf, ht]
      omega
  | _ => simp [ht, isMk, isTupOf]
theorem c_is_pair (B : Bl mg) (D : Dfn K mg "is_pair" s_is_pair ["thing"]) (c_is_tuple_of : Cal P w K mg base n "is_tuple_of" ["thing", "many"] (spQ Any pTo rTo)) : Cal P w K mg base (n + 1) "is_pair" ["thing"] (spQ Any (p1 fun x => cl x = true) (b1 isPr)) := by
  refine defC [] D sc_is_pair len1 (by simp) (fun _ h => h) nob (fun f C hG lx cdv A outer s H E hr => ⟨_, (qss_one (qs_ret (qe_and (qe_cal c_is_tuple_of hG hr (by rfl) (qa_cons (qv 0) (qa_cons qe_int qa_nil))) (qe_one (qe_cmp (oq_neA hr.units) (qe_ix (qv 0) qe_int (fun _ _ => rfl)) qe_str (nomark _)))))), ?_⟩)
  rintro _ ⟨x, rfl, hx⟩
  have ht := cl_tok hx
  cases x with
  | tuple xs =>
    match xs, hx with
    | [], _ => simp [isPr, isTupOf, ht]
    | [a], _ => simp [isPr, isTupOf, ht]
    | [a, b], h => simp [isPr, isTupOf, L2.atI, ixN, cl_tok (cl_cons (cl_all h)).1, isQ, ht]
    | a :: b :: c :: r, _ =>
      simp [isPr, isTupOf, ht]
      omega
  | _ => simp [ht, isPr, isTupOf]
theorem c_is_unknown (B : Bl mg) (D : Dfn K mg "is_unknown" s_is_unknown ["thing"]) (c_is_marked : Cal P w K mg base n "is_marked" ["thing"] (spQ Any (p1 fun x => cl x = true) (b1 isMk))) (c_is_whole : Cal P w K mg base n "is_whole" ["thing"] (spQ Any (p1 fun x => isTok x = false) (b1 isWhole))) :
    Cal P w K mg base (n + 1) "is_unknown" ["thing"] (spQ Any (p1 fun x => cl x = true) (b1 isUk)) := by
  refine defC [] D sc_is_unknown len1 (by simp) (fun _ h => h) nob (fun f C hG lx cdv A outer s H E hr => ⟨_, (qss_one (qs_ret (qe_and (qe_cal c_is_marked hG hr (by rfl) (qa_cons (qv 0) qa_nil)) (qe_and (qe_cal c_is_whole hG hr (by rfl) (qa_cons (qe_ix (qv 0) qe_int (fun _ _ => rfl)) qa_nil)) (qe_one (qe_cmp oq_ge (qe_ix (qv 0) qe_int (fun _ _ => rfl)) qe_int (nomark _))))))), ?_⟩)
  rintro _ ⟨x, rfl, hx⟩
  cases x with
  | tuple xs =>
    match xs, hx with
    | [], hx => simp [isMk, isUk, hx]
    | [a], hx => simp [isMk, isUk, hx]
    | [a, b], h =>
      have hb := cl_tok (cl_cons (cl_cons (cl_all h)).2).1
      cases hq : isQ a with
      | false => cases b <;> simp [isMk, isUk, L2.atI, ixN, h, hq]
      | true => cases b <;> simp [isMk, isUk, L2.atI, ixN, h, hq, hb, isWhole]
    | a :: b :: c :: r, hx => cases b <;> simp [isMk, isUk, hx]
  | _ => simp [isMk, isUk, hx]
theorem one_lt (a b : Nat) : ([a] < [b]) = (a < b) := by
  apply propext
  rw [List.cons_lt_cons_iff]
  constructor
  · rintro (h | ⟨_, h⟩)
    · exact h
    · exact absurd h (List.not_lt_nil _)
  · exact .inl
theorem eqv_nil (d : PyData) : PyData.eqv d (.tuple []) = isNil d := by
  cases d with
  | tuple xs => cases xs <;> simp [PyData.eqv, PyData.eqvAll, isNil]
  | _ => simp [PyData.eqv, isNil]
/-! leaves -/
def leaves : PyData → List PyData
  | .tuple [a, b] => if isQ a then [.tuple [a, b]] else leaves a ++ leaves b
  | d => [d]
def leavesAll (ts : List PyData) : List PyData := ts.flatMap leaves
theorem leaves_leaf {d : PyData} (h : isPr d = false) : leaves d = [d] := by
  match d, h with
  | .tuple [a, b], h =>
    have hq : isQ a = true := by simpa [isPr] using h
    simp [leaves, hq]
  | .tuple [], _ => rfl
  | .tuple [_], _ => rfl
  | .tuple (_ :: _ :: _ :: _), _ => rfl
  | .none, _ => rfl
  | .bool _, _ => rfl
  | .int _, _ => rfl
  | .str _, _ => rfl
  | .list _, _ => rfl
  | .dict _, _ => rfl
theorem leaves_pair {a b : PyData} (h : isQ a = false) : leaves (.tuple [a, b]) = leaves a ++ leaves b := by simp [leaves, h]
theorem leaves_len : ∀ d : PyData, (leaves d).length ≤ d.bulk + 1
  | .tuple [a, b] => by
    have h1 := leaves_len a
    have h2 := leaves_len b
    have e : (PyData.tuple [a, b]).bulk = a.bulk + b.bulk + 2 := by
      show a.bulk + 1 + (b.bulk + 1 + 0) = _
      omega
    cases hq : isQ a
    · rw [leaves_pair hq, List.length_append]
      omega
    · simp [leaves, hq]
  | .tuple [] => by simp [leaves]
  | .tuple [_] => by simp [leaves]
  | .tuple (_ :: _ :: _ :: _) => by simp [leaves]
  | .none => by simp [leaves]
  | .bool _ => by simp [leaves]
  | .int _ => by simp [leaves]
  | .str _ => by simp [leaves]
  | .list _ => by simp [leaves]
  | .dict _ => by simp [leaves]
theorem c_leaves_of (B : Bl mg) (D : Dfn K mg "leaves_of" s_leaves_of ["things"]) (c_is_pair : Cal P w K mg base n "is_pair" ["thing"] (spQ Any (p1 fun x => cl x = true) (b1 isPr))) :
    Cal P w K mg base (n + 1) "leaves_of" ["things"] (spQ Any (fun ds => ∃ ts, ds = [.tuple ts] ∧ clAll ts = true ∧ PyData.bulkAll ts ≤ 400000) (fun ds d => ∃ ts, ds = [.tuple ts] ∧ d = .list (leavesAll ts))) := by
  refine defCL [1, 2] D sc_leaves_of (by rintro _ ⟨x, rfl, _⟩; rfl) (by decide) (fun f C hG cdv A outer s H E hr => ⟨_, (qss_cons (qs_own (k := 1) (by decide) sc_leaves_of.nd rfl (by first | exact Or.inl rfl | exact Or.inr rfl) (fun _ => (qf_lst qa_nil))) (qss_cons (qs_own (k := 2) (by decide) sc_leaves_of.nd rfl (by first | exact Or.inl rfl | exact Or.inr rfl) (fun _ => (qf_lstRev (fun _ h => pe_lstRev rfl (by rfl) B.list (by rfl) B.reversed h) (qv 0)))) (qss_cons (qs_while PassesOwn.never (qt_tru (qv 2)) (qss_cons (qs_pop (k := 2) (G := (gName 3)) (dec := (dName 3)) (pe_bm0 PySem.F.plainAttrs_list PySem.F.slot_list_pop PySem.F.type_list_pop mt_pop (pv 2)) (fun _ => (qg_name (k := 3) sc_leaves_of.nd rfl (by first | exact Or.inl rfl | exact Or.inr rfl)))) (qss_one (qs_if (qt_val (qe_cal c_is_pair hG hr (by rfl) (qa_cons (qv 3) qa_nil))) (qss_cons (qs_append (k := 2) (fun _ h => pe_bm PySem.F.plainAttrs_list PySem.F.slot_list_append PySem.F.type_list_append mt_append (pv 2) (pa_cons h pa_nil)) (fun _ => (qe_ix (qv 3) qe_int (fun _ _ => rfl)))) (qss_one (qs_append (k := 2) (fun _ h => pe_bm PySem.F.plainAttrs_list PySem.F.slot_list_append PySem.F.type_list_append mt_append (pv 2) (pa_cons h pa_nil)) (fun _ => (qe_ix (qv 3) qe_int (fun _ _ => rfl)))))) (qss_one (qs_append (k := 1) (fun _ h => pe_bm PySem.F.plainAttrs_list PySem.F.slot_list_append PySem.F.type_list_append mt_append (pv 1) (pa_cons h pa_nil)) (fun _ => (qv 3)))))))) (qss_one (qs_ret (qv 1)))))), ?_⟩)
  rintro _ ⟨ts, rfl, hc, hb⟩
  simp [hide]
  have bl : ∀ us : List PyData, us.length ≤ PyData.bulkAll us := by
    intro us
    induction us with
    | nil => exact Nat.le_refl _
    | cons u us ih =>
      show us.length + 1 ≤ u.bulk + 1 + PyData.bulkAll us
      omega
  refine ⟨fun m ρ => ∃ (part : Option PyData) (acc us : List PyData), ρ = [some (.tuple ts), some (.list acc), some (.list us.reverse), part] ∧ m = PyData.bulkAll us ∧ clAll us = true ∧ acc ++ leavesAll us = leavesAll ts ∧ acc.length + (leavesAll us).length ≤ 600000 ∧ PyData.bulkAll us ≤ 400000, ⟨_, none, [], ts, rfl, rfl, hc, rfl, ?_, hb⟩, ?_⟩
  · have : ∀ us : List PyData, (leavesAll us).length ≤ PyData.bulkAll us := by
      intro us
      induction us with
      | nil => exact Nat.le_refl _
      | cons u us ih =>
        have := leaves_len u
        show (leaves u ++ leavesAll us).length ≤ u.bulk + 1 + PyData.bulkAll us
        rw [List.length_append]
        omega
    have := this ts
    show 0 + _ ≤ _
    omega
  rintro m _ ⟨part, acc, us, rfl, rfl, hcl, hl, hz, hb2⟩
  have hus := bl us
  cases us with
  | nil =>
    have e : acc = leavesAll ts := by simpa [leavesAll] using hl
    simp [e]
  | cons u us =>
    obtain ⟨cu, cus⟩ := cl_cons hcl
    have hbk : PyData.bulkAll (u :: us) = u.bulk + 1 + PyData.bulkAll us := rfl
    have hll : leavesAll (u :: us) = leaves u ++ leavesAll us := rfl
    have small : ∀ k : Nat, k ≤ 700000 → k < sizeLine := fun k h => Nat.lt_of_le_of_lt h (by decide)
    rw [hll, List.length_append] at hz
    have lu1 : (us.reverse).length = us.length := List.length_reverse
    have hus2 := bl us
    simp
    refine ⟨us.reverse, u, ⟨rfl, rfl⟩, cu, ?_⟩
    cases hp : isPr u with
    | false =>
      rw [leaves_leaf hp] at hll hz
      refine .inl ⟨rfl, small _ (by omega), u, rfl, _, ?_, some u, acc ++ [u], us, ⟨rfl, rfl, rfl⟩, rfl, cus, ?_, ?_, by omega⟩
      · omega
      · rw [← hl, hll, List.append_assoc]
      · rw [List.length_append]
        omega
    | true =>
      match u, hp, cu with
      | .tuple [a, b], hp, cu =>
        have hq : isQ a = false := by simpa [isPr] using hp
        have e : (PyData.tuple [a, b]).bulk = a.bulk + b.bulk + 2 := by
          show a.bulk + 1 + (b.bulk + 1 + 0) = _
          omega
        obtain ⟨ca, cb⟩ := cl_cons (cl_all cu)
        rw [leaves_pair hq] at hll hz
        rw [List.length_append] at hz
        refine .inr ⟨rfl, by rw [lu1]; exact small _ (by omega), _, rfl, b, rfl, by rw [lu1]; exact small _ (by omega), _, rfl, a, rfl, PyData.bulkAll (a :: b :: us), ?_, _, acc, a :: b :: us, ⟨rfl, ?_, rfl⟩, rfl, ?_, ?_, ?_, ?_⟩
        · show a.bulk + 1 + (b.bulk + 1 + PyData.bulkAll us) < _
          omega
        · simp
        · show (cl a && (cl b && clAll us)) = true
          rw [ca, (cl_cons cb).1, cus]
          rfl
        · rw [← hl, hll]
          show acc ++ (leaves a ++ (leaves b ++ leavesAll us)) = _
          rw [List.append_assoc]
        · show acc.length + (leaves a ++ (leaves b ++ leavesAll us)).length ≤ _
          rw [List.length_append, List.length_append]
          omega
        · show a.bulk + 1 + (b.bulk + 1 + PyData.bulkAll us) ≤ _
          omega
      | .tuple [], hp, _ => cases hp
      | .tuple [_], hp, _ => cases hp
      | .tuple (_ :: _ :: _ :: _), hp, _ => cases hp
      | .none, hp, _ => cases hp
      | .bool _, hp, _ => cases hp
      | .int _, hp, _ => cases hp
      | .str _, hp, _ => cases hp
      | .list _, hp, _ => cases hp
      | .dict _, hp, _ => cases hp
theorem cl_leaves : ∀ d : PyData, cl d = true → ∀ x ∈ leaves d, cl x = true
  | .tuple [a, b], h, x, hx => by
    obtain ⟨ca, cb⟩ := cl_cons (cl_all h)
    cases hq : isQ a
    · rw [leaves_pair hq] at hx
      rcases List.mem_append.mp hx with hx | hx
      · exact cl_leaves a ca x hx
      · exact cl_leaves b (cl_cons cb).1 x hx
    · rw [leaves_leaf (by simp [isPr, hq])] at hx
      rw [List.mem_singleton.mp hx]
      exact h
  | .tuple [], h, x, hx => by rw [List.mem_singleton.mp hx]; exact h
  | .tuple [_], h, x, hx => by rw [List.mem_singleton.mp hx]; exact h
  | .tuple (_ :: _ :: _ :: _), h, x, hx => by rw [List.mem_singleton.mp hx]; exact h
  | .none, h, x, hx => by rw [List.mem_singleton.mp hx]; exact h
  | .bool _, h, x, hx => by rw [List.mem_singleton.mp hx]; exact h
  | .int _, h, x, hx => by rw [List.mem_singleton.mp hx]; exact h
  | .str _, h, x, hx => by rw [List.mem_singleton.mp hx]; exact h
  | .list _, h, x, hx => by rw [List.mem_singleton.mp hx]; exact h
  | .dict _, h, x, hx => by rw [List.mem_singleton.mp hx]; exact h
theorem map_some {α β : Type} (f : α → β) : ∀ l : List α, l.filterMap (fun x => some (f x)) = l.map f
  | [] => rfl
  | x :: l => by rw [List.filterMap_cons, List.map_cons, map_some f l]
end
end Kq

set_option Elab.async false
set_option linter.all false
set_option maxRecDepth 100000
set_option maxHeartbeats 4000000
namespace Kq
open PySem PySem.Spec PyProof.Rows L2
abbrev s_unknowns_of : Stmt := topS 9
theorem sc_unknowns_of : FnScope ["terms", "leaf"] ["terms"] (defScope s_unknowns_of) := ⟨rfl, rfl, rfl, by decide +kernel, rfl, by decide +kernel, by decide +kernel⟩
abbrev s_unknowns_in : Stmt := topS 8
theorem sc_unknowns_in : FnScope ["term"] ["term"] (defScope s_unknowns_in) := ⟨rfl, rfl, rfl, by decide +kernel, rfl, by decide +kernel, by decide +kernel⟩
abbrev s_is_ground : Stmt := topS 6
theorem sc_is_ground : FnScope ["term"] ["term"] (defScope s_is_ground) := ⟨rfl, rfl, rfl, by decide +kernel, rfl, by decide +kernel, by decide +kernel⟩
theorem putG_len (l : DL) (k : Key) (v : PyData) : (putG l k v).length ≤ l.length + 1 := by
  unfold putG
  split
  · simp
  · simp
theorem dc_go {ks : List Nat} {dec : Dec} {tt : P0T} {tk te : P0} {ρ : Rho} {Q : PyData → Prop} (f : PyData → Option (Key × PyData)) : ∀ (ds : List PyData) (acc : DL), acc.length + ds.length ≤ 1000000 →
    (∀ d ∈ ds, ∃ l, dec d = some l ∧ (∀ p ∈ l, p.1 ∈ ks) ∧ ∀ R : Option (Key × PyData) → Prop, R (f d) → tt (setsR ρ l) fun b => if b = true then tk (setsR ρ l) fun y => te (setsR ρ l) fun z => ∃ k, y = keyD k ∧ noL z = true ∧ R (some (k, z)) else R none) →
    Q (dD (ds.foldl (fun l d => match f d with | some (k, v) => putG l k v | none => l) acc)) → dcGo ks dec tt tk te ρ Q ds acc
  | [], acc, _, _, q => q
  | d :: ds, acc, hl, h, q => by
    obtain ⟨l, e, c, hr⟩ := h d (List.mem_cons_self ..)
    rw [List.length_cons] at hl
    have rest := fun d hd => h d (List.mem_cons_of_mem _ hd)
    have big : acc.length < sizeLine := Nat.lt_of_lt_of_le (show acc.length < 1000000 by omega) (by decide)
    refine ⟨l, e, c, ?_⟩
    have := hr (fun o => match o with | some (k, z) => acc.length < sizeLine ∧ dcGo ks dec tt tk te ρ Q ds (putG acc k z) | none => dcGo ks dec tt tk te ρ Q ds acc) ?_
    · exact this
    · rw [List.foldl_cons] at q
      cases hf : f d with
      | none =>
        rw [hf] at q
        exact dc_go f ds acc (by omega) rest q
      | some kv =>
        obtain ⟨k, v⟩ := kv
        rw [hf] at q
        have := putG_len acc k v
        exact ⟨big, dc_go f ds _ (by omega) rest q⟩
/-! unknowns -/
def addN (acc : List Int) (n : Int) : List Int := if n ∈ acc then acc else acc ++ [n]
def addAll (acc ns : List Int) : List Int := ns.foldl addN acc
def ukOf : PyData → Option Int
  | .tuple [a, .int n] => if isQ a && decide (0 ≤ n) then some n else none
  | _ => none
theorem uk_some (d : PyData) : isUk d = (ukOf d).isSome := by
  match d with
  | .tuple [a, .int n] =>
    show (isQ a && decide (0 ≤ n)) = (if isQ a && decide (0 ≤ n) then some n else none).isSome
    cases isQ a && decide (0 ≤ n) <;> rfl
  | .tuple [] => rfl
  | .tuple [_] => rfl
  | .tuple [a, .none] => rfl
  | .tuple [a, .bool _] => rfl
  | .tuple [a, .str _] => rfl
  | .tuple [a, .list _] => rfl
  | .tuple [a, .tuple _] => rfl
  | .tuple [a, .dict _] => rfl
  | .tuple (_ :: _ :: _ :: _) => simp [isUk, ukOf]
  | .none => rfl
  | .bool _ => rfl
  | .int _ => rfl
  | .str _ => rfl
  | .list _ => rfl
  | .dict _ => rfl
theorem uk_is {d : PyData} {n : Int} (h : ukOf d = some n) : ∃ a, d = .tuple [a, .int n] := by
  match d, h with
  | .tuple [a, .int m], h =>
    have h' : (if isQ a && decide (0 ≤ m) then some m else none) = some n := h
    split at h'
    · cases h'
      exact ⟨a, rfl⟩
    · cases h'
def nums (ts : List PyData) : List Int := (leavesAll ts).filterMap ukOf
def kys (acc : List Int) : DL := acc.map fun n => (Sum.inl n, .bool true)
theorem kys_any (acc : List Int) (n : Int) : ((kys acc).any fun kv => decide (kv.1 = Sum.inl n)) = decide (n ∈ acc) := by
  unfold kys
  rw [List.any_map]
  induction acc with
  | nil => rfl
  | cons m r ih =>
    rw [List.any_cons, ih]
    by_cases e : m = n
    · subst e
      simp
    · have : ¬ ((Sum.inl m : Key) = Sum.inl n) := fun z => e (Sum.inl.inj z)
      simp [this, Ne.symm e]
theorem kys_put (acc : List Int) (n : Int) : putG (kys acc) (Sum.inl n) (.bool true) = kys (addN acc n) := by
  unfold putG addN
  rw [kys_any]
  by_cases h : n ∈ acc
  · rw [if_pos (decide_eq_true h), if_pos h]
    unfold kys
    rw [List.map_map]
    apply List.map_congr_left
    intro m _
    show (if (Sum.inl m : Key) = Sum.inl n then _ else _) = _
    split <;> rfl
  · rw [if_neg (by simpa using h), if_neg h]
    unfold kys
    rw [List.map_append]
    rfl
theorem kys_fold : ∀ (ds : List PyData) (acc : List Int), ds.foldl (fun l d => match (ukOf d).map fun n => ((Sum.inl n : Key), PyData.bool true) with | some (k, v) => putG l k v | none => l) (kys acc) = kys (addAll acc (ds.filterMap ukOf))
  | [], acc => rfl
  | d :: ds, acc => by
    rw [List.foldl_cons, List.filterMap_cons]
    cases h : ukOf d with
    | none => exact kys_fold ds acc
    | some n =>
      show ds.foldl _ (putG (kys acc) (Sum.inl n) (.bool true)) = _
      rw [kys_put]
      exact kys_fold ds (addN acc n)
section
variable {P : Program} {w : World} {K : PySem.W.Frag} {mg : Str → Option Value} {base : Heap} {n : Nat}
theorem c_unknowns_of (B : Bl mg) (D : Dfn K mg "unknowns_of" s_unknowns_of ["terms"]) (c_leaves_of : Cal P w K mg base n "leaves_of" ["things"] (spQ Any (fun ds => ∃ ts, ds = [.tuple ts] ∧ clAll ts = true ∧ PyData.bulkAll ts ≤ 400000) (fun ds d => ∃ ts, ds = [.tuple ts] ∧ d = .list (leavesAll ts))))
    (c_is_unknown : Cal P w K mg base n "is_unknown" ["thing"] (spQ Any (p1 fun x => cl x = true) (b1 isUk))) :
    Cal P w K mg base (n + 1) "unknowns_of" ["terms"] (spQ Any (fun ds => ∃ ts, ds = [.tuple ts] ∧ clAll ts = true ∧ PyData.bulkAll ts ≤ 400000) (fun ds d => ∃ ts, ds = [.tuple ts] ∧ d = .tuple ((addAll [] (nums ts)).map .int))) := by
  refine defC [] D sc_unknowns_of (by rintro _ ⟨x, rfl, _⟩; rfl) (by simp) (fun _ h => h) ?_ (fun f C hG lx cdv A outer s H E hr => ⟨_, (qss_one (qs_ret (qe_callTy (cq_tupleD rfl) (by rfl) B.tuple (by decide +kernel) (qa_cons (qe_dc (own := [("leaf", 1)]) (G := (gName 1)) (dec := (dName 1)) rfl sc_unknowns_of.nd (qi_list (qe_cal c_leaves_of hG hr (by rfl) (qa_cons (qv 0) qa_nil))) (blkOk_by (own := [("leaf", 1)]) (N := ["terms", "leaf"]) (sc := defScope s_unknowns_of) (by decide +kernel)) (fun _ _ _ _ _ => (qg_name (k := 1) sc_unknowns_of.nd rfl (by first | exact Or.inl rfl | exact Or.inr rfl))) (fun _ _ _ _ _ => qts_one (qt_val (qe_cal c_is_unknown hG hr (by rfl) (qa_cons (qv 1) qa_nil)))) (fun _ _ _ _ _ => (qe_ix (qv 1) qe_int (fun _ _ => rfl))) (fun _ _ _ _ _ => qe_bl)) qa_nil)))), ?_⟩)
  · rintro _ d ⟨ts, rfl, _⟩ ⟨ts', e, rfl⟩
    have : ∀ l : List Int, noLs (l.map .int) = true := by
      intro l
      induction l with
      | nil => rfl
      | cons x l ih => exact ih
    exact this _
  rintro _ ⟨ts, rfl, hc, hb⟩
  simp
  refine ⟨⟨hc, hb⟩, ?_⟩
  have cs : ∀ (us : List PyData), clAll us = true → ∀ x ∈ leavesAll us, cl x = true := by
    intro us
    induction us with
    | nil => intro _ x hx; cases hx
    | cons u us ih =>
      intro h x hx
      obtain ⟨h1, h2⟩ := cl_cons h
      rcases List.mem_append.mp (show x ∈ leaves u ++ leavesAll us from hx) with hx | hx
      · exact cl_leaves u h1 x hx
      · exact ih h2 x hx
  have ll : ∀ us : List PyData, (leavesAll us).length ≤ PyData.bulkAll us := by
    intro us
    induction us with
    | nil => exact Nat.le_refl _
    | cons u us ih =>
      show (leaves u ++ leavesAll us).length ≤ u.bulk + 1 + PyData.bulkAll us
      have := leaves_len u
      rw [List.length_append]
      omega
  have l1 := ll ts
  refine dc_go (fun d => (ukOf d).map fun n => (Sum.inl n, .bool true)) _ _ (by show 0 + _ ≤ _; omega) (fun d hd => ?_) ?_
  · refine ⟨[(1, d)], rfl, by simp, fun R hR => ?_⟩
    have hcd := cs ts hc d hd
    have hu := uk_some d
    cases ho : ukOf d with
    | none =>
      rw [ho] at hu hR
      simp [wipeR, hcd, hu]
      exact hR
    | some m =>
      rw [ho] at hu hR
      obtain ⟨a, rfl⟩ := uk_is ho
      simp [wipeR, hcd, hu]
      exact ⟨_, rfl, .inl m, rfl, rfl, hR⟩
  · refine ⟨_, rfl, ?_⟩
    have := kys_fold (leavesAll ts) []
    refine (congrArg (List.map fun p : Key × PyData => keyD p.1) this).trans ?_
    unfold kys
    rw [List.map_map]
    rfl
theorem c_unknowns_in (B : Bl mg) (D : Dfn K mg "unknowns_in" s_unknowns_in ["term"])
    (c_unknowns_of : Cal P w K mg base n "unknowns_of" ["terms"] (spQ Any (fun ds => ∃ ts, ds = [.tuple ts] ∧ clAll ts = true ∧ PyData.bulkAll ts ≤ 400000) (fun ds d => ∃ ts, ds = [.tuple ts] ∧ d = .tuple ((addAll [] (nums ts)).map .int)))) :
    Cal P w K mg base (n + 1) "unknowns_in" ["term"] (spQ Any (p1 fun x => cl x = true ∧ x.bulk ≤ 390000) (r1 fun x => .tuple ((addAll [] (nums [x])).map .int))) := by
  refine defC [] D sc_unknowns_in len1 (by simp) (fun _ h => h) ?_ (fun f C hG lx cdv A outer s H E hr => ⟨_, (qss_one (qs_ret (qe_cal c_unknowns_of hG hr (by rfl) (qa_cons (qe_tup (qa_cons (qv 0) qa_nil)) qa_nil)))), ?_⟩)
  · rintro _ d ⟨ts, rfl, _⟩ ⟨ts', e, rfl⟩
    have : ∀ l : List Int, noLs (l.map .int) = true := by
      intro l
      induction l with
      | nil => rfl
      | cons x l ih => exact ih
    exact this _
  rintro _ ⟨x, rfl, hx, hb⟩
  simp
  exact ⟨by decide, by simp [clAll, hx], by show x.bulk + 1 + 0 ≤ _; omega⟩
theorem layInts : ∀ ns : List Int, PyData.canLayAll0 (ns.map .int) = true
  | [] => rfl
  | n :: r => by
    show (true && PyData.canLayAll0 (r.map .int)) = true
    rw [layInts r]
    rfl
theorem depInts : ∀ ns : List Int, PyData.depthAll (ns.map .int) = 0
  | [] => rfl
  | n :: r => by
    show max 0 (PyData.depthAll (r.map .int)) = 0
    rw [depInts r]
    rfl
theorem shpInts (ns : List Int) : shp (.tuple (ns.map .int)) = true := by
  have h1 : (PyData.tuple (ns.map .int)).canLay0 = true := layInts ns
  have h2 : (PyData.tuple (ns.map .int)).depth ≤ 64 := by
    show PyData.depthAll (ns.map .int) + 1 ≤ 64
    rw [depInts]
    decide
  unfold shp SeqAt.shaped
  rw [h1, decide_eq_true h2]
  rfl
theorem eqvInts (l : List Int) : (PyData.tuple (l.map .int)).eqv (.tuple []) = l.isEmpty := by
  cases l with
  | nil => rfl
  | cons x l =>
    unfold PyData.eqv
    rfl
theorem c_is_ground (B : Bl mg) (D : Dfn K mg "is_ground" s_is_ground ["term"])
    (c_unknowns_in : Cal P w K mg base n "unknowns_in" ["term"] (spQ Any (p1 fun x => cl x = true ∧ x.bulk ≤ 390000) (r1 fun x => .tuple ((addAll [] (nums [x])).map .int)))) :
    Cal P w K mg base (n + 1) "is_ground" ["term"] (spQ Any (p1 fun x => cl x = true ∧ x.bulk ≤ 390000) (b1 fun x => (addAll [] (nums [x])).isEmpty)) := by
  refine defC [] D sc_is_ground len1 (by simp) (fun _ h => h) nob (fun f C hG lx cdv A outer s H E hr => ⟨_, (qss_one (qs_ret (qe_cmp (oq_eq hr.units) (qe_cal c_unknowns_in hG hr (by rfl) (qa_cons (qv 0) qa_nil)) (qe_tup qa_nil) (nomark _)))), ?_⟩)
  rintro _ ⟨x, rfl, hx, hb⟩
  simp
  exact ⟨⟨hx, hb⟩, shpInts _, shpInts [], eqvInts _⟩
end
end Kq

set_option Elab.async false
set_option linter.all false
set_option maxRecDepth 100000
namespace Ksec
open PySem PySem.Spec PyProof.Rows L2
/-! the text -/
def topS (i : Nat) : Stmt := PySem.Challenge.pw_fairsearch_k02_unknowns_and_ground_ones.main.body.getD i (.Pass ⟨0, 0, 0, 0⟩)
/-! the terms -/
inductive Tm where
  | int (i : Int)
  | wrd (z : Str)
  | nil
  | unk (n : Int)
  | pair (a b : Tm)
/-- a word: one to eight small letters -/
def Wd (z : Str) : Prop := 1 ≤ z.length ∧ z.length ≤ 8 ∧ ∀ c ∈ z.cps.toList, 97 ≤ c ∧ c ≤ 122
namespace Tm
def ok : Tm → Prop
  | .int i => i.natAbs ≤ 1000000000000
  | .wrd z => Wd z
  | .nil => True
  | .unk n => 0 ≤ n ∧ n ≤ 999
  | .pair a b => a.ok ∧ b.ok
def depth : Tm → Nat
  | .pair a b => max a.depth b.depth + 1
  | _ => 1
def size : Tm → Nat
  | .pair a b => a.size + b.size + 1
  | _ => 1
def isUnk : Tm → Bool
  | .unk _ => true
  | _ => false
def isPair : Tm → Bool
  | .pair _ _ => true
  | _ => false
def data : Tm → PyData
  | .int i => .int i
  | .wrd z => .str z
  | .nil => .tuple []
  | .unk n => .tuple [.str "?", .int n]
  | .pair a b => .tuple [a.data, b.data]
theorem data_depth : ∀ t : Tm, t.data.depth ≤ t.depth
  | .int _ => Nat.zero_le _
  | .wrd _ => Nat.zero_le _
  | .nil => Nat.le_refl _
  | .unk _ => Nat.le_refl _
  | .pair a b => by
    have h1 := data_depth a
    have h2 := data_depth b
    show max a.data.depth (max b.data.depth 0) + 1 ≤ max a.depth b.depth + 1
    omega
end Tm
theorem wd_ok {z : Str} (h : Wd z) : PyData.strOk z = true := by
  obtain ⟨h1, h2, h3⟩ := h
  unfold PyData.strOk
  rw [← Array.all_toList, List.all_eq_true]
  intro c hc
  have := h3 c hc
  exact decide_eq_true (by omega)
theorem wd_ne {z : Str} (h : Wd z) : z ≠ ("?" : Str) := by
  intro e
  subst e
  have := h.2.2 63 (by decide)
  omega
theorem Tm.lay : ∀ {t : Tm}, t.ok → t.data.canLay0 = true
  | .int _, _ => rfl
  | .wrd z, h => wd_ok h
  | .nil, _ => rfl
  | .unk _, _ => by
    show (PyData.strOk "?" && (true && true)) = true
    decide +kernel
  | .pair a b, h => by
    show (a.data.canLay0 && (b.data.canLay0 && true)) = true
    rw [Tm.lay h.1, Tm.lay h.2]
    rfl
theorem Tm.shp {t : Tm} (h : t.ok) (d : t.depth ≤ 64) : SeqAt.shaped t.data = true := by
  unfold SeqAt.shaped
  rw [Tm.lay h, decide_eq_true (Nat.le_trans t.data_depth d)]
  rfl
/-- x is the term t in H -/
inductive IsTm (H : Hp) : V → Tm → Prop where
  | int (i : Int) : IsTm H (.int i) (.int i)
  | wrd (z : Str) : IsTm H (.str z) (.wrd z)
  | nil {a : Addr} (h : H a = some (.tup [])) : IsTm H (.ref a) .nil
  | unk {a : Addr} {n : Int} (h : H a = some (.tup [.str "?", .int n])) : IsTm H (.ref a) (.unk n)
  | pair {a : Addr} {x y : V} {t u : Tm} (h : H a = some (.tup [x, y])) (h1 : IsTm H x t) (h2 : IsTm H y u) : IsTm H (.ref a) (.pair t u)
/-- tuples stay -/
def Tup (H H' : Hp) : Prop := ∀ b xs, H b = some (.tup xs) → H' b = some (.tup xs)
theorem Tup.refl (H : Hp) : Tup H H := fun _ _ h => h
theorem Tup.trans {H H1 H2 : Hp} (a : Tup H H1) (b : Tup H1 H2) : Tup H H2 := fun c xs h => b c xs (a c xs h)
theorem IsTm.keep {H H' : Hp} (k : Tup H H') {x : V} {t : Tm} (h : IsTm H x t) : IsTm H' x t := by
  induction h with
  | int i => exact .int i
  | wrd z => exact .wrd z
  | nil h => exact .nil (k _ _ h)
  | unk h => exact .unk (k _ _ h)
  | pair h _ _ i1 i2 => exact .pair (k _ _ h) i1 i2
theorem IsTm.dp {K : PySem.W.Frag} {H : Hp} {x : V} {t : Tm} (h : IsTm H x t) : Dp K H x t.data := by
  induction h with
  | int i => exact .int i
  | wrd z => exact .str z
  | nil h => exact .tup (.inl (.inl h)) .nil
  | unk h => exact .tup (.inl (.inl h)) (.cons (.str _) (.cons (.int _) .nil))
  | pair h _ _ i1 i2 => exact .tup (.inl (.inl h)) (.cons i1 (.cons i2 .nil))
/-- the type's name -/
def Tm.ty : Tm → String
  | .int _ => "int"
  | .wrd _ => "str"
  | _ => "tuple"
theorem IsTm.tyx {K : PySem.W.Frag} {H : Hp} {x : V} {t : Tm} (h : IsTm H x t) : TyX K H x (.type t.ty) := by
  cases h with
  | int i => exact .base (.int i)
  | wrd z => exact .base (.str z)
  | nil h => exact .base (.tup h)
  | unk h => exact .base (.tup h)
  | pair h _ _ => exact .base (.tup h)
theorem Tm.isTup (t : Tm) : kitB t.ty "tuple" = some (t.ty == "tuple") := by
  cases t with
  | int i => show kitB "int" "tuple" = some ("int" == "tuple"); decide +kernel
  | wrd i => show kitB "str" "tuple" = some ("str" == "tuple"); decide +kernel
  | nil => decide +kernel
  | unk i => show kitB "tuple" "tuple" = some ("tuple" == "tuple"); decide +kernel
  | pair i j => show kitB "tuple" "tuple" = some ("tuple" == "tuple"); decide +kernel
theorem eqv_qq : PyData.eqv (.str "?") (.str "?") = true := by decide +kernel
theorem Tm.noq : ∀ {t : Tm}, t.ok → PyData.eqv t.data (.str "?") = false
  | .int _, _ => by simp [Tm.data, PyData.eqv]
  | .wrd z, h => by
    show PyData.eqv (.str z) (.str "?") = false
    unfold PyData.eqv
    exact beq_eq_false_iff_ne.mpr (wd_ne h)
  | .nil, _ => by simp [Tm.data, PyData.eqv]
  | .unk _, _ => by simp [Tm.data, PyData.eqv]
  | .pair _ _, _ => by simp [Tm.data, PyData.eqv]
theorem shp_q : SeqAt.shaped (.str "?") = true := by decide +kernel
end Ksec

set_option Elab.async false
set_option linter.all false
set_option maxRecDepth 100000
namespace Ksec
open PySem PySem.Spec PyProof.Rows L2
/-! the mathematics -/
def addN (acc : List Int) (n : Int) : List Int := if n ∈ acc then acc else acc ++ [n]
def addAll (acc ns : List Int) : List Int := ns.foldl addN acc
def Tm.uks : Tm → List Int
  | .unk n => [n]
  | .pair a b => a.uks ++ b.uks
  | _ => []
def flat : List Tm → List Int
  | [] => []
  | t :: ts => t.uks ++ flat ts
def sizes : List Tm → Nat
  | [] => 0
  | t :: ts => t.size + sizes ts
theorem Tm.size_pos (t : Tm) : 1 ≤ t.size := by cases t <;> simp only [Tm.size] <;> omega
theorem len_sizes : ∀ ts : List Tm, ts.length ≤ sizes ts
  | [] => Nat.le_refl _
  | t :: ts => by
    have := len_sizes ts
    have := t.size_pos
    show ts.length + 1 ≤ t.size + sizes ts
    omega
theorem addN_len (acc : List Int) (n : Int) : (addN acc n).length ≤ acc.length + 1 := by
  unfold addN
  split
  · omega
  · simp
def kys (acc : List Int) : List (Key × V) := acc.map fun n => (Sum.inl n, V.bl true)
theorem kys_val (n : Int) : ∀ acc : List Int, valV (kys acc) (Sum.inl n) = if n ∈ acc then some (.bl true) else none
  | [] => rfl
  | m :: r => by
    show valV ((Sum.inl m, V.bl true) :: kys r) (Sum.inl n) = _
    by_cases e : m = n
    · subst e
      rw [valV_pos rfl, if_pos (List.mem_cons_self ..)]
    · rw [valV_neg (fun z => e (Sum.inl.inj z)), kys_val n r]
      by_cases h : n ∈ r
      · rw [if_pos h, if_pos (List.mem_cons_of_mem _ h)]
      · rw [if_neg h, if_neg (fun z => (List.mem_cons.mp z).elim (fun z => e z.symm) h)]
theorem kys_put (acc : List Int) (n : Int) : putK (kys acc) (Sum.inl n) (.bl true) = kys (addN acc n) := by
  have hv := kys_val n acc
  unfold addN
  by_cases h : n ∈ acc
  · rw [if_pos h]
    rw [if_pos h] at hv
    unfold putK
    rw [valV_any, hv, if_pos (show (some (V.bl true)).isSome = true from rfl)]
    unfold kys
    rw [List.map_map]
    apply List.map_congr_left
    intro m _
    show (if (Sum.inl m : Key) = Sum.inl n then ((Sum.inl m : Key), V.bl true) else (Sum.inl m, V.bl true)) = _
    split <;> rfl
  · rw [if_neg h] at hv ⊢
    rw [putK_new _ hv]
    unfold kys
    rw [List.map_append]
    rfl
theorem kys_keys (acc : List Int) : ((kys acc).map fun kv => kV kv.1) = acc.map V.int := by
  unfold kys
  rw [List.map_map]
  rfl
theorem addAll_append (acc a b : List Int) : addAll acc (a ++ b) = addAll (addAll acc a) b := List.foldl_append ..
def uniq (ts : List Tm) : List Int := addAll [] (flat ts)
/-- values that are terms -/
abbrev AreTm (H : Hp) : List V → List Tm → Prop := Paired (IsTm H)
theorem areKeep {H H' : Hp} (k : Tup H H') : ∀ {xs : List V} {ts : List Tm}, AreTm H xs ts → AreTm H' xs ts
  | _, _, .nil => .nil
  | _, _, .cons h t => .cons (h.keep k) (areKeep k t)
def Fine (t : Tm) : Prop := t.ok ∧ t.depth ≤ 64
theorem same_upd {H : Hp} {p : Addr} {o : HO} (h : H p = none) : Same H (upd H p o) := fun b x e => by
  rw [upd_ne (ne_of_none e h)]
  exact e
theorem sameTup {H H' : Hp} (s : Same H H') : Tup H H' := fun b xs h => s b _ h
theorem tup_upd {H : Hp} {p : Addr} {o u : HO} (h : H p = some u) (hu : ∀ xs, u ≠ .tup xs) : Tup H (upd H p o) := fun b xs e => by
  rw [upd_ne (ne_of e h (fun z => hu xs z.symm))]
  exact e
/-! lists of ints as data -/
theorem dpInts {K : PySem.W.Frag} {H : Hp} : ∀ ns : List Int, DpAll K H (ns.map V.int) (ns.map .int)
  | [] => .nil
  | n :: r => .cons (.int n) (dpInts r)
theorem layInts : ∀ ns : List Int, PyData.canLayAll0 (ns.map .int) = true
  | [] => rfl
  | n :: r => by
    show (true && PyData.canLayAll0 (r.map .int)) = true
    rw [layInts r]
    rfl
theorem depInts : ∀ ns : List Int, PyData.depthAll (ns.map .int) = 0
  | [] => rfl
  | n :: r => by
    show max 0 (PyData.depthAll (r.map .int)) = 0
    rw [depInts r]
    rfl
theorem shpL (ns : List Int) : SeqAt.shaped (.list (ns.map .int)) = true := by
  have h1 : (PyData.list (ns.map .int)).canLay0 = true := layInts ns
  have h2 : (PyData.list (ns.map .int)).depth ≤ 64 := by
    show PyData.depthAll (ns.map .int) + 1 ≤ 64
    rw [depInts]
    decide
  unfold SeqAt.shaped
  rw [h1, decide_eq_true h2]
  rfl
theorem shpT (ns : List Int) : SeqAt.shaped (.tuple (ns.map .int)) = true := shpL ns
theorem eqvInts : ∀ ns ms : List Int, PyData.eqvAll (ns.map .int) (ms.map .int) = decide (ns = ms)
  | [], [] => rfl
  | [], _ :: _ => rfl
  | _ :: _, [] => rfl
  | n :: r, m :: q => by
    show ((PyData.int n).eqv (.int m) && PyData.eqvAll (r.map .int) (q.map .int)) = _
    rw [eqvInts r q]
    unfold PyData.eqv
    by_cases e : n = m
    · subst e
      by_cases e2 : r = q
      · subst e2
        simp
      · simp [e2]
    · simp [e]
theorem eqvL (ns ms : List Int) : PyData.eqv (.list (ns.map .int)) (.list (ms.map .int)) = decide (ns = ms) := by
  unfold PyData.eqv
  exact eqvInts ns ms
theorem eqvT (ns ms : List Int) : PyData.eqv (.tuple (ns.map .int)) (.tuple (ms.map .int)) = decide (ns = ms) := by
  unfold PyData.eqv
  exact eqvInts ns ms
def spIn : Sp := fun vs H Q _ => ∃ (x : V) (t : Tm), vs = [x] ∧ IsTm H x t ∧ Fine t ∧ t.size ≤ 48000 ∧ ∀ H' p, Same H H' → H' p = some (.tup ((uniq [t]).map V.int)) → Q (.ref p) H'
def spGround : Sp := fun vs H Q _ => ∃ (x : V) (t : Tm), vs = [x] ∧ IsTm H x t ∧ Fine t ∧ t.size ≤ 48000 ∧ ∀ H', Same H H' → Q (.bl (decide (uniq [t] = []))) H'
/-! over the plain layer -/
def C0 : Kq.Cz where
  M := fun _ => False
  lax := True
  tok := none
  J := fun _ => True
  st := fun _ _ _ _ => trivial
  mt := fun _ _ m _ => m.elim
theorem IsTm.toQ {H : Hp} {x : V} {t : Tm} (h : IsTm H x t) : Kq.Dq C0 H x t.data := by
  induction h with
  | int i => exact .int i
  | wrd z => exact .str z
  | nil h => exact .tup h .nil
  | unk h => exact .tup h (.cons (.str _) (.cons (.int _) .nil))
  | pair h _ _ i1 i2 => exact .tup h (.cons i1 (.cons i2 .nil))
theorem Tm.clq : ∀ {t : Tm}, t.ok → Kq.cl t.data = true
  | .int _, _ => rfl
  | .wrd z, h => by
    show decide (z.length ≤ 100000) = true
    exact decide_eq_true (by have := h.2.1; omega)
  | .nil, _ => rfl
  | .unk _, _ => by
    show (Kq.cl (.str "?") && (true && true)) = true
    decide +kernel
  | .pair a b, h => by
    show (Kq.cl a.data && (Kq.cl b.data && true)) = true
    rw [Tm.clq h.1, Tm.clq h.2]
    rfl
theorem Tm.bulkq : ∀ {t : Tm}, t.ok → t.data.bulk ≤ 8 * t.size
  | .int _, _ => Nat.zero_le _
  | .wrd z, h => h.2.1
  | .nil, _ => Nat.zero_le _
  | .unk n, _ => by
    show PyData.bulk (.str "?") + 1 + (0 + 1 + 0) ≤ 8 * 1
    decide +kernel
  | .pair a b, h => by
    have h1 := Tm.bulkq h.1
    have h2 := Tm.bulkq h.2
    show a.data.bulk + 1 + (b.data.bulk + 1 + 0) ≤ 8 * (a.size + b.size + 1)
    omega
theorem Tm.isq {t : Tm} (h : t.ok) : Kq.isQ t.data = false := by
  have := Tm.noq h
  cases t with
  | wrd z => simpa [Tm.data, Kq.isQ, PyData.eqv] using this
  | _ => rfl
theorem Tm.numq : ∀ {t : Tm}, t.ok → (Kq.leaves t.data).filterMap Kq.ukOf = t.uks
  | .int _, _ => rfl
  | .wrd z, _ => rfl
  | .nil, _ => rfl
  | .unk n, h => by
    have e : Kq.ukOf (.tuple [.str "?", .int n]) = some n := by
      show (if Kq.isQ (.str "?") && decide (0 ≤ n) then some n else none) = some n
      rw [show Kq.isQ (.str "?") = true by decide +kernel, decide_eq_true h.1]
      rfl
    rw [show Kq.leaves (Tm.unk n).data = [.tuple [.str "?", .int n]] from Kq.leaves_leaf (by show (!Kq.isQ (.str "?")) = false; decide +kernel)]
    rw [List.filterMap_cons, e]
    rfl
  | .pair a b, h => by
    show (Kq.leaves (.tuple [a.data, b.data])).filterMap Kq.ukOf = a.uks ++ b.uks
    rw [Kq.leaves_pair (Tm.isq h.1), List.filterMap_append, Tm.numq h.1, Tm.numq h.2]
theorem addq (acc ns : List Int) : Kq.addAll acc ns = addAll acc ns := rfl
theorem uniqq {t : Tm} (h : t.ok) : Kq.addAll [] (Kq.nums [t.data]) = uniq [t] := by
  unfold uniq Kq.nums Kq.leavesAll
  rw [addq]
  congr 1
  show (Kq.leaves t.data ++ []).filterMap Kq.ukOf = t.uks ++ []
  rw [List.append_nil, List.append_nil, Tm.numq h]
theorem ints_q {C : Kq.Cz} {H : Hp} : ∀ {vs : List V} {ns : List Int}, Kq.DqAll C H vs (ns.map .int) → vs = ns.map V.int
  | _, [], .nil => rfl
  | _, n :: ns, .cons h r => by
    cases h
    rw [ints_q r]
    rfl
section
variable {P : Program} {w : World} {K : PySem.W.Frag} {mg : Str → Option Value} {base : Heap}
theorem cal_in {k : Nat} (h : Kq.Cal P w K mg base k "unknowns_in" ["term"] (Kq.spQ Kq.Any (Kq.p1 fun x => Kq.cl x = true ∧ x.bulk ≤ 390000) (Kq.r1 fun x => .tuple ((Kq.addAll [] (Kq.nums [x])).map .int)))) : Kq.Cal P w K mg base k "unknowns_in" ["term"] spIn := by
  refine h.imp fun vs H Q E hs => ?_
  obtain ⟨x, t, rfl, hx, hf, hz, q⟩ := hs
  have hb := Tm.bulkq hf.1
  refine ⟨C0, [t.data], trivial, .cons hx.toQ .nil, trivial, ⟨t.data, rfl, Tm.clq hf.1, by omega⟩, ?_⟩
  rintro _ ⟨y, e, rfl⟩ v H' k' _ r
  cases e
  have r : Kq.Dq C0 H' v (.tuple ((Kq.addAll [] (Kq.nums [t.data])).map .int)) := r
  rw [uniqq hf.1] at r
  cases r with
  | tup h2 r2 =>
    rw [ints_q r2] at h2
    exact q H' _ (fun b o e => k'.2 b o (fun z => z) e) h2
theorem cal_ground {k : Nat} (h : Kq.Cal P w K mg base k "is_ground" ["term"] (Kq.spQ Kq.Any (Kq.p1 fun x => Kq.cl x = true ∧ x.bulk ≤ 390000) (Kq.b1 fun x => (Kq.addAll [] (Kq.nums [x])).isEmpty))) : Kq.Cal P w K mg base k "is_ground" ["term"] spGround := by
  refine h.imp fun vs H Q E hs => ?_
  obtain ⟨x, t, rfl, hx, hf, hz, q⟩ := hs
  have hb := Tm.bulkq hf.1
  refine ⟨C0, [t.data], trivial, .cons hx.toQ .nil, trivial, ⟨t.data, rfl, Tm.clq hf.1, by omega⟩, ?_⟩
  rintro _ ⟨y, e, rfl⟩ v H' k' _ r
  cases e
  cases r
  have e : (Kq.addAll [] (Kq.nums [t.data])).isEmpty = decide (uniq [t] = []) := by
    rw [uniqq hf.1]
    cases uniq [t] <;> simp
  show Q (V.bl (Kq.addAll [] (Kq.nums [t.data])).isEmpty) H'
  rw [e]
  exact q H' fun b o e => k'.2 b o (fun z => z) e
end
end Ksec

set_option Elab.async false
set_option linter.all false
set_option maxRecDepth 100000
namespace Ksec
open PySem PySem.Spec PyProof.Rows L2
abbrev sDeck : Stmt := topS 11
abbrev sDraw : Stmt := topS 12
theorem scDeck : FnScope ["_law_script", "_law_cells"] ["_law_script"] (defScope sDeck) := ⟨rfl, rfl, rfl, by decide +kernel, rfl, by decide +kernel, by decide +kernel⟩
theorem scDraw : FnScope ["_law_deck_here", "_law_many", "_law_cells", "_law_cell", "_law_number_here"] ["_law_deck_here", "_law_many"] (defScope sDraw) := ⟨rfl, rfl, rfl, by decide +kernel, rfl, by decide +kernel, by decide +kernel⟩
/-- a deck at d, its cells at c -/
def Dk (H : Hp) (d c : Addr) : Prop := ∃ (ns : List Int) (s n : Int), H d = some (.lst [.ref c, .int s, .int n]) ∧ H c = some (.lst (ns.map V.int)) ∧ ns.length ≤ 63
theorem cutTo (xs : List V) (k : Nat) : cutV xs none (some (k : Int)) = xs.take k := by
  unfold cutV
  rw [HT.sIx_none, HT.sIx_nat]
  show (xs.drop 0).take (min k xs.length - 0) = xs.take k
  rw [List.drop_zero, Nat.sub_zero]
  by_cases h : k ≤ xs.length
  · rw [Nat.min_eq_left h]
  · rw [Nat.min_eq_right (by omega), List.take_length, List.take_of_length_le (by omega)]
/-- all but the deck stays -/
def Kp (d c : Addr) (H H' : Hp) : Prop := ∀ b o, b ≠ d → b ≠ c → H b = some o → H' b = some o
section
variable {P : Program} {w : World} {K : PySem.W.Frag} {mg : Str → Option Value} {base : Heap}
def spDeck (K : PySem.W.Frag) : Sp := fun vs H Q _ => ∃ (a : Addr) (ns : List Int), vs = [.ref a] ∧ SqL K H a (ns.map V.int) ∧ ∀ H' d c, Same H H' → H d = none → H c = none → Dk H' d c → Q (.ref d) H'
theorem ok_deck {f : Addr} {fd : FuncData} {k : Nat} (F : Fun K "_law_deck" "_law_deck" sDeck f fd) (m1 : mg "list" = none) (m2 : mg "sum" = none) : FnOk P w K mg base CX0 (k + 1) f fd ["_law_script"] (spDeck K) := by
  refine F.ok scDeck (fun vs H Q E h => ?_) (fun cdv A outer s H vs Q E hr h => ?_)
  · obtain ⟨x, _, rfl, _⟩ := h
    rfl
  · obtain ⟨a, ns, rfl, hS, q⟩ := h
    refine ⟨_, pss_cons (ps_set (i := 1) scDeck.nd rfl (.inl rfl) (pe_callTy call_list_of (by rfl) m1 (by decide +kernel) (pa_cons (pe_slice sl_list (pv 0) po_none (po_some pe_int)) pa_nil)))
      (pss_one (ps_ret (pe_lst (pa_cons (pv 1) (pa_cons (pe_op op_add pe_int (pe_op op_mod (pe_callB (cr_sum rfl) (by rfl) m2 (by decide +kernel) (pa_cons (pv 1) pa_nil)) pe_int)) (pa_cons pe_int pa_nil)))))), ?_⟩
    refine ⟨.ref a, rfl, 63, rfl, a, _, rfl, hS, fun b nb => ?_⟩
    have e63 : cutV (ns.map V.int) none (some 63) = (ns.take 63).map V.int := by
      rw [show (63 : Int) = ((63 : Nat) : Int) from rfl, cutTo, List.map_take]
    rw [e63]
    have s1 := same_upd (o := .lst ((ns.take 63).map V.int)) nb
    refine ⟨b, _, rfl, .inl (.inl (.inl upd_same)), fun c nc => ?_⟩
    have s2 := same_upd (o := .lst ((ns.take 63).map V.int)) nc
    refine ⟨.ref c, rfl, .ref c, rfl, c, ns.take 63, rfl, .inl (.inl upd_same), _, _, rfl, rfl, (by show (0 : Int) < 2147483579; decide), _, _, rfl, rfl, (by show 3 ≤ sizeLine; decide), fun d ndd => ?_⟩
    have s3 := same_upd (o := .lst [.ref c, .int (130043 + (ns.take 63).sum % 2147483579), .int 0]) ndd
    exact q _ d c (s1.trans (s2.trans s3)) (s1.free (s2.free ndd)) (s1.free nc) ⟨ns.take 63, _, _, upd_same, s3 _ _ upd_same, by simp; omega⟩
def spDraw : Sp := fun vs H Q _ => ∃ (d c : Addr) (m : Int), vs = [.ref d, .int m] ∧ Dk H d c ∧ 0 < m ∧ m.natAbs < 2 ^ 64 ∧ ∀ H' r, Dk H' d c → Kp d c H H' → 0 ≤ r → r < m → Q (.int r) H'
theorem ok_draw {f : Addr} {fd : FuncData} {k : Nat} (F : Fun K "_law_draw" "_law_draw" sDraw f fd) : FnOk P w K mg base CX0 (k + 1) f fd ["_law_deck_here", "_law_many"] spDraw := by
  refine F.ok scDraw (fun vs H Q E h => ?_) (fun cdv A outer s H vs Q E hr h => ?_)
  · obtain ⟨d, c, m, rfl, _⟩ := h
    rfl
  · obtain ⟨d, c, m, rfl, hD, hm, hm2, q⟩ := h
    refine ⟨_, pss_cons (ps_asg (pe_op op_add (pe_ix ix_list (pv 0) pe_int (fun _ _ => rfl)) pe_int) (pg_sub (pv 0) pe_int set_list))
      (pss_cons (ps_set (i := 2) scDraw.nd rfl (.inl rfl) (pe_ix ix_list (pv 0) pe_int (fun _ _ => rfl)))
      (pss_cons (ps_set (i := 3) scDraw.nd rfl (.inl rfl) (pe_ix ix_list (pv 0) pe_int (fun _ _ => rfl)))
      (pss_cons (ps_if (pt_cmpR (op_neD hr.units) (pv 2) (pe_lst pa_nil) (nomark _))
        (pss_cons (ps_set (i := 3) scDraw.nd rfl (.inl rfl) (pe_bm PySem.F.plainAttrs_list PySem.F.slot_list_pop PySem.F.type_list_pop mt_popAt (pv 2) (pa_cons pe_int pa_nil)))
        (pss_cons (ps_if (pt_cmpR op_ge (pv 3) (pe_op op_pow pe_int pe_int) (nomark _))
          (pss_cons (ps_expr (pe_bm PySem.F.plainAttrs_list PySem.F.slot_list_insert PySem.F.type_list_insert mt_insert (pv 2) (pa_cons pe_int (pa_cons (pe_op op_fdivW (pv 3) (pv 1)) pa_nil))))
            (pss_one (ps_ret (pe_op op_mod (pv 3) (pv 1))))) pss_nil)
          (pss_one (ps_set (i := 3) scDraw.nd rfl (.inl rfl) (pe_op op_add (pv 3) (pe_ix ix_list (pv 0) pe_int (fun _ _ => rfl))))))) pss_nil)
      (pss_cons (ps_set (i := 4) scDraw.nd rfl (.inl rfl) (pe_op op_mod (pe_op op_add (pe_op op_add (pe_op op_mul (pe_op op_mod (pv 3) pe_int) pe_int) (pe_op op_mul pe_int (pe_ix ix_list (pv 0) pe_int (fun _ _ => rfl)))) pe_int) pe_int))
      (pss_cons (ps_set (i := 4) scDraw.nd rfl (.inl rfl) (pe_op op_mod (pe_op op_add (pe_op op_add (pe_op op_mul (pv 4) (pv 4)) (pe_op op_mul pe_int (pv 4))) (pe_ix ix_list (pv 0) pe_int (fun _ _ => rfl))) pe_int))
      (pss_cons (ps_asg (pv 4) (pg_sub (pv 0) pe_int set_list))
      (pss_one (ps_ret (pe_op op_mod (pe_op op_fdiv (pe_op op_mod (pe_op op_mul (pv 4) (pe_op op_add (pv 4) pe_int)) pe_int) pe_int) (pv 1)))))))))), ?_⟩
    obtain ⟨ns, s0, n0, hd, hc, hl⟩ := hD
    have hcd : c ≠ d := by
      intro e
      subst e
      rw [hd] at hc
      cases ns with
      | nil => cases hc
      | cons n r =>
        have := (List.cons.inj (HO.lst.inj (Option.some.inj hc))).1
        cases this
    refine ⟨.ref d, rfl, d, _, 2, .int n0, rfl, rfl, .inl (.inl hd), atI_nat (j := 2) rfl, n0, 1, rfl, rfl, .ref d, rfl, d, _, 2, 2, rfl, rfl, hd, rfl, ?_⟩
    have hd1 : upd H d (.lst ([.ref c, .int s0, .int n0].set 2 (.int (n0 + 1)))) d = some (.lst [.ref c, .int s0, .int (n0 + 1)]) := upd_same
    have hc1 : upd H d (.lst ([.ref c, .int s0, .int n0].set 2 (.int (n0 + 1)))) c = some (.lst (ns.map V.int)) := by
      rw [upd_ne hcd]
      exact hc
    have kp1 : Kp d c H (upd H d (.lst ([.ref c, .int s0, .int n0].set 2 (.int (n0 + 1))))) := fun b o h1 _ e => by
      rw [upd_ne h1]
      exact e
    generalize upd H d (.lst ([.ref c, .int s0, .int n0].set 2 (.int (n0 + 1)))) = H1 at *
    refine ⟨.ref d, rfl, d, _, 0, .ref c, rfl, rfl, .inl (.inl hd1), atI_nat (j := 0) rfl, ?_⟩
    refine ⟨.ref d, rfl, d, _, 1, .int s0, rfl, rfl, .inl (.inl hd1), atI_nat (j := 1) rfl, ?_⟩
    refine ⟨.ref c, rfl, Nat.zero_le _, fun p np => ?_⟩
    have s2 : Same H1 (upd H1 p (.lst [])) := same_upd np
    have hd2 := s2 _ _ hd1
    have hc2 := s2 _ _ hc1
    have kp2 : Kp d c H (upd H1 p (.lst [])) := fun b o h1 h2 e => s2 _ _ (kp1 b o h1 h2 e)
    refine ⟨.list (ns.map .int), .list (([] : List Int).map .int), .lst (.inl (.inl hc2)) (dpInts _), .lst (.inl (.inl upd_same)) .nil, shpL _, shpL _, _, rfl, ?_⟩
    rw [eqvL]
    generalize upd H1 p (.lst []) = H2 at *
    cases ns with
    | nil =>
      refine iteF ?_
      refine ⟨_, rfl, _, _, rfl, rfl, (by show (0 : Int) < 2147483629; decide), _, _, rfl, rfl, .inr ⟨by decide, by decide⟩, .ref d, rfl, d, _, 2, .int (n0 + 1), rfl, rfl, .inl (.inl hd2), atI_nat (j := 2) rfl, 6997, (n0 + 1), rfl, rfl, .inl ⟨by decide, by decide⟩, _, _, rfl, rfl, _, _, rfl, rfl, _, _, rfl, rfl, (by show (0 : Int) < 2147483647; decide), ?_⟩
      have b0 := Int.emod_nonneg (s0 % 2147483629 * 48271 + 6997 * (n0 + 1) + 17) (show (2147483647 : Int) ≠ 0 by decide)
      have b1 := Int.emod_lt_of_pos (s0 % 2147483629 * 48271 + 6997 * (n0 + 1) + 17) (show (0 : Int) < 2147483647 by decide)
      refine ⟨_, rfl, _, rfl, _, _, rfl, rfl, .inl ⟨by omega, by omega⟩, _, rfl, 69621, _, rfl, rfl, .inl ⟨by decide, by decide⟩, _, _, rfl, rfl, .ref d, rfl, d, _, 2, .int (n0 + 1), rfl, rfl, .inl (.inl hd2), atI_nat (j := 2) rfl, _, _, rfl, rfl, _, _, rfl, rfl, (by show (0 : Int) < 2147483587; decide), ?_⟩
      have c0 := Int.emod_nonneg (((s0 % 2147483629 * 48271 + 6997 * (n0 + 1) + 17) % 2147483647) * ((s0 % 2147483629 * 48271 + 6997 * (n0 + 1) + 17) % 2147483647) + 69621 * ((s0 % 2147483629 * 48271 + 6997 * (n0 + 1) + 17) % 2147483647) + (n0 + 1)) (show (2147483587 : Int) ≠ 0 by decide)
      have c1 := Int.emod_lt_of_pos (((s0 % 2147483629 * 48271 + 6997 * (n0 + 1) + 17) % 2147483647) * ((s0 % 2147483629 * 48271 + 6997 * (n0 + 1) + 17) % 2147483647) + 69621 * ((s0 % 2147483629 * 48271 + 6997 * (n0 + 1) + 17) % 2147483647) + (n0 + 1)) (show (0 : Int) < 2147483587 by decide)
      refine ⟨_, rfl, .ref d, rfl, d, _, 1, 1, rfl, rfl, hd2, rfl, ?_⟩
      refine ⟨_, rfl, _, rfl, _, 40692, rfl, rfl, _, _, rfl, rfl, .inl ⟨by omega, by omega⟩, _, _, rfl, rfl, (by show (0 : Int) < 2147483563; decide), _, 64, rfl, rfl, ⟨by decide, by decide⟩, .int m, rfl, _, m, rfl, rfl, hm, ?_⟩
      refine q _ _ ⟨[], _, (n0 + 1), upd_same, ?_, by decide⟩ (fun b o h1 h2 e => ?_) (Int.emod_nonneg _ (by omega)) (Int.emod_lt_of_pos _ hm)
      · rw [upd_ne hcd]
        exact hc2
      · rw [upd_ne h1]
        exact kp2 b o h1 h2 e
    | cons n r =>
      refine iteT ?_
      have ep : (V.int n :: r.map V.int).eraseIdx 0 = r.map V.int := rfl
      refine ⟨.ref c, rfl, .inl ⟨rfl, _, .inl (.inl hc2)⟩, c, _, 0, 0, .int n, rfl, rfl, hc2, by decide, by decide, seqIndex_of (k := 0) (by decide) (by rw [List.length_map, List.length_cons]; omega), rfl, ?_⟩
      have hc3 : upd H2 c (.lst (((n :: r).map V.int).eraseIdx 0)) c = some (.lst (r.map V.int)) := upd_same
      have hd3 : upd H2 c (.lst (((n :: r).map V.int).eraseIdx 0)) d = some (.lst [.ref c, .int s0, .int (n0 + 1)]) := by
        rw [upd_ne hcd.symm]
        exact hd2
      have kp3 : Kp d c H (upd H2 c (.lst (((n :: r).map V.int).eraseIdx 0))) := fun b o h1 h2 e => by
        rw [upd_ne h2]
        exact kp2 b o h1 h2 e
      have hl3 : r.length ≤ 62 := by
        have : (n :: r).length = r.length + 1 := rfl
        omega
      generalize upd H2 c (.lst (((n :: r).map V.int).eraseIdx 0)) = H3 at *
      refine ⟨.int n, rfl, 10, 18, rfl, rfl, ⟨by decide, by decide, by decide⟩, n, _, rfl, rfl, _, rfl, ite2 (fun _ => ?_) (fun _ => ?_)⟩
      · refine ⟨.ref c, rfl, .inl ⟨rfl, _, .inl (.inl hc3)⟩, .int n, rfl, .int m, rfl, n, m, rfl, rfl, wide_div hm hm2 (by decide) (by decide), c, _, 0, _, rfl, rfl, hc3, ?_, by decide, by decide, ?_⟩
        · rw [List.length_map]
          exact Nat.lt_of_le_of_lt hl3 (by decide)
        refine ⟨.int n, rfl, .int m, rfl, n, m, rfl, rfl, hm, ?_⟩
        refine q _ _ ⟨n / m :: r, s0, n0 + 1, ?_, upd_same, by simpa using hl3⟩ (fun b o h1 h2 e => ?_) (Int.emod_nonneg _ (by omega)) (Int.emod_lt_of_pos _ hm)
        · rw [upd_ne hcd.symm]
          exact hd3
        · rw [upd_ne h2]
          exact kp3 b o h1 h2 e
      · refine ⟨.int n, rfl, .ref d, rfl, d, _, 1, .int s0, rfl, rfl, .inl (.inl hd3), atI_nat (j := 1) rfl, n, s0, rfl, rfl, ?_⟩
        refine ⟨_, rfl, _, _, rfl, rfl, (by show (0 : Int) < 2147483629; decide), _, _, rfl, rfl, .inr ⟨by decide, by decide⟩, .ref d, rfl, d, _, 2, .int (n0 + 1), rfl, rfl, .inl (.inl hd3), atI_nat (j := 2) rfl, 6997, (n0 + 1), rfl, rfl, .inl ⟨by decide, by decide⟩, _, _, rfl, rfl, _, _, rfl, rfl, _, _, rfl, rfl, (by show (0 : Int) < 2147483647; decide), ?_⟩
        have b0 := Int.emod_nonneg ((n + s0) % 2147483629 * 48271 + 6997 * (n0 + 1) + 17) (show (2147483647 : Int) ≠ 0 by decide)
        have b1 := Int.emod_lt_of_pos ((n + s0) % 2147483629 * 48271 + 6997 * (n0 + 1) + 17) (show (0 : Int) < 2147483647 by decide)
        refine ⟨_, rfl, _, rfl, _, _, rfl, rfl, .inl ⟨by omega, by omega⟩, _, rfl, 69621, _, rfl, rfl, .inl ⟨by decide, by decide⟩, _, _, rfl, rfl, .ref d, rfl, d, _, 2, .int (n0 + 1), rfl, rfl, .inl (.inl hd3), atI_nat (j := 2) rfl, _, _, rfl, rfl, _, _, rfl, rfl, (by show (0 : Int) < 2147483587; decide), ?_⟩
        have c0 := Int.emod_nonneg ((((n + s0) % 2147483629 * 48271 + 6997 * (n0 + 1) + 17) % 2147483647) * (((n + s0) % 2147483629 * 48271 + 6997 * (n0 + 1) + 17) % 2147483647) + 69621 * (((n + s0) % 2147483629 * 48271 + 6997 * (n0 + 1) + 17) % 2147483647) + (n0 + 1)) (show (2147483587 : Int) ≠ 0 by decide)
        have c1 := Int.emod_lt_of_pos ((((n + s0) % 2147483629 * 48271 + 6997 * (n0 + 1) + 17) % 2147483647) * (((n + s0) % 2147483629 * 48271 + 6997 * (n0 + 1) + 17) % 2147483647) + 69621 * (((n + s0) % 2147483629 * 48271 + 6997 * (n0 + 1) + 17) % 2147483647) + (n0 + 1)) (show (0 : Int) < 2147483587 by decide)
        refine ⟨_, rfl, .ref d, rfl, d, _, 1, 1, rfl, rfl, hd3, rfl, ?_⟩
        refine ⟨_, rfl, _, rfl, _, 40692, rfl, rfl, _, _, rfl, rfl, .inl ⟨by omega, by omega⟩, _, _, rfl, rfl, (by show (0 : Int) < 2147483563; decide), _, 64, rfl, rfl, ⟨by decide, by decide⟩, .int m, rfl, _, m, rfl, rfl, hm, ?_⟩
        refine q _ _ ⟨r, _, (n0 + 1), upd_same, ?_, by omega⟩ (fun b o h1 h2 e => ?_) (Int.emod_nonneg _ (by omega)) (Int.emod_lt_of_pos _ hm)
        · rw [upd_ne hcd]
          exact hc3
        · rw [upd_ne h1]
          exact kp3 b o h1 h2 e
end
end Ksec

set_option Elab.async false
set_option linter.all false
set_option maxRecDepth 100000
set_option maxHeartbeats 4000000
namespace Ksec
open PySem PySem.Spec PyProof.Rows L2
abbrev sNames : Stmt := topS 13
abbrev nNames : List Str := ["_law_deck_here", "_law_many", "_law_letters", "_law_kinds", "_law_mode", "_law_turn", "_law_base", "_law_size", "_law_at", "_law_k"]
theorem scNames : FnScope nNames ["_law_deck_here", "_law_many"] (defScope sNames) := ⟨rfl, rfl, rfl, by decide +kernel, rfl, by decide +kernel, by decide +kernel⟩
/-! letters -/
def Lt (z : Str) : Prop := ∀ c ∈ z.cps.toList, 97 ≤ c ∧ c ≤ 122
theorem lt_app {a b : Str} (h1 : Lt a) (h2 : Lt b) : Lt (a ++ b) := fun c hc => by
  have e : (a ++ b).cps.toList = a.cps.toList ++ b.cps.toList := by
    show (a.cps ++ b.cps).toList = _
    rw [Array.toList_append]
  rw [e] at hc
  exact (List.mem_append.mp hc).elim (h1 c) (h2 c)
theorem lt_cut {z : Str} (h : Lt z) (lo hi : Option Int) : Lt (cutS z lo hi) := fun c hc => by
  unfold cutS at hc
  exact h c (List.mem_of_mem_drop (List.mem_of_mem_take (by simpa using hc)))
theorem lt_one {c : Nat} (h : 97 ≤ c ∧ c ≤ 122) : Lt ⟨#[c]⟩ := fun x hx => by
  have e : x = c := by simpa using hx
  subst e
  exact h
theorem len_strL (z : Str) : z.length = z.cps.toList.length := by simp [Str.length]
theorem len_cut (z : Str) (lo hi : Option Int) : (cutS z lo hi).length = min (HT.sIx z.length z.length hi - HT.sIx z.length 0 lo) (z.length - HT.sIx z.length 0 lo) := by
  rw [len_strL]
  unfold cutS
  rw [List.length_take, List.length_drop, len_strL z]
theorem join_lt : ∀ ys : List Str, (∀ y ∈ ys, Lt y) → Lt (Str.join ("" : Str) ys)
  | [], _ => fun c hc => by simp [Str.join, Str.empty] at hc
  | [y], h => h y (List.mem_cons_self ..)
  | x :: y :: r, h => lt_app (lt_app (h x (List.mem_cons_self ..)) fun c hc => absurd hc (by decide +revert)) (join_lt (y :: r) fun z hz => h z (List.mem_cons_of_mem _ hz))
theorem join_len : ∀ ys : List Str, (∀ y ∈ ys, y.length = 1) → (Str.join ("" : Str) ys).length = ys.length
  | [], _ => rfl
  | [y], h => h y (List.mem_cons_self ..)
  | x :: y :: r, h => by
    have ih := join_len (y :: r) fun z hz => h z (List.mem_cons_of_mem _ hz)
    show (x ++ "" ++ Str.join "" (y :: r)).length = _
    rw [strLen_append, strLen_append, ih, h x (List.mem_cons_self ..)]
    show 1 + 0 + (r.length + 1) = r.length + 1 + 1
    omega
def letters : Str := "abcdefghijklmnopqrstuvwxyz"
theorem letter_at {i : Int} (h0 : 0 ≤ i) (h1 : i < 26) : ∃ c, atI letters.cps.toList i = some c ∧ 97 ≤ c ∧ c ≤ 122 := by
  have key : ∀ j : Fin 26, ∃ c, letters.cps.toList[j.val]? = some c ∧ 97 ≤ c ∧ c ≤ 122 := fun j => by
    have h : ∀ j : Fin 26, ((letters.cps.toList[j.val]?).any fun c => decide (97 ≤ c ∧ c ≤ 122)) = true := by decide +kernel
    have h2 := h j
    cases e : letters.cps.toList[j.val]? with
    | none =>
      rw [e] at h2
      cases h2
    | some c =>
      rw [e] at h2
      exact ⟨c, rfl, of_decide_eq_true h2⟩
  obtain ⟨c, e, hc⟩ := key ⟨i.toNat, by omega⟩
  refine ⟨c, ?_, hc⟩
  have := atI_nat e
  rw [show ((i.toNat : Nat) : Int) = i by omega] at this
  exact this
def kinds : List Str := ["same", "both", "call", "either", "fresh", "unlike", "number", "word", "absent", "x", "put", "go"]
theorem kinds_wd : ∀ z ∈ kinds, Wd z := by
  have h : kinds.all (fun z => decide (1 ≤ z.length) && decide (z.length ≤ 8) && z.cps.toList.all fun c => decide (97 ≤ c ∧ c ≤ 122)) = true := by decide +kernel
  intro z hz
  have h2 := List.all_eq_true.mp h z hz
  simp only [Bool.and_eq_true, decide_eq_true_eq, List.all_eq_true] at h2
  exact ⟨h2.1.1, h2.1.2, h2.2⟩
theorem kind_at {i : Int} (h0 : 0 ≤ i) (h1 : i < 12) : ∃ z, atI (kinds.map V.str) i = some (.str z) ∧ Wd z := by
  have hl : i.toNat < kinds.length := by
    show i.toNat < 12
    omega
  refine ⟨kinds[i.toNat], ?_, kinds_wd _ (List.getElem_mem hl)⟩
  have e : (kinds.map V.str)[i.toNat]? = some (.str kinds[i.toNat]) := by
    rw [List.getElem?_map, List.getElem?_eq_getElem hl]
    rfl
  have := atI_nat e
  rw [show ((i.toNat : Nat) : Int) = i by omega] at this
  exact this
theorem Kp.refl (d c : Addr) (H : Hp) : Kp d c H H := fun _ _ _ _ e => e
theorem Kp.trans {d c : Addr} {H H1 H2 : Hp} (a : Kp d c H H1) (b : Kp d c H1 H2) : Kp d c H H2 := fun x o h1 h2 e => b x o h1 h2 (a x o h1 h2 e)
theorem kpSame {d c : Addr} {H H1 : Hp} (a : Same H H1) : Kp d c H H1 := fun x o _ _ e => a x o e
theorem Dk.same {d c : Addr} {H H1 : Hp} (h : Dk H d c) (a : Same H H1) : Dk H1 d c := let ⟨ns, s, n, h1, h2, h3⟩ := h; ⟨ns, s, n, a _ _ h1, a _ _ h2, h3⟩
theorem Dk.ne1 {d c p : Addr} {H : Hp} (h : Dk H d c) (e : H p = none) : p ≠ d := let ⟨_, _, _, h1, _⟩ := h; (ne_of_none h1 e).symm
theorem Dk.ne2 {d c p : Addr} {H : Hp} (h : Dk H d c) (e : H p = none) : p ≠ c := let ⟨_, _, _, _, h2, _⟩ := h; (ne_of_none h2 e).symm
theorem yes {σ : L2.St} {H : Hp} {P R : Hp → Prop} (h : P H) : tYes σ H fun b H3 => if b = true then P H3 else R H3 := by
  show if (true = true) then P H else R H
  rw [if_pos rfl]
  exact h
section
variable {P : Program} {w : World} {K : PySem.W.Frag} {mg : Str → Option Value} {base : Heap}
def spNames : Sp := fun vs H Q _ => ∃ (d c : Addr) (m : Nat), vs = [.ref d, .int m] ∧ Dk H d c ∧ m ≤ 8 ∧
  ∀ (H' : Hp) (p : Addr) (zs : List Str), Dk H' d c → Kp d c H H' → H p = none → p ≠ d → p ≠ c → H' p = some (.lst (zs.map V.str)) → zs.length = m → (∀ z ∈ zs, Wd z) → Q (.ref p) H'
theorem ok_names {f fD : Addr} {fd fdD : FuncData} {k : Nat} (F : Fun K "_law_names" "_law_names" sNames f fd) (GD : FnOk P w K mg base CX0 (k + 1) fD fdD ["_law_deck_here", "_law_many"] spDraw) (bD : Binds K fdD ["_law_deck_here", "_law_many"] [])
    (gD : mg "_law_draw" = some (.ref fD)) (kD : PySem.W.keepIn K (.ref fD) = true) (m1 : mg "range" = none) : FnOk P w K mg base CX0 (k + 2) f fd ["_law_deck_here", "_law_many"] spNames := by
  refine F.ok scNames (fun vs H Q E h => ?_) (fun cdv A outer s H vs Q E hr h => ?_)
  · obtain ⟨d, c, m, rfl, _⟩ := h
    rfl
  · obtain ⟨d, c, m, rfl, hD, hm, q⟩ := h
    refine ⟨_, pss_cons (ps_set (i := 2) scNames.nd rfl (.inr rfl) pe_str)
      (pss_cons (ps_set (i := 3) scNames.nd rfl (.inr rfl) (pe_lst (pa_cons pe_str (pa_cons pe_str (pa_cons pe_str (pa_cons pe_str (pa_cons pe_str (pa_cons pe_str (pa_cons pe_str (pa_cons pe_str (pa_cons pe_str (pa_cons pe_str (pa_cons pe_str (pa_cons pe_str pa_nil))))))))))))))
      (pss_cons (ps_set (i := 4) scNames.nd rfl (.inl rfl) (pe_call GD hr (by rfl) gD kD bD .nil pass0 (pa_cons (pv 0) (pa_cons pe_int pa_nil))))
      (pss_cons (ps_set (i := 5) scNames.nd rfl (.inr rfl) (pe_call GD hr (by rfl) gD kD bD .nil pass0 (pa_cons (pv 0) (pa_cons pe_int pa_nil))))
      (pss_cons (ps_set (i := 6) scNames.nd rfl (.inr rfl) (pe_join pe_str
        (pe_lc (own := [("_law_k", 9)]) (g := gName 9) (tt := tYes) rfl scNames.nd (pi_range1 (by rfl) m1 (pa_cons pe_int pa_nil)) (blkOk_by (own := [("_law_k", 9)]) (N := nNames) (sc := defScope sNames) (by decide +kernel))
          (fun _ _ _ _ _ => pg_name (i := 9) scNames.nd rfl (Or.inl rfl)) (fun _ _ _ _ _ => pts_nil) (fun _ _ _ _ _ => pe_ix ix_str (pv 2) (pe_call GD hr (by rfl) gD kD bD .nil pass0 (pa_cons (pv 0) (pa_cons pe_int pa_nil))) (fun _ _ => rfl)))))
      (pss_cons (ps_set (i := 7) scNames.nd rfl (.inr rfl) (pe_op op_add pe_int (pe_call GD hr (by rfl) gD kD bD .nil pass0 (pa_cons (pv 0) (pa_cons pe_int pa_nil)))))
      (pss_cons (ps_set (i := 8) scNames.nd rfl (.inr rfl) (pe_call GD hr (by rfl) gD kD bD .nil pass0 (pa_cons (pv 0) (pa_cons (pv 7) pa_nil))))
      (pss_cons (ps_if (pt_cmpR op_eq (pv 4) pe_int (nomark _)) (pss_one (ps_ret
        (pe_lc (own := [("_law_k", 9)]) (g := gName 9) (tt := tYes) rfl scNames.nd (pi_range1 (by rfl) m1 (pa_cons (pv 1) pa_nil)) (blkOk_by (own := [("_law_k", 9)]) (N := nNames) (sc := defScope sNames) (by decide +kernel))
          (fun _ _ _ _ _ => pg_name (i := 9) scNames.nd rfl (Or.inl rfl)) (fun _ _ _ _ _ => pts_nil) (fun _ _ _ _ _ => pe_ix (r := rIxL K) ix_list (pv 3) (pe_op op_mod (pe_op op_add (pv 5) (pe_op op_mul pe_int (pv 9))) pe_int) (fun _ _ => rfl))))) pss_nil)
      (pss_cons (ps_if (PW.pt (pw_and (pt_cmpR op_eq (pv 4) pe_int (nomark _)) (pw_and1 (pt_cmpR op_lt (pv 1) pe_int (nomark _))))) (pss_one (ps_ret
        (pe_lc (own := [("_law_k", 9)]) (g := gName 9) (tt := tYes) rfl scNames.nd (pi_range1 (by rfl) m1 (pa_cons (pv 1) pa_nil)) (blkOk_by (own := [("_law_k", 9)]) (N := nNames) (sc := defScope sNames) (by decide +kernel))
          (fun _ _ _ _ _ => pg_name (i := 9) scNames.nd rfl (Or.inl rfl)) (fun _ _ _ _ _ => pts_nil) (fun _ _ _ _ _ => pe_slice sl_str (pv 6) po_none (po_some (pe_op op_add pe_int (pv 9))))))) pss_nil)
      (pss_one (ps_ret
        (pe_lc (own := [("_law_k", 9)]) (g := gName 9) (tt := tYes) rfl scNames.nd (pi_range1 (by rfl) m1 (pa_cons (pv 1) pa_nil)) (blkOk_by (own := [("_law_k", 9)]) (N := nNames) (sc := defScope sNames) (by decide +kernel))
          (fun _ _ _ _ _ => pg_name (i := 9) scNames.nd rfl (Or.inl rfl)) (fun _ _ _ _ _ => pts_nil) (fun _ _ _ _ _ => pe_op op_add_str (pe_op op_add_str (pe_slice sl_str (pv 6) po_none (po_some (pv 8)))
            (pe_ix ix_str (pv 2) (pe_op op_mod (pe_op op_add (pv 5) (pe_op op_mul pe_int (pv 9))) pe_int) (fun _ _ => rfl))) (pe_slice sl_str (pv 6) (po_some (pe_op op_add (pv 8) pe_int)) (po_some (pv 7))))))))))))))), ?_⟩
    refine ⟨(by show 12 ≤ sizeLine; decide), fun kl nk => ?_⟩
    have hk1 : upd H kl (.lst (kinds.map V.str)) kl = some (.lst (kinds.map V.str)) := upd_same
    have s1 : Same H (upd H kl (.lst (kinds.map V.str))) := same_upd nk
    have hD1 := hD.same s1
    have kp1 : Kp d c H (upd H kl (.lst (kinds.map V.str))) := kpSame s1
    have nk1 := hD.ne1 nk
    have nk2 := hD.ne2 nk
    show tSeq _ _ _ _ (upd H kl (.lst (kinds.map V.str)))
    generalize upd H kl (.lst (kinds.map V.str)) = H1 at *
    refine ⟨.ref d, rfl, d, c, 4, rfl, hD1, by decide, by decide, fun H2 mode hD2 kp2 b0 b1 => ?_⟩
    refine ⟨.ref d, rfl, d, c, 26, rfl, hD2, by decide, by decide, fun H3 turn hD3 kp3 b2 b3 => ?_⟩
    have hk3 := kp3 _ _ nk1 nk2 (kp2 _ _ nk1 nk2 hk1)
    have kq3 := kp1.trans (kp2.trans kp3)
    refine ⟨⟨_, rfl⟩, 8, rfl, by decide, by decide, fun D nD => ?_⟩
    have nD1 := hD3.ne1 nD
    have nD2 := hD3.ne2 nD
    refine lc_range (lo := 0) (n := 8) (fun i H' => ∃ ys : List Str, H' D = some (.lst (ys.map V.str)) ∧ ys.length = i ∧ (∀ y ∈ ys, y.length = 1 ∧ Lt y) ∧ Dk H' d c ∧ Kp d c H3 H') ?_ (fun i H4 hi h4 => ?_) (fun H4 h4 => ?_)
    · exact ⟨[], upd_same, rfl, fun y hy => absurd hy List.not_mem_nil, hD3.same (same_upd nD), kpSame (same_upd nD)⟩
    · obtain ⟨ys, e1, e2, e3, e4, e5⟩ := h4
      refine ⟨rfl, yes ?_⟩
      refine ⟨.str letters, rfl, .ref d, rfl, d, c, 26, rfl, e4, by decide, by decide, fun H5 r hD5 kp5 b4 b5 => ?_⟩
      obtain ⟨ch, hc1, hc2⟩ := letter_at b4 b5
      refine ⟨letters, r, ch, rfl, rfl, (by decide +kernel), hc1, _, kp5 _ _ nD1 nD2 e1, ?_, ys ++ [⟨#[ch]⟩], ?_, ?_, ?_, ?_, ?_⟩
      · rw [List.length_map, e2]
        exact Nat.lt_of_lt_of_le hi (by decide)
      · rw [upd_same, List.map_append]
        rfl
      · rw [List.length_append, e2]
        rfl
      · intro y hy
        rcases List.mem_append.mp hy with h | h
        · exact e3 y h
        · rw [List.mem_singleton.mp h]
          exact ⟨rfl, lt_one hc2⟩
      · obtain ⟨ns, s', n', g1, g2, g3⟩ := hD5
        exact ⟨ns, s', n', by rw [upd_ne nD1.symm]; exact g1, by rw [upd_ne nD2.symm]; exact g2, g3⟩
      · intro b o h1 h2 e
        by_cases hb : b = D
        · rw [hb, nD] at e
          cases e
        · rw [upd_ne hb]
          exact kp5 _ _ h1 h2 (e5 _ _ h1 h2 e)
    obtain ⟨ys, e1, e2, e3, hD4, kp4⟩ := h4
    have hsum : (ys.map (·.length)).sum ≤ 8 := by
      have h : ∀ l : List Str, (∀ y ∈ l, y.length = 1) → (l.map (·.length)).sum = l.length := by
        intro l
        induction l with
        | nil => intro _; rfl
        | cons y r ih =>
          intro hl
          rw [List.map_cons, List.sum_cons, ih fun z hz => hl z (List.mem_cons_of_mem _ hz), hl y (List.mem_cons_self ..), List.length_cons]
          omega
      rw [h ys fun y hy => (e3 y hy).1, e2]
      omega
    refine ⟨("" : Str), D, ys, rfl, rfl, .inl (.inl (.inl e1)), ?_, ?_⟩
    · show (ys.map (·.length)).sum + ys.length * 0 ≤ 16777216
      omega
    have hb1 : (Txt.join ("" : Str) ys).length = 8 := by
      rw [TL.join_eq, join_len ys fun y hy => (e3 y hy).1, e2]
    have hb2 : Lt (Txt.join ("" : Str) ys) := by
      rw [TL.join_eq]
      exact join_lt ys fun y hy => (e3 y hy).2
    have hk4 := kp4 _ _ nk1 nk2 hk3
    have kq4 := kq3.trans kp4
    generalize Txt.join ("" : Str) ys = bse at *
    refine ⟨.ref d, rfl, d, c, 8, rfl, hD4, by decide, by decide, fun H5 r hD5 kp5 b4 b5 => ⟨1, r, rfl, rfl, ?_⟩⟩
    refine ⟨.ref d, rfl, .int (1 + r), rfl, d, c, 1 + r, rfl, hD5, by omega, ?_, fun H6 at6 hD6 kp6 b6 b7 => ?_⟩
    · have : (1 + r).natAbs ≤ 8 := by omega
      exact Nat.lt_of_le_of_lt this (by decide)
    have hk6 := kp6 _ _ nk1 nk2 (kp5 _ _ nk1 nk2 hk4)
    have kq6 := kq4.trans (kp5.trans kp6)
    have free6 : ∀ p, p ≠ d → p ≠ c → H6 p = none → H p = none := fun p h1 h2 h => by
      cases e : H p with
      | none => rfl
      | some o =>
        rw [kq6 p o h1 h2 e] at h
        cases h
    refine ⟨.int mode, rfl, rfl, _, rfl, ite2 (fun _ => ?_) (fun _ => ?_)⟩
    · refine ⟨.int m, rfl, m, rfl, by omega, by omega, fun D2 nD' => ?_⟩
      have nD3 := hD6.ne1 nD'
      have nD4 := hD6.ne2 nD'
      refine lc_range (lo := 0) (n := m) (fun i H' => ∃ zs : List Str, H' D2 = some (.lst (zs.map V.str)) ∧ zs.length = i ∧ (∀ z ∈ zs, Wd z) ∧ Dk H' d c ∧ Kp d c H6 H') ?_ (fun i H7 hi h7 => ?_) (fun H7 h7 => ?_)
      · exact ⟨[], upd_same, rfl, fun y hy => absurd hy List.not_mem_nil, hD6.same (same_upd nD'), kpSame (same_upd nD')⟩
      · obtain ⟨zs, g1, g2, g3, g4, g5⟩ := h7
        have last : ∀ z : Str, Wd z → ∃ acc, H7 D2 = some (.lst acc) ∧ acc.length < sizeLine ∧ ∃ zs : List Str, upd H7 D2 (.lst (acc ++ [V.str z])) D2 = some (.lst (zs.map V.str)) ∧ zs.length = i + 1 ∧ (∀ z ∈ zs, Wd z) ∧ Dk (upd H7 D2 (.lst (acc ++ [V.str z]))) d c ∧ Kp d c H6 (upd H7 D2 (.lst (acc ++ [V.str z]))) := fun z hz => by
          refine ⟨_, g1, ?_, zs ++ [z], ?_, ?_, ?_, ?_, ?_⟩
          · rw [List.length_map, g2]
            exact Nat.lt_of_lt_of_le hi (Nat.le_trans hm (by decide))
          · rw [upd_same, List.map_append]
            rfl
          · rw [List.length_append, g2]
            rfl
          · intro y hy
            rcases List.mem_append.mp hy with h | h
            · exact g3 y h
            · rw [List.mem_singleton.mp h]
              exact hz
          · obtain ⟨ns, s', n', q1, q2, q3⟩ := g4
            exact ⟨ns, s', n', by rw [upd_ne nD3.symm]; exact q1, by rw [upd_ne nD4.symm]; exact q2, q3⟩
          · intro b o h1 h2 e
            by_cases hb : b = D2
            · rw [hb, nD'] at e
              cases e
            · rw [upd_ne hb]
              exact g5 _ _ h1 h2 e
        have m0 := Int.emod_nonneg (turn + 5 * (0 + (i : Int))) (show (12 : Int) ≠ 0 by decide)
        have m1' := Int.emod_lt_of_pos (turn + 5 * (0 + (i : Int))) (show (0 : Int) < 12 by decide)
        obtain ⟨z, hz1, hz2⟩ := kind_at m0 m1'
        refine ⟨rfl, yes ?_⟩
        exact ⟨.ref kl, rfl, .int turn, rfl, _, rfl, 5, _, rfl, rfl, .inl ⟨by decide, by decide⟩, turn, _, rfl, rfl, _, 12, rfl, rfl, (by show (0 : Int) < 12; decide), kl, _, _, _, rfl, rfl, .inl (.inl (g5 _ _ nk1 nk2 hk6)), hz1, last z hz2⟩
      · obtain ⟨zs, g1, g2, g3, g4, g5⟩ := h7
        exact q H7 D2 zs g4 (kq6.trans g5) (free6 D2 nD3 nD4 nD') nD3 nD4 g1 g2 g3
    refine ⟨.int mode, rfl, rfl, _, rfl, ite2 (fun _ => ?_) (fun _ => ?_)⟩
    · refine ⟨.int m, rfl, _, _, rfl, rfl, _, rfl, ?_⟩
      refine ite2 (fun _ => ?_) (fun e => absurd (decide_eq_true (show (m : Int) < 9 by omega)) e)
      · refine ⟨.int m, rfl, m, rfl, by omega, by omega, fun D2 nD' => ?_⟩
        have nD3 := hD6.ne1 nD'
        have nD4 := hD6.ne2 nD'
        refine lc_range (lo := 0) (n := m) (fun i H' => ∃ zs : List Str, H' D2 = some (.lst (zs.map V.str)) ∧ zs.length = i ∧ (∀ z ∈ zs, Wd z) ∧ Dk H' d c ∧ Kp d c H6 H') ?_ (fun i H7 hi h7 => ?_) (fun H7 h7 => ?_)
        · exact ⟨[], upd_same, rfl, fun y hy => absurd hy List.not_mem_nil, hD6.same (same_upd nD'), kpSame (same_upd nD')⟩
        · obtain ⟨zs, g1, g2, g3, g4, g5⟩ := h7
          have last : ∀ z : Str, Wd z → ∃ acc, H7 D2 = some (.lst acc) ∧ acc.length < sizeLine ∧ ∃ zs : List Str, upd H7 D2 (.lst (acc ++ [V.str z])) D2 = some (.lst (zs.map V.str)) ∧ zs.length = i + 1 ∧ (∀ z ∈ zs, Wd z) ∧ Dk (upd H7 D2 (.lst (acc ++ [V.str z]))) d c ∧ Kp d c H6 (upd H7 D2 (.lst (acc ++ [V.str z]))) := fun z hz => by
            refine ⟨_, g1, ?_, zs ++ [z], ?_, ?_, ?_, ?_, ?_⟩
            · rw [List.length_map, g2]
              exact Nat.lt_of_lt_of_le hi (Nat.le_trans hm (by decide))
            · rw [upd_same, List.map_append]
              rfl
            · rw [List.length_append, g2]
              rfl
            · intro y hy
              rcases List.mem_append.mp hy with h | h
              · exact g3 y h
              · rw [List.mem_singleton.mp h]
                exact hz
            · obtain ⟨ns, s', n', q1, q2, q3⟩ := g4
              exact ⟨ns, s', n', by rw [upd_ne nD3.symm]; exact q1, by rw [upd_ne nD4.symm]; exact q2, q3⟩
            · intro b o h1 h2 e
              by_cases hb : b = D2
              · rw [hb, nD'] at e
                cases e
              · rw [upd_ne hb]
                exact g5 _ _ h1 h2 e
          refine ⟨rfl, yes ?_⟩
          refine ⟨_, rfl, _, rfl, 1, _, rfl, rfl, _, rfl, bse, rfl, ?_, last _ ?_⟩
          · rw [hb1]
            decide
          · refine ⟨?_, ?_, lt_cut hb2 _ _⟩
            · rw [len_cut, HT.sIx_none, hb1, show (1 + (0 + (i : Int))) = ((1 + i : Nat) : Int) by omega, HT.sIx_nat]
              omega
            · rw [len_cut, HT.sIx_none, hb1, show (1 + (0 + (i : Int))) = ((1 + i : Nat) : Int) by omega, HT.sIx_nat]
              omega
        · obtain ⟨zs, g1, g2, g3, g4, g5⟩ := h7
          exact q H7 D2 zs g4 (kq6.trans g5) (free6 D2 nD3 nD4 nD') nD3 nD4 g1 g2 g3
    · refine iteF ?_
      refine ⟨.int m, rfl, m, rfl, by omega, by omega, fun D2 nD' => ?_⟩
      have nD3 := hD6.ne1 nD'
      have nD4 := hD6.ne2 nD'
      refine lc_range (lo := 0) (n := m) (fun i H' => ∃ zs : List Str, H' D2 = some (.lst (zs.map V.str)) ∧ zs.length = i ∧ (∀ z ∈ zs, Wd z) ∧ Dk H' d c ∧ Kp d c H6 H') ?_ (fun i H7 hi h7 => ?_) (fun H7 h7 => ?_)
      · exact ⟨[], upd_same, rfl, fun y hy => absurd hy List.not_mem_nil, hD6.same (same_upd nD'), kpSame (same_upd nD')⟩
      · obtain ⟨zs, g1, g2, g3, g4, g5⟩ := h7
        have last : ∀ z : Str, Wd z → ∃ acc, H7 D2 = some (.lst acc) ∧ acc.length < sizeLine ∧ ∃ zs : List Str, upd H7 D2 (.lst (acc ++ [V.str z])) D2 = some (.lst (zs.map V.str)) ∧ zs.length = i + 1 ∧ (∀ z ∈ zs, Wd z) ∧ Dk (upd H7 D2 (.lst (acc ++ [V.str z]))) d c ∧ Kp d c H6 (upd H7 D2 (.lst (acc ++ [V.str z]))) := fun z hz => by
          refine ⟨_, g1, ?_, zs ++ [z], ?_, ?_, ?_, ?_, ?_⟩
          · rw [List.length_map, g2]
            exact Nat.lt_of_lt_of_le hi (Nat.le_trans hm (by decide))
          · rw [upd_same, List.map_append]
            rfl
          · rw [List.length_append, g2]
            rfl
          · intro y hy
            rcases List.mem_append.mp hy with h | h
            · exact g3 y h
            · rw [List.mem_singleton.mp h]
              exact hz
          · obtain ⟨ns, s', n', q1, q2, q3⟩ := g4
            exact ⟨ns, s', n', by rw [upd_ne nD3.symm]; exact q1, by rw [upd_ne nD4.symm]; exact q2, q3⟩
          · intro b o h1 h2 e
            by_cases hb : b = D2
            · rw [hb, nD'] at e
              cases e
            · rw [upd_ne hb]
              exact g5 _ _ h1 h2 e
        have m0 := Int.emod_nonneg (turn + 7 * (0 + (i : Int))) (show (26 : Int) ≠ 0 by decide)
        have m1' := Int.emod_lt_of_pos (turn + 7 * (0 + (i : Int))) (show (0 : Int) < 26 by decide)
        obtain ⟨ch, hz1, hz2⟩ := letter_at m0 m1'
        have l1 : (cutS bse none (some at6)).length = at6.toNat := by
          rw [len_cut, HT.sIx_none, hb1, show at6 = ((at6.toNat : Nat) : Int) by omega, HT.sIx_nat]
          omega
        have l2 : (cutS bse (some (at6 + 1)) (some (1 + r))).length = (1 + r).toNat - (at6 + 1).toNat := by
          rw [len_cut, hb1, show at6 + 1 = (((at6 + 1).toNat : Nat) : Int) by omega, show 1 + r = (((1 + r).toNat : Nat) : Int) by omega, HT.sIx_nat, HT.sIx_nat]
          omega
        have l3 : (⟨#[ch]⟩ : Str).length = 1 := rfl
        refine ⟨rfl, yes ?_⟩
        refine ⟨_, rfl, _, rfl, at6, rfl, bse, rfl, ?_, .str letters, rfl, .int turn, rfl, _, rfl, 7, _, rfl, rfl, .inl ⟨by decide, by decide⟩, turn, _, rfl, rfl, _, 26, rfl, rfl, (by show (0 : Int) < 26; decide), letters, _, ch, rfl, rfl, (by decide +kernel), hz1, _, _, rfl, rfl, ?_, _, rfl, _, rfl, at6, 1, rfl, rfl, _, rfl, _, rfl, 1 + r, rfl, bse, rfl, ?_, _, _, rfl, rfl, ?_, last _ ⟨?_, ?_, ?_⟩⟩
        · rw [hb1]
          decide
        · rw [l1, l3]
          exact Nat.le_trans (show at6.toNat + 1 ≤ 100 by omega) (by decide)
        · rw [hb1]
          decide
        · rw [strLen_append, l1, l2, l3]
          exact Nat.le_trans (show at6.toNat + 1 + ((1 + r).toNat - (at6 + 1).toNat) ≤ 100 by omega) (by decide)
        · rw [strLen_append, strLen_append, l1, l2, l3]
          omega
        · rw [strLen_append, strLen_append, l1, l2, l3]
          omega
        · exact lt_app (lt_app (lt_cut hb2 _ _) (lt_one hz2)) (lt_cut hb2 _ _)
      · obtain ⟨zs, g1, g2, g3, g4, g5⟩ := h7
        exact q H7 D2 zs g4 (kq6.trans g5) (free6 D2 nD3 nD4 nD') nD3 nD4 g1 g2 g3
end
end Ksec

set_option Elab.async false
set_option linter.all false
set_option maxRecDepth 100000
set_option maxHeartbeats 4000000
namespace Ksec
open PySem PySem.Spec PyProof.Rows L2
abbrev sNumber : Stmt := topS 14
abbrev sTip : Stmt := topS 15
abbrev sTerm : Stmt := topS 16
abbrev sAny : Stmt := topS 17
theorem scNumber : FnScope ["_law_deck_here", "_law_far"] ["_law_deck_here"] (defScope sNumber) := ⟨rfl, rfl, rfl, by decide +kernel, rfl, by decide +kernel, by decide +kernel⟩
theorem scTip : FnScope ["_law_deck_here", "_law_words", "_law_unknowns_here", "_law_kind"] ["_law_deck_here", "_law_words", "_law_unknowns_here"] (defScope sTip) := ⟨rfl, rfl, rfl, by decide +kernel, rfl, by decide +kernel, by decide +kernel⟩
theorem scTerm : FnScope ["_law_deck_here", "_law_words", "_law_unknowns_here", "_law_deep", "_law_left", "_law_kind", "_law_head"] ["_law_deck_here", "_law_words", "_law_unknowns_here", "_law_deep", "_law_left"] (defScope sTerm) :=
  ⟨rfl, rfl, rfl, by decide +kernel, rfl, by decide +kernel, by decide +kernel⟩
theorem scAny : FnScope ["_law_deck_here", "_law_words", "_law_unknowns_here", "_law_kind", "_law_term_here", "_law_k", "_law_tip_here"] ["_law_deck_here", "_law_words", "_law_unknowns_here"] (defScope sAny) :=
  ⟨rfl, rfl, rfl, by decide +kernel, rfl, by decide +kernel, by decide +kernel⟩
theorem item_at {xs : List V} {i : Int} (h0 : 0 ≤ i) (h1 : i < xs.length) : ∃ v, v ∈ xs ∧ atI xs i = some v := by
  have hl : i.toNat < xs.length := by omega
  refine ⟨xs[i.toNat], List.getElem_mem hl, ?_⟩
  have := atI_nat (List.getElem?_eq_getElem hl)
  rw [show ((i.toNat : Nat) : Int) = i by omega] at this
  exact this
theorem Dk.lists {d c : Addr} {H : Hp} (h : Dk H d c) : (∃ xs, H d = some (.lst xs)) ∧ ∃ xs, H c = some (.lst xs) := let ⟨_, _, _, h1, h2, _⟩ := h; ⟨⟨_, h1⟩, ⟨_, h2⟩⟩
theorem kpTup {d c : Addr} {H H' : Hp} (h : Dk H d c) (k : Kp d c H H') : Tup H H' := fun b xs e => by
  obtain ⟨⟨x1, h1⟩, ⟨x2, h2⟩⟩ := h.lists
  exact k b _ (ne_of e h1 (by intro z; cases z)) (ne_of e h2 (by intro z; cases z)) e
section
variable {P : Program} {w : World} {K : PySem.W.Frag} {mg : Str → Option Value} {base : Heap}
def spNumber : Sp := fun vs H Q _ => ∃ (d c : Addr), vs = [.ref d] ∧ Dk H d c ∧ ∀ H' i, Dk H' d c → Kp d c H H' → i.natAbs ≤ 1000000000000 → Q (.int i) H'
theorem ok_number {f fD : Addr} {fd fdD : FuncData} {k : Nat} (F : Fun K "_law_number" "_law_number" sNumber f fd) (GD : FnOk P w K mg base CX0 (k + 1) fD fdD ["_law_deck_here", "_law_many"] spDraw) (bD : Binds K fdD ["_law_deck_here", "_law_many"] [])
    (gD : mg "_law_draw" = some (.ref fD)) (kD : PySem.W.keepIn K (.ref fD) = true) : FnOk P w K mg base CX0 (k + 2) f fd ["_law_deck_here"] spNumber := by
  refine F.ok scNumber (fun vs H Q E h => ?_) (fun cdv A outer s H vs Q E hr h => ?_)
  · obtain ⟨d, c, rfl, _⟩ := h
    rfl
  · obtain ⟨d, c, rfl, hD, q⟩ := h
    refine ⟨_, pss_cons (ps_set (i := 1) scNumber.nd rfl (.inl rfl) (pe_op op_add (pe_op op_mul (pe_call GD hr (by rfl) gD kD bD .nil pass0 (pa_cons (pv 0) (pa_cons (pe_op op_pow pe_int pe_int) pa_nil))) (pe_op op_pow pe_int pe_int))
        (pe_call GD hr (by rfl) gD kD bD .nil pass0 (pa_cons (pv 0) (pa_cons (pe_op op_pow pe_int pe_int) pa_nil)))))
      (pss_one (ps_ret (pe_ix ix_list (pe_lst (pa_cons pe_int (pa_cons pe_int (pa_cons pe_int (pa_cons pe_int (pa_cons pe_int (pa_cons pe_int (pa_cons pe_int (pa_cons (pe_un un_neg pe_int) (pa_cons (pe_un un_neg pe_int)
        (pa_cons (pe_op op_pow pe_int pe_int) (pa_cons (pv 1) (pa_cons (pe_op op_sub pe_int (pv 1)) pa_nil)))))))))))))
        (pe_call GD hr (by rfl) gD kD bD .nil pass0 (pa_cons (pv 0) (pa_cons pe_int pa_nil))) (fun _ _ => rfl)))), ?_⟩
    refine ⟨.ref d, rfl, 10, 6, rfl, rfl, ⟨by decide, by decide, by decide⟩, d, c, _, rfl, hD, by decide, by decide, fun H1 a hD1 kp1 a0 a1 => ?_⟩
    refine ⟨10, 6, rfl, rfl, ⟨by decide, by decide, by decide⟩, a, _, rfl, rfl, .inr ⟨by decide, by decide⟩, ?_⟩
    refine ⟨.ref d, rfl, 10, 6, rfl, rfl, ⟨by decide, by decide, by decide⟩, d, c, _, rfl, hD1, by decide, by decide, fun H2 b hD2 kp2 b0 b1 => ?_⟩
    have a2 : a < 1000000 := a1
    have b2 : b < 1000000 := b1
    refine ⟨_, b, rfl, rfl, ?_⟩
    refine ⟨1, rfl, 10, rfl, 10, 12, rfl, rfl, ⟨by decide, by decide, by decide⟩, _, rfl, _, rfl, 0, _, rfl, rfl, (by show 12 ≤ sizeLine; decide), fun p np => ?_⟩
    have n1 := hD2.ne1 np
    have n2 := hD2.ne2 np
    refine ⟨.ref d, rfl, d, c, 12, rfl, hD2.same (same_upd np), by decide, by decide, fun H3 r hD3 kp3 r0 r1 => ?_⟩
    have hp : H3 p = some (.lst (([0, 1, 2, 9, 10, 99, 100, -1, -10, 10 ^ (12 : Int).toNat, a * 10 ^ (6 : Int).toNat + b, 0 - (a * 10 ^ (6 : Int).toNat + b)] : List Int).map V.int)) := kp3 _ _ n1 n2 upd_same
    obtain ⟨v, hv, ev⟩ := item_at (xs := ([0, 1, 2, 9, 10, 99, 100, -1, -10, 10 ^ (12 : Int).toNat, a * 10 ^ (6 : Int).toNat + b, 0 - (a * 10 ^ (6 : Int).toNat + b)] : List Int).map V.int) r0 r1
    obtain ⟨i, hi, rfl⟩ := List.mem_map.mp hv
    refine ⟨p, _, r, _, rfl, rfl, .inl (.inl hp), ev, q H3 i hD3 (kp1.trans (kp2.trans ((kpSame (same_upd np)).trans kp3))) ?_⟩
    have e12 : (10 : Int) ^ (12 : Int).toNat = 1000000000000 := rfl
    have e6 : (10 : Int) ^ (6 : Int).toNat = 1000000 := rfl
    rw [e12, e6] at hi
    simp only [List.mem_cons, List.not_mem_nil, or_false] at hi
    omega
def Tip (t : Tm) : Prop := t.ok ∧ t.depth = 1 ∧ t.size = 1
/-- the words at wl, the unknowns' numbers at ul -/
structure Src (H : Hp) (d c wl ul : Addr) (zs : List Str) (us : List Int) : Prop where
  w : H wl = some (.lst (zs.map V.str))
  u : H ul = some (.lst (us.map V.int))
  w1 : wl ≠ d
  w2 : wl ≠ c
  u1 : ul ≠ d
  u2 : ul ≠ c
  wd : ∀ z ∈ zs, Wd z
  zn : 0 < zs.length
  zl : zs.length ≤ 100
  ul : us.length ≤ 100
  ub : ∀ n ∈ us, 0 ≤ n ∧ n ≤ 999
theorem Src.keep {H H' : Hp} {d c wl ul : Addr} {zs : List Str} {us : List Int} (S : Src H d c wl ul zs us) (k : Kp d c H H') : Src H' d c wl ul zs us :=
  ⟨k _ _ S.w1 S.w2 S.w, k _ _ S.u1 S.u2 S.u, S.w1, S.w2, S.u1, S.u2, S.wd, S.zn, S.zl, S.ul, S.ub⟩
def spTip : Sp := fun vs H Q _ => ∃ (d c wl ul : Addr) (zs : List Str) (us : List Int), vs = [.ref d, .ref wl, .ref ul] ∧ Dk H d c ∧ Src H d c wl ul zs us ∧ ∀ H' x t, Dk H' d c → Kp d c H H' → IsTm H' x t → Tip t → Q x H'
theorem ok_tip {f fD fN : Addr} {fd fdD fdN : FuncData} {k : Nat} (F : Fun K "_law_tip" "_law_tip" sTip f fd) (GD : FnOk P w K mg base CX0 (k + 1) fD fdD ["_law_deck_here", "_law_many"] spDraw) (bD : Binds K fdD ["_law_deck_here", "_law_many"] [])
    (gD : mg "_law_draw" = some (.ref fD)) (kD : PySem.W.keepIn K (.ref fD) = true) (GN : FnOk P w K mg base CX0 (k + 2) fN fdN ["_law_deck_here"] spNumber) (bN : Binds K fdN ["_law_deck_here"] [])
    (gN : mg "_law_number" = some (.ref fN)) (kN : PySem.W.keepIn K (.ref fN) = true) (ml : mg "len" = none) : FnOk P w K mg base CX0 (k + 3) f fd ["_law_deck_here", "_law_words", "_law_unknowns_here"] spTip := by
  refine F.ok scTip (fun vs H Q E h => ?_) (fun cdv A outer s H vs Q E hr h => ?_)
  · obtain ⟨d, c, wl, ul, zs, us, rfl, _⟩ := h
    rfl
  · obtain ⟨d, c, wl, ul, zs, us, rfl, hD, S, q⟩ := h
    have hr1 := hr.mono (show k + 1 ≤ k + 2 by omega)
    refine ⟨_, pss_cons (ps_set (i := 3) scTip.nd rfl (.inl rfl) (pe_call GD hr1 (by rfl) gD kD bD .nil pass0 (pa_cons (pv 0) (pa_cons pe_int pa_nil))))
      (pss_cons (ps_if (PW.pt (pw_and (pt_cmpR op_lt (pv 3) pe_int (nomark _)) (pw_and1 (pt_cmpR (op_neD hr.units) (pv 2) (pe_lst pa_nil) (nomark _)))))
        (pss_one (ps_ret (pe_tup (pa_cons pe_str (pa_cons (pe_ix ix_list (pv 2) (pe_call GD hr1 (by rfl) gD kD bD .nil pass0 (pa_cons (pv 0) (pa_cons (pe_callB call_len_seq (by rfl) ml PySem.boot_len (pa_cons (pv 2) pa_nil)) pa_nil))) (fun _ _ => rfl)) pa_nil))))) pss_nil)
      (pss_cons (ps_if (pt_cmpR op_eq (pv 3) pe_int (nomark _)) (pss_one (ps_ret (pe_tup pa_nil))) pss_nil)
      (pss_cons (ps_if (pt_cmpR op_lt (pv 3) pe_int (nomark _))
        (pss_one (ps_ret (pe_ix ix_list (pv 1) (pe_call GD hr1 (by rfl) gD kD bD .nil pass0 (pa_cons (pv 0) (pa_cons (pe_callB call_len_seq (by rfl) ml PySem.boot_len (pa_cons (pv 1) pa_nil)) pa_nil))) (fun _ _ => rfl)))) pss_nil)
      (pss_one (ps_ret (pe_call GN hr (by rfl) gN kN bN .nil pass0 (pa_cons (pv 0) pa_nil))))))), ?_⟩
    refine ⟨.ref d, rfl, d, c, 8, rfl, hD, by decide, by decide, fun H1 kd hD1 kp1 b0 b1 => ?_⟩
    have S1 := S.keep kp1
    refine ⟨.int kd, rfl, _, _, rfl, rfl, _, rfl, ite2 (fun _ => ?_) (fun _ => ?_)⟩
    · refine ⟨.ref ul, rfl, Nat.zero_le _, fun p np => ?_⟩
      have s2 : Same H1 (upd H1 p (.lst [])) := same_upd np
      have hD2 := hD1.same s2
      have kq2 : Kp d c H (upd H1 p (.lst [])) := kp1.trans (kpSame s2)
      have S2 : Src (upd H1 p (.lst [])) d c wl ul zs us := S1.keep (kpSame s2)
      refine ⟨.list (us.map .int), .list (([] : List Int).map .int), .lst (.inl (.inl S2.u)) (dpInts _), .lst (.inl (.inl upd_same)) .nil, shpL _, shpL _, _, rfl, ?_⟩
      rw [eqvL]
      generalize upd H1 p (.lst []) = H2 at *
      by_cases hus : us = []
      · rw [decide_eq_true hus]
        refine iteF ?_
        refine ⟨.int kd, rfl, rfl, _, rfl, ite2 (fun _ => ?_) (fun _ => ?_)⟩
        · exact ⟨Nat.zero_le _, fun p np => q _ _ _ (hD2.same (same_upd np)) (kq2.trans (kpSame (same_upd np))) (.nil upd_same) ⟨True.intro, rfl, rfl⟩⟩
        refine ⟨.int kd, rfl, _, _, rfl, rfl, _, rfl, ite2 (fun _ => ?_) (fun _ => ?_)⟩
        · have zn := S2.zn
          have zl := S2.zl
          refine ⟨.ref wl, rfl, .ref d, rfl, .ref wl, rfl, wl, _, rfl, .inl (.inl (.inl S2.w)), d, c, _, rfl, hD2, ?_, ?_, fun H3 r hD3 kp3 r0 r1 => ?_⟩
          · rw [List.length_map]
            omega
          · rw [List.length_map]
            exact Nat.lt_of_le_of_lt (show zs.length ≤ 100 by omega) (by decide)
          obtain ⟨v, hv, ev⟩ := item_at (xs := zs.map V.str) r0 r1
          obtain ⟨z, hz, rfl⟩ := List.mem_map.mp hv
          exact ⟨wl, _, r, _, rfl, rfl, .inl (.inl (S2.keep kp3).w), ev, q H3 _ _ hD3 (kq2.trans kp3) (.wrd z) ⟨S.wd z hz, rfl, rfl⟩⟩
        · exact ⟨.ref d, rfl, d, c, rfl, hD2, fun H3 i hD3 kp3 hi => q H3 _ _ hD3 (kq2.trans kp3) (.int i) ⟨hi, rfl, rfl⟩⟩
      · rw [decide_eq_false hus]
        refine iteT ?_
        have un : 0 < us.length := List.length_pos_iff.mpr hus
        have ul' := S2.ul
        refine ⟨.ref ul, rfl, .ref d, rfl, .ref ul, rfl, ul, _, rfl, .inl (.inl (.inl S2.u)), d, c, _, rfl, hD2, ?_, ?_, fun H3 r hD3 kp3 r0 r1 => ?_⟩
        · rw [List.length_map]
          omega
        · rw [List.length_map]
          exact Nat.lt_of_le_of_lt (show us.length ≤ 100 by omega) (by decide)
        obtain ⟨v, hv, ev⟩ := item_at (xs := us.map V.int) r0 r1
        obtain ⟨n, hn, rfl⟩ := List.mem_map.mp hv
        refine ⟨ul, _, r, _, rfl, rfl, .inl (.inl (S2.keep kp3).u), ev, (by show 2 ≤ sizeLine; decide), fun p2 np2 => ?_⟩
        exact q _ _ _ (hD3.same (same_upd np2)) (kq2.trans (kp3.trans (kpSame (same_upd np2)))) (.unk upd_same) ⟨S.ub n hn, rfl, rfl⟩
    · refine iteF ?_
      have hD2 := hD1
      have kq2 := kp1
      have S2 := S1
      refine ⟨.int kd, rfl, rfl, _, rfl, ite2 (fun _ => ?_) (fun _ => ?_)⟩
      · exact ⟨Nat.zero_le _, fun p np => q _ _ _ (hD2.same (same_upd np)) (kq2.trans (kpSame (same_upd np))) (.nil upd_same) ⟨True.intro, rfl, rfl⟩⟩
      refine ⟨.int kd, rfl, _, _, rfl, rfl, _, rfl, ite2 (fun _ => ?_) (fun _ => ?_)⟩
      · have zn := S2.zn
        have zl := S2.zl
        refine ⟨.ref wl, rfl, .ref d, rfl, .ref wl, rfl, wl, _, rfl, .inl (.inl (.inl S2.w)), d, c, _, rfl, hD2, ?_, ?_, fun H3 r hD3 kp3 r0 r1 => ?_⟩
        · rw [List.length_map]
          omega
        · rw [List.length_map]
          exact Nat.lt_of_le_of_lt (show zs.length ≤ 100 by omega) (by decide)
        obtain ⟨v, hv, ev⟩ := item_at (xs := zs.map V.str) r0 r1
        obtain ⟨z, hz, rfl⟩ := List.mem_map.mp hv
        exact ⟨wl, _, r, _, rfl, rfl, .inl (.inl (S2.keep kp3).w), ev, q H3 _ _ hD3 (kq2.trans kp3) (.wrd z) ⟨S.wd z hz, rfl, rfl⟩⟩
      · exact ⟨.ref d, rfl, d, c, rfl, hD2, fun H3 i hD3 kp3 hi => q H3 _ _ hD3 (kq2.trans kp3) (.int i) ⟨hi, rfl, rfl⟩⟩
end
end Ksec

set_option Elab.async false
set_option linter.all false
set_option maxRecDepth 100000
set_option maxHeartbeats 4000000
namespace Ksec
open PySem PySem.Spec PyProof.Rows L2
/-- all but the deck and the list at e stays -/
def Kq (d c e : Addr) (H H' : Hp) : Prop := ∀ b o, b ≠ d → b ≠ c → b ≠ e → H b = some o → H' b = some o
theorem Kq.trans {d c e : Addr} {H H1 H2 : Hp} (a : Kq d c e H H1) (b : Kq d c e H1 H2) : Kq d c e H H2 := fun x o h1 h2 h3 r => b x o h1 h2 h3 (a x o h1 h2 h3 r)
theorem kqOf {d c e : Addr} {H H1 : Hp} (a : Kp d c H H1) : Kq d c e H H1 := fun x o h1 h2 _ r => a x o h1 h2 r
theorem kqTup {d c e : Addr} {H H' : Hp} {L : Int} (h : Dk H d c) (hl : H e = some (.lst [.int L])) (k : Kq d c e H H') : Tup H H' := fun b xs r => by
  obtain ⟨⟨x1, h1⟩, ⟨x2, h2⟩⟩ := h.lists
  exact k b _ (ne_of r h1 (by intro z; cases z)) (ne_of r h2 (by intro z; cases z)) (ne_of r hl (by intro z; cases z)) r
theorem Src.keepq {H H' : Hp} {d c e wl ul : Addr} {zs : List Str} {us : List Int} (S : Src H d c wl ul zs us) (h1 : wl ≠ e) (h2 : ul ≠ e) (k : Kq d c e H H') : Src H' d c wl ul zs us :=
  ⟨k _ _ S.w1 S.w2 h1 S.w, k _ _ S.u1 S.u2 h2 S.u, S.w1, S.w2, S.u1, S.u2, S.wd, S.zn, S.zl, S.ul, S.ub⟩
/-- what a drawn term is, by its depth and how much of the budget it took -/
def Drawn (n : Nat) (L L' : Int) (t : Tm) : Prop := t.ok ∧ t.depth ≤ max 1 n ∧ (t.size : Int) + L' ≤ L + 1 ∧ 0 ≤ L'
section
variable {P : Program} {w : World} {K : PySem.W.Frag} {mg : Str → Option Value} {base : Heap}
def spTerm (n : Nat) : Sp := fun vs H Q _ => ∃ (d c wl ul e : Addr) (zs : List Str) (us : List Int) (dp L : Int), vs = [.ref d, .ref wl, .ref ul, .int dp, .ref e] ∧ Dk H d c ∧ Src H d c wl ul zs us ∧
  H e = some (.lst [.int L]) ∧ e ≠ d ∧ e ≠ c ∧ wl ≠ e ∧ ul ≠ e ∧ dp ≤ n ∧ 0 ≤ L ∧
  ∀ H' x t L', Dk H' d c → Kq d c e H H' → H' e = some (.lst [.int L']) → IsTm H' x t → Drawn n L L' t → Q x H'
def spTermP : Nat → Sp
  | 0 => fun _ _ _ _ => False
  | n + 1 => spTerm n
abbrev psTerm : List Str := ["_law_deck_here", "_law_words", "_law_unknowns_here", "_law_deep", "_law_left"]
theorem ok_term1 {f fD fT : Addr} {fd fdD fdT : FuncData} {k n : Nat} (F : Fun K "_law_term" "_law_term" sTerm f fd) (GD : FnOk P w K mg base CX0 (k + 1) fD fdD ["_law_deck_here", "_law_many"] spDraw) (bD : Binds K fdD ["_law_deck_here", "_law_many"] [])
    (gD : mg "_law_draw" = some (.ref fD)) (kD : PySem.W.keepIn K (.ref fD) = true) (GT : FnOk P w K mg base CX0 (k + 3) fT fdT ["_law_deck_here", "_law_words", "_law_unknowns_here"] spTip) (bT : Binds K fdT ["_law_deck_here", "_law_words", "_law_unknowns_here"] [])
    (gT : mg "_law_tip" = some (.ref fT)) (kT : PySem.W.keepIn K (.ref fT) = true) (mi : mg "int" = none) (G : FnOk P w K mg base CX0 (k + 3 + n) f fd psTerm (spTermP n)) (b : Binds K fd psTerm []) (g : mg "_law_term" = some (.ref f)) : FnOk P w K mg base CX0 (k + 4 + n) f fd psTerm (spTerm n) := by
  rw [show k + 4 + n = k + 3 + n + 1 by omega]
  refine F.ok scTerm (fun vs H Q E h => ?_) (fun cdv A outer s H vs Q E hr h => ?_)
  · obtain ⟨d, c, wl, ul, e, zs, us, dp, L, rfl, _⟩ := h
    rfl
  · obtain ⟨d, c, wl, ul, e, zs, us, dp, L, rfl, hD, S, hL, e1, e2, e3, e4, hdp, hL0, q⟩ := h
    have hr1 := hr.mono (show k + 1 ≤ k + 3 + n by omega)
    have hr2 := hr.mono (show k + 3 ≤ k + 3 + n by omega)
    refine ⟨_, pss_cons (ps_set (i := 5) scTerm.nd rfl (.inl rfl) (pe_call GD hr1 (by rfl) gD kD bD .nil pass0 (pa_cons (pv 0) (pa_cons pe_int pa_nil))))
      (pss_cons (ps_if (PW.pt (pw_or (pt_cmpR op_lt (pv 3) pe_int (nomark _)) (pw_or (pt_cmpR op_lt (pe_ix ix_list (pv 4) pe_int (fun _ _ => rfl)) pe_int (nomark _)) (pw_or1 (pt_cmpR op_eq (pv 5) pe_int (nomark _))))))
        (pss_one (ps_ret (pe_call GT hr2 (by rfl) gT kT bT .nil pass0 (pa_cons (pv 0) (pa_cons (pv 1) (pa_cons (pv 2) pa_nil)))))) pss_nil)
      (pss_cons (ps_asg (pe_op op_sub (pe_ix ix_list (pv 4) pe_int (fun _ _ => rfl)) pe_int) (pg_sub (pv 4) pe_int set_list))
      (pss_cons (ps_set (i := 6) scTerm.nd rfl (.inl rfl) (pe_call G hr (by rfl) g F.kp b .nil pass0 (pa_cons (pv 0) (pa_cons (pv 1) (pa_cons (pv 2)
          (pa_cons (pe_ix ix_list (pe_lst (pa_cons (pe_op op_sub (pv 3) pe_int) (pa_cons pe_int pa_nil))) (pe_callTy call_int1 (by rfl) mi (by decide +kernel) (pa_cons (pe_cmpR op_eq (pv 5) pe_int (nomark _)) pa_nil)) (fun _ _ => rfl)) (pa_cons (pv 4) pa_nil)))))))
      (pss_one (ps_ret (pe_tup (pa_cons (pv 6) (pa_cons (pe_call G hr (by rfl) g F.kp b .nil pass0 (pa_cons (pv 0) (pa_cons (pv 1) (pa_cons (pv 2) (pa_cons (pe_op op_sub (pv 3) pe_int) (pa_cons (pv 4) pa_nil)))))) pa_nil)))))))), ?_⟩
    refine ⟨.ref d, rfl, d, c, 5, rfl, hD, by decide, by decide, fun H1 kd hD1 kp1 b0 b1 => ?_⟩
    have S1 := S.keep kp1
    have hL1 := kp1 _ _ e1 e2 hL
    have tip : spTip [.ref d, .ref wl, .ref ul] H1 Q E0 := ⟨d, c, wl, ul, zs, us, rfl, hD1, S1, fun H2 x t hD2 kp2 hx ht => q H2 x t L hD2 (kqOf (kp1.trans kp2)) (kp2 _ _ e1 e2 hL1) hx ⟨ht.1, by rw [ht.2.1]; omega, by rw [ht.2.2]; omega, hL0⟩⟩
    refine ⟨.int dp, rfl, _, _, rfl, rfl, _, rfl, ite2 (fun _ => ?_) (fun h1 => ?_)⟩
    · exact iteT ⟨.ref d, rfl, .ref wl, rfl, .ref ul, rfl, tip⟩
    refine ⟨.ref e, rfl, e, _, 0, .int L, rfl, rfl, .inl (.inl hL1), atI_nat (j := 0) rfl, _, _, rfl, rfl, _, rfl, ite2 (fun _ => ?_) (fun h2 => ?_)⟩
    · exact iteT ⟨.ref d, rfl, .ref wl, rfl, .ref ul, rfl, tip⟩
    refine ⟨.int kd, rfl, rfl, _, rfl, ite2 (fun _ => ?_) (fun h3 => ?_)⟩
    · exact ⟨.ref d, rfl, .ref wl, rfl, .ref ul, rfl, tip⟩
    have g1 : 2 ≤ dp := by
      have : ¬ dp < 2 := fun z => h1 (decide_eq_true z)
      omega
    have g2 : 2 ≤ L := by
      have : ¬ L < 2 := fun z => h2 (decide_eq_true z)
      omega
    cases n with
    | zero => exact absurd hdp (by omega)
    | succ m =>
      refine ⟨.ref e, rfl, e, _, 0, .int L, rfl, rfl, .inl (.inl hL1), atI_nat (j := 0) rfl, L, 2, rfl, rfl, .ref e, rfl, e, _, 0, 0, rfl, rfl, hL1, rfl, ?_⟩
      have hL2 : upd H1 e (.lst ([.int L].set 0 (.int (L - 2)))) e = some (.lst [.int (L - 2)]) := upd_same
      have kq2 : Kq d c e H1 (upd H1 e (.lst ([.int L].set 0 (.int (L - 2))))) := fun x o _ _ h3 r => by
        rw [upd_ne h3]
        exact r
      have hD2 : Dk (upd H1 e (.lst ([.int L].set 0 (.int (L - 2))))) d c := by
        obtain ⟨ns, s', n', q1, q2, q3⟩ := hD1
        exact ⟨ns, s', n', by rw [upd_ne e1.symm]; exact q1, by rw [upd_ne e2.symm]; exact q2, q3⟩
      have S2 := S1.keepq e3 e4 kq2
      generalize upd H1 e (.lst ([.int L].set 0 (.int (L - 2)))) = H2 at *
      refine ⟨.ref d, rfl, .ref wl, rfl, .ref ul, rfl, .int dp, rfl, dp, 1, rfl, rfl, (by show 2 ≤ sizeLine; decide), fun p np => ?_⟩
      have s3 : Same H2 (upd H2 p (.lst [.int (dp - 1), .int 1])) := same_upd np
      obtain ⟨v, hv, ev⟩ : ∃ v : Int, v ≤ (m : Int) ∧ atI [V.int (dp - 1), V.int 1] (if decide (V.int kd = V.int 1) = true then 1 else 0) = some (.int v) := by
        cases decide (V.int kd = V.int 1) with
        | true => exact ⟨1, by omega, atI_nat (j := 1) rfl⟩
        | false => exact ⟨dp - 1, by omega, atI_nat (j := 0) rfl⟩
      have hL3 := s3 _ _ hL2
      have hD3 := hD2.same s3
      have S3 := S2.keep (kpSame s3)
      have kq3 : Kq d c e H (upd H2 p (.lst [.int (dp - 1), .int 1])) := (kqOf kp1).trans (kq2.trans (kqOf (kpSame s3)))
      have hp3 : upd H2 p (.lst [.int (dp - 1), .int 1]) p = some (.lst [.int (dp - 1), .int 1]) := upd_same
      generalize upd H2 p (.lst [.int (dp - 1), .int 1]) = H3 at *
      refine ⟨.int kd, rfl, rfl, .inr ⟨_, rfl, p, _, _, .int v, rfl, rfl, .inl (.inl hp3), ev, .ref e, rfl, ?_⟩⟩
      refine ⟨d, c, wl, ul, e, zs, us, v, L - 2, rfl, hD3, S3, hL3, e1, e2, e3, e4, hv, by omega, fun H4 x t L4 hD4 kq4 hL4 hx ht => ?_⟩
      obtain ⟨t1, t2, t3, t4⟩ := ht
      have S4 := S3.keepq e3 e4 kq4
      refine ⟨x, rfl, .ref d, rfl, .ref wl, rfl, .ref ul, rfl, .int dp, rfl, dp, 1, rfl, rfl, .ref e, rfl, d, c, wl, ul, e, zs, us, dp - 1, L4, rfl, hD4, S4, hL4, e1, e2, e3, e4, by omega, t4, fun H5 y u L5 hD5 kq5 hL5 hy hu => ⟨(by show 2 ≤ sizeLine; decide), fun a na => ?_⟩⟩
      obtain ⟨u1, u2, u3, u4⟩ := hu
      have s6 : Same H5 (upd H5 a (.tup [x, y])) := same_upd na
      refine q _ _ (.pair t u) L5 (hD5.same s6) (kq3.trans (kq4.trans (kq5.trans (kqOf (kpSame s6))))) (s6 _ _ hL5) (.pair upd_same ((hx.keep (kqTup hD4 hL4 kq5)).keep (sameTup s6)) (hy.keep (sameTup s6))) ⟨⟨t1, u1⟩, ?_, ?_, u4⟩
      · show max t.depth u.depth + 1 ≤ max 1 (m + 1)
        omega
      · show ((t.size + u.size + 1 : Nat) : Int) + L5 ≤ L + 1
        omega
theorem ok_term {f fD fT : Addr} {fd fdD fdT : FuncData} {k : Nat} (F : Fun K "_law_term" "_law_term" sTerm f fd) (GD : FnOk P w K mg base CX0 (k + 1) fD fdD ["_law_deck_here", "_law_many"] spDraw) (bD : Binds K fdD ["_law_deck_here", "_law_many"] [])
    (gD : mg "_law_draw" = some (.ref fD)) (kD : PySem.W.keepIn K (.ref fD) = true) (GT : FnOk P w K mg base CX0 (k + 3) fT fdT ["_law_deck_here", "_law_words", "_law_unknowns_here"] spTip) (bT : Binds K fdT ["_law_deck_here", "_law_words", "_law_unknowns_here"] [])
    (gT : mg "_law_tip" = some (.ref fT)) (kT : PySem.W.keepIn K (.ref fT) = true) (mi : mg "int" = none) (b : Binds K fd psTerm []) (g : mg "_law_term" = some (.ref f)) : ∀ n, FnOk P w K mg base CX0 (k + 4 + n) f fd psTerm (spTerm n)
  | 0 => ok_term1 (n := 0) F GD bD gD kD GT bT gT kT mi ⟨fun _ _ _ _ h => h.elim, fun _ _ _ _ _ _ _ _ _ _ _ _ _ h => h.elim⟩ b g
  | n + 1 => ok_term1 (n := n + 1) F GD bD gD kD GT bT gT kT mi (by
      have h := ok_term F GD bD gD kD GT bT gT kT mi b g n
      rw [show k + 3 + (n + 1) = k + 4 + n by omega]
      exact h) b g
end
end Ksec

set_option Elab.async false
set_option linter.all false
set_option maxRecDepth 100000
set_option maxHeartbeats 4000000
namespace Ksec
open PySem PySem.Spec PyProof.Rows L2
abbrev sGreat : Stmt := topS 20
theorem scGreat : FnScope ["_law_deck_here", "_law_words", "_law_kind", "_law_term_here", "_law_k", "_law_item"] ["_law_deck_here", "_law_words"] (defScope sGreat) := ⟨rfl, rfl, rfl, by decide +kernel, rfl, by decide +kernel, by decide +kernel⟩
theorem kpBack {d c : Addr} {H H1 H2 : Hp} (a : Kp d c H H1) (e : Addr) (ne : H e = none) (k : Kq d c e H1 H2) : Kp d c H H2 := fun x o h1 h2 r => k x o h1 h2 (ne_of_none r ne) (a x o h1 h2 r)
theorem kpFree {d c p : Addr} {H H1 : Hp} (a : Kp d c H H1) (h1 : p ≠ d) (h2 : p ≠ c) (h : H1 p = none) : H p = none := by
  cases e : H p with
  | none => rfl
  | some o =>
    rw [a p o h1 h2 e] at h
    cases h
section
variable {P : Program} {w : World} {K : PySem.W.Frag} {mg : Str → Option Value} {base : Heap}
def spAny : Sp := fun vs H Q _ => ∃ (d c wl ul : Addr) (zs : List Str) (us : List Int), vs = [.ref d, .ref wl, .ref ul] ∧ Dk H d c ∧ Src H d c wl ul zs us ∧ ∀ H' x t, Dk H' d c → Kp d c H H' → IsTm H' x t → t.ok → t.depth ≤ 30 → t.size ≤ 200 → Q x H'
theorem ok_any {f fD fT fR : Addr} {fd fdD fdT fdR : FuncData} {k : Nat} (F : Fun K "_law_any_term" "_law_any_term" sAny f fd) (GD : FnOk P w K mg base CX0 (k + 1) fD fdD ["_law_deck_here", "_law_many"] spDraw) (bD : Binds K fdD ["_law_deck_here", "_law_many"] [])
    (gD : mg "_law_draw" = some (.ref fD)) (kD : PySem.W.keepIn K (.ref fD) = true) (GT : FnOk P w K mg base CX0 (k + 3) fT fdT ["_law_deck_here", "_law_words", "_law_unknowns_here"] spTip) (bT : Binds K fdT ["_law_deck_here", "_law_words", "_law_unknowns_here"] [])
    (gT : mg "_law_tip" = some (.ref fT)) (kT : PySem.W.keepIn K (.ref fT) = true) (GR : ∀ n, FnOk P w K mg base CX0 (k + 4 + n) fR fdR psTerm (spTerm n)) (bR : Binds K fdR psTerm []) (gR : mg "_law_term" = some (.ref fR)) (kR : PySem.W.keepIn K (.ref fR) = true)
    (mr : mg "range" = none) : FnOk P w K mg base CX0 (k + 34) f fd ["_law_deck_here", "_law_words", "_law_unknowns_here"] spAny := by
  refine F.ok scAny (fun vs H Q E h => ?_) (fun cdv A outer s H vs Q E hr h => ?_)
  · obtain ⟨d, c, wl, ul, zs, us, rfl, _⟩ := h
    rfl
  · obtain ⟨d, c, wl, ul, zs, us, rfl, hD, S, q⟩ := h
    have hr1 := hr.mono (show k + 1 ≤ k + 33 by omega)
    have hr2 := hr.mono (show k + 3 ≤ k + 33 by omega)
    have G29 : FnOk P w K mg base CX0 (k + 33) fR fdR psTerm (spTerm 29) := GR 29
    refine ⟨_, pss_cons (ps_set (i := 3) scAny.nd rfl (.inl rfl) (pe_call GD hr1 (by rfl) gD kD bD .nil pass0 (pa_cons (pv 0) (pa_cons pe_int pa_nil))))
      (pss_cons (ps_if (pt_cmpR op_eq (pv 3) pe_int (nomark _)) (pss_one (ps_ret (pe_call G29 hr (by rfl) gR kR bR .nil pass0 (pa_cons (pv 0) (pa_cons (pv 1) (pa_cons (pv 2) (pa_cons pe_int (pa_cons (pe_lst (pa_cons pe_int pa_nil)) pa_nil)))))))) pss_nil)
      (pss_cons (ps_if (pt_cmpR op_gt (pv 3) pe_int (nomark _))
        (pss_cons (ps_set (i := 4) scAny.nd rfl (.inl rfl) (pe_call GT hr2 (by rfl) gT kT bT .nil pass0 (pa_cons (pv 0) (pa_cons (pv 1) (pa_cons (pv 2) pa_nil)))))
        (pss_cons (ps_for PassesOwn.never rfl (pi_range1 (by rfl) mr (pa_cons (pe_op op_add pe_int (pe_call GD hr1 (by rfl) gD kD bD .nil pass0 (pa_cons (pv 0) (pa_cons pe_int pa_nil)))) pa_nil)) (pg_name (i := 5) scAny.nd rfl (Or.inl rfl))
          (pss_cons (ps_set (i := 6) scAny.nd rfl (.inl rfl) (pe_call GT hr2 (by rfl) gT kT bT .nil pass0 (pa_cons (pv 0) (pa_cons (pv 1) (pa_cons (pv 2) pa_nil)))))
            (pss_one (ps_set (i := 4) scAny.nd rfl (.inl rfl) (pe_ix ix_list (pe_lst (pa_cons (pe_tup (pa_cons (pv 6) (pa_cons (pv 4) pa_nil))) (pa_cons (pe_tup (pa_cons (pv 4) (pa_cons (pv 6) pa_nil))) pa_nil))) (pe_op op_sub (pv 3) pe_int) (fun _ _ => rfl))))))
        (pss_one (ps_ret (pv 4))))) pss_nil)
      (pss_one (ps_ret (pe_call G29 hr (by rfl) gR kR bR .nil pass0 (pa_cons (pv 0) (pa_cons (pv 1) (pa_cons (pv 2)
        (pa_cons (pe_ix ix_list (pe_lst (pa_cons pe_int (pa_cons pe_int (pa_cons pe_int pa_nil)))) (pe_call GD hr1 (by rfl) gD kD bD .nil pass0 (pa_cons (pv 0) (pa_cons pe_int pa_nil))) (fun _ _ => rfl))
        (pa_cons (pe_lst (pa_cons (pe_ix ix_list (pe_lst (pa_cons pe_int (pa_cons pe_int (pa_cons pe_int pa_nil)))) (pe_call GD hr1 (by rfl) gD kD bD .nil pass0 (pa_cons (pv 0) (pa_cons pe_int pa_nil))) (fun _ _ => rfl)) pa_nil)) pa_nil)))))))))), ?_⟩
    refine ⟨.ref d, rfl, d, c, 8, rfl, hD, by decide, by decide, fun H1 kd hD1 kp1 b0 b1 => ?_⟩
    have S1 := S.keep kp1
    -- a term by a budget
    have trm : ∀ (H2 : Hp) (e : Addr) (dp L : Int), Dk H2 d c → Kp d c H H2 → H2 e = none → dp ≤ 29 → 0 ≤ L → L ≤ 116 → spTerm 29 [.ref d, .ref wl, .ref ul, .int dp, .ref e] (upd H2 e (.lst [.int L])) Q E0 := fun H2 e dp L hD2 kp2 ne h1 h2 h3 => by
      have s2 : Same H2 (upd H2 e (.lst [.int L])) := same_upd ne
      have S2 := (S.keep kp2).keep (kpSame s2)
      have n1 := hD2.ne1 ne
      have n2 := hD2.ne2 ne
      have kp3 := kp2.trans (kpSame s2)
      refine ⟨d, c, wl, ul, e, zs, us, dp, L, rfl, hD2.same s2, S2, upd_same, n1, n2, ?_, ?_, h1, h2, fun H4 x t L4 hD4 kq4 hL4 hx ht => ?_⟩
      · exact ne_of_none (S.keep kp2).w ne
      · exact ne_of_none (S.keep kp2).u ne
      · obtain ⟨t1, t2, t3, t4⟩ := ht
        exact q H4 x t hD4 (kpBack kp3 e (kpFree kp2 n1 n2 ne) kq4) hx t1 (by omega) (by omega)
    refine ⟨.int kd, rfl, rfl, _, rfl, ite2 (fun _ => ?_) (fun _ => ?_)⟩
    · exact ⟨.ref d, rfl, .ref wl, rfl, .ref ul, rfl, (by show 1 ≤ sizeLine; decide), fun e ne => trm H1 e 29 116 hD1 kp1 ne (by decide) (by decide) (by decide)⟩
    refine ⟨.int kd, rfl, _, _, rfl, rfl, _, rfl, ite2 (fun h5 => ?_) (fun _ => ?_)⟩
    · have k6 : 5 < kd := of_decide_eq_true h5
      refine ⟨.ref d, rfl, .ref wl, rfl, .ref ul, rfl, d, c, wl, ul, zs, us, rfl, hD1, S1, fun H2 x2 t2 hD2 kp2 hx2 ht2 => ?_⟩
      refine ⟨.ref d, rfl, d, c, 28, rfl, hD2, by decide, by decide, fun H3 r hD3 kp3 r0 r1 => ⟨1, r, rfl, rfl, 1 + r, rfl, by omega, by omega, ?_⟩⟩
      refine for_range (lo := 0) (n := (1 + r).toNat) (fun i σ H' => ∃ (y5 y6 : Option V) (x : V) (t : Tm), σ = [some (.ref d), some (.ref wl), some (.ref ul), some (.int kd), some x, y5, y6] ∧ Dk H' d c ∧ Kp d c H H' ∧ IsTm H' x t ∧ t.ok ∧ t.depth ≤ i + 1 ∧ t.size ≤ 2 * i + 1) ?_ (fun i σ H4 hi h4 => ?_) (fun σ H4 h4 => ?_)
      · obtain ⟨a1, a2, a3⟩ := ht2
        exact ⟨none, none, x2, t2, rfl, hD3, kp1.trans (kp2.trans kp3), hx2.keep (kpTup hD2 kp3), a1, by omega, by omega⟩
      · obtain ⟨y5, y6, x, t, rfl, hD4, kp4, hx, t1, t2', t3⟩ := h4
        have S4 := S.keep kp4
        refine ⟨.ref d, rfl, .ref wl, rfl, .ref ul, rfl, d, c, wl, ul, zs, us, rfl, hD4, S4, fun H5 y u hD5 kp5 hy hu => ?_⟩
        obtain ⟨u1, u2, u3⟩ := hu
        have hx5 := hx.keep (kpTup hD4 kp5)
        refine ⟨y, rfl, x, rfl, (by show 2 ≤ sizeLine; decide), fun p1 np1 => ?_⟩
        have s5 : Same H5 (upd H5 p1 (.tup [y, x])) := same_upd np1
        refine ⟨x, rfl, y, rfl, (by show 2 ≤ sizeLine; decide), fun p2 np2 => ?_⟩
        have s6 : Same (upd H5 p1 (.tup [y, x])) (upd (upd H5 p1 (.tup [y, x])) p2 (.tup [x, y])) := same_upd np2
        refine ⟨(by show 2 ≤ sizeLine; decide), fun p3 np3 => ?_⟩
        have s7 := same_upd (o := .lst [.ref p1, .ref p2]) np3
        have s8 := s5.trans (s6.trans s7)
        have hx8 := hx5.keep (sameTup s8)
        have hy8 := hy.keep (sameTup s8)
        have q1 : IsTm _ (.ref p1) (.pair u t) := .pair (s7 _ _ (s6 _ _ upd_same)) hy8 hx8
        have q2 : IsTm _ (.ref p2) (.pair t u) := .pair (s7 _ _ upd_same) hx8 hy8
        have hD8 := hD5.same s8
        have kp8 := kp4.trans (kp5.trans (kpSame s8))
        have hp8 : upd (upd (upd H5 p1 (.tup [y, x])) p2 (.tup [x, y])) p3 (.lst [.ref p1, .ref p2]) p3 = some (.lst [.ref p1, .ref p2]) := upd_same
        have e67 : kd = 6 ∨ kd = 7 := by omega
        rcases e67 with e | e
        · subst e
          refine ⟨.int 6, rfl, 6, 6, rfl, rfl, p3, _, 0, .ref p1, rfl, rfl, .inl (.inl hp8), atI_nat (j := 0) rfl, _, _, _, _, rfl, hD8, kp8, q1, ⟨u1, t1⟩, ?_, ?_⟩
          · show max u.depth t.depth + 1 ≤ _
            omega
          · show u.size + t.size + 1 ≤ _
            omega
        · subst e
          refine ⟨.int 7, rfl, 7, 6, rfl, rfl, p3, _, 1, .ref p2, rfl, rfl, .inl (.inl hp8), atI_nat (j := 1) rfl, _, _, _, _, rfl, hD8, kp8, q2, ⟨t1, u1⟩, ?_, ?_⟩
          · show max t.depth u.depth + 1 ≤ _
            omega
          · show t.size + u.size + 1 ≤ _
            omega
      · obtain ⟨y5, y6, x, t, rfl, hD4, kp4, hx, t1, t2', t3⟩ := h4
        exact ⟨x, rfl, q H4 x t hD4 kp4 hx t1 (by omega) (by omega)⟩
    · refine ⟨.ref d, rfl, .ref wl, rfl, .ref ul, rfl, (by show 3 ≤ sizeLine; decide), fun p np => ?_⟩
      have n1 := hD1.ne1 np
      have n2 := hD1.ne2 np
      refine ⟨.ref d, rfl, d, c, 3, rfl, hD1.same (same_upd np), by decide, by decide, fun H2 r hD2 kp2 r0 r1 => ?_⟩
      obtain ⟨v, hv, ev⟩ := item_at (xs := ([2, 3, 5] : List Int).map V.int) r0 r1
      obtain ⟨dp, hdp, rfl⟩ := List.mem_map.mp hv
      have kq2 := kp1.trans ((kpSame (same_upd np)).trans kp2)
      refine ⟨p, _, r, _, rfl, rfl, .inl (.inl (kp2 _ _ n1 n2 upd_same)), ev, (by show 3 ≤ sizeLine; decide), fun p' np' => ?_⟩
      have n3 := hD2.ne1 np'
      have n4 := hD2.ne2 np'
      refine ⟨.ref d, rfl, d, c, 3, rfl, hD2.same (same_upd np'), by decide, by decide, fun H3 r' hD3 kp3 r0' r1' => ?_⟩
      obtain ⟨v', hv', ev'⟩ := item_at (xs := ([2, 6, 12] : List Int).map V.int) r0' r1'
      obtain ⟨L, hLm, rfl⟩ := List.mem_map.mp hv'
      have kq3 := kq2.trans ((kpSame (same_upd np')).trans kp3)
      simp only [List.mem_cons, List.not_mem_nil, or_false] at hdp hLm
      exact ⟨p', _, r', _, rfl, rfl, .inl (.inl (kp3 _ _ n3 n4 upd_same)), ev', (by show 1 ≤ sizeLine; decide), fun e ne => trm H3 e dp L hD3 kq3 ne (by omega) (by omega) (by omega)⟩
end
end Ksec

set_option Elab.async false
set_option linter.all false
set_option maxRecDepth 100000
set_option maxHeartbeats 4000000
namespace Ksec
open PySem PySem.Spec PyProof.Rows L2
abbrev sUnks : Stmt := topS 18
abbrev sWith : Stmt := topS 19
abbrev nUnks : List Str := ["_law_term_here", "_law_found", "_law_number_here"]
theorem scUnks : FnScope nUnks ["_law_term_here"] (defScope sUnks) := ⟨rfl, rfl, rfl, by decide +kernel, rfl, by decide +kernel, by decide +kernel⟩
theorem scWith : FnScope ["_law_term_here", "_law_number_here", "_law_other"] ["_law_term_here", "_law_number_here", "_law_other"] (defScope sWith) := ⟨rfl, rfl, rfl, by decide +kernel, rfl, by decide +kernel, by decide +kernel⟩
/-! the mathematics -/
def out (acc ns : List Int) : List Int := ns.filter fun n => decide (n ∉ acc)
def Tm.dd : Tm → List Int
  | .unk n => [n]
  | .pair a b => a.dd ++ out a.dd b.dd
  | _ => []
theorem addAll_dd : ∀ (t : Tm) (acc : List Int), addAll acc t.uks = acc ++ out acc t.dd
  | .int _, acc => by simp [Tm.uks, Tm.dd, addAll, out]
  | .wrd _, acc => by simp [Tm.uks, Tm.dd, addAll, out]
  | .nil, acc => by simp [Tm.uks, Tm.dd, addAll, out]
  | .unk n, acc => by
    show addN acc n = acc ++ out acc [n]
    unfold addN out
    by_cases h : n ∈ acc
    · simp [h]
    · simp [h]
  | .pair a b, acc => by
    show addAll acc (a.uks ++ b.uks) = acc ++ out acc (a.dd ++ out a.dd b.dd)
    rw [addAll_append, addAll_dd a acc, addAll_dd b]
    unfold out
    rw [List.filter_append, List.filter_filter, List.append_assoc]
    congr 2
    apply List.filter_congr
    intro n _
    by_cases h1 : n ∈ acc <;> by_cases h2 : n ∈ a.dd <;> simp [h1, h2]
theorem uniq_dd (t : Tm) : uniq [t] = t.dd := by
  unfold uniq
  show addAll [] (t.uks ++ []) = t.dd
  rw [List.append_nil, addAll_dd]
  unfold out
  rw [List.nil_append]
  apply List.filter_eq_self.mpr
  intro n _
  simp
theorem dd_len : ∀ t : Tm, t.dd.length ≤ t.size
  | .int _ => Nat.zero_le _
  | .wrd _ => Nat.zero_le _
  | .nil => Nat.zero_le _
  | .unk _ => Nat.le_refl _
  | .pair a b => by
    have h1 := dd_len a
    have h2 := dd_len b
    have h3 : (out a.dd b.dd).length ≤ b.dd.length := List.length_filter_le ..
    show (a.dd ++ out a.dd b.dd).length ≤ a.size + b.size + 1
    rw [List.length_append]
    omega
theorem dd_ok : ∀ {t : Tm}, t.ok → ∀ n ∈ t.dd, 0 ≤ n ∧ n ≤ 999
  | .int _, _, n, h => absurd h List.not_mem_nil
  | .wrd _, _, n, h => absurd h List.not_mem_nil
  | .nil, _, n, h => absurd h List.not_mem_nil
  | .unk m, ho, n, h => by
    rw [List.mem_singleton.mp h]
    exact ho
  | .pair a b, ho, n, h => by
    rcases List.mem_append.mp h with h | h
    · exact dd_ok ho.1 n h
    · exact dd_ok ho.2 n (List.mem_filter.mp h).1
/-- a word in the place of an unknown -/
def Tm.sub (m : Int) (z : Str) : Tm → Tm
  | .unk n => if n = m then .wrd z else .unk n
  | .pair a b => .pair (a.sub m z) (b.sub m z)
  | t => t
theorem sub_ok {m : Int} {z : Str} (hz : Wd z) : ∀ {t : Tm}, t.ok → (t.sub m z).ok
  | .int _, h => h
  | .wrd _, h => h
  | .nil, h => h
  | .unk n, h => by
    show (if n = m then Tm.wrd z else .unk n).ok
    split
    · exact hz
    · exact h
  | .pair a b, h => ⟨sub_ok hz h.1, sub_ok hz h.2⟩
theorem sub_depth {m : Int} {z : Str} : ∀ t : Tm, (t.sub m z).depth = t.depth
  | .int _ => rfl
  | .wrd _ => rfl
  | .nil => rfl
  | .unk n => by
    show (if n = m then Tm.wrd z else .unk n).depth = 1
    split <;> rfl
  | .pair a b => by
    show max (a.sub m z).depth (b.sub m z).depth + 1 = _
    rw [sub_depth a, sub_depth b]
    rfl
theorem sub_size {m : Int} {z : Str} : ∀ t : Tm, (t.sub m z).size = t.size
  | .int _ => rfl
  | .wrd _ => rfl
  | .nil => rfl
  | .unk n => by
    show (if n = m then Tm.wrd z else .unk n).size = 1
    split <;> rfl
  | .pair a b => by
    show (a.sub m z).size + (b.sub m z).size + 1 = _
    rw [sub_size a, sub_size b]
    rfl
theorem sub_dd {m : Int} {z : Str} : ∀ t : Tm, (t.sub m z).dd = t.dd.filter fun n => decide (n ≠ m)
  | .int _ => rfl
  | .wrd _ => rfl
  | .nil => rfl
  | .unk n => by
    show (if n = m then Tm.wrd z else .unk n).dd = [n].filter _
    by_cases h : n = m <;> simp [h, Tm.dd]
  | .pair a b => by
    show (a.sub m z).dd ++ out (a.sub m z).dd (b.sub m z).dd = (a.dd ++ out a.dd b.dd).filter _
    rw [sub_dd a, sub_dd b, List.filter_append]
    congr 1
    unfold out
    rw [List.filter_filter, List.filter_filter]
    apply List.filter_congr
    intro n _
    by_cases h1 : n = m <;> by_cases h2 : n ∈ a.dd <;> simp [h1, h2]
theorem inInts (n : Int) : ∀ ns : List Int, inV (.int n) (ns.map V.int) = decide (n ∈ ns)
  | [] => rfl
  | m :: r => by
    show (eqV (.int m) (.int n) || inV (.int n) (r.map V.int)) = _
    rw [inInts n r]
    show ((m == n) || decide (n ∈ r)) = decide (n ∈ m :: r)
    by_cases h1 : m = n
    · subst h1
      simp
    · have h2 : (m == n) = false := beq_eq_false_iff_ne.mpr h1
      rw [h2, Bool.false_or]
      by_cases h3 : n ∈ r
      · rw [decide_eq_true h3, decide_eq_true (List.mem_cons_of_mem _ h3)]
      · rw [decide_eq_false h3, decide_eq_false (fun z => (List.mem_cons.mp z).elim (fun z => h1 z.symm) h3)]
theorem shp0 : SeqAt.shaped (.tuple []) = true := by decide +kernel
theorem eqv00 : PyData.eqv (.tuple []) (.tuple []) = true := by decide +kernel
theorem eqv20 (a b : PyData) : PyData.eqv (.tuple [a, b]) (.tuple []) = false := by
  unfold PyData.eqv
  rfl
theorem out_take {acc ns : List Int} {i : Nat} {n : Int} (h : ns[i]? = some n) : out acc (ns.take (i + 1)) = if n ∈ acc then out acc (ns.take i) else out acc (ns.take i) ++ [n] := by
  unfold out
  rw [List.take_add_one, h, List.filter_append]
  by_cases h1 : n ∈ acc <;> simp [h1]
theorem flatInts (ns : List Int) : (ns.map V.int).all flatV = true := by
  rw [List.all_eq_true]
  intro x hx
  obtain ⟨n, _, rfl⟩ := List.mem_map.mp hx
  rfl
section
variable {P : Program} {w : World} {K : PySem.W.Frag} {mg : Str → Option Value} {base : Heap}
def spUnks (n : Nat) : Sp := fun vs H Q _ => ∃ (x : V) (t : Tm), vs = [x] ∧ IsTm H x t ∧ t.ok ∧ t.depth ≤ n ∧ n ≤ 64 ∧ t.size ≤ 100000 ∧ ∀ H' p, Same H H' → H p = none → H' p = some (.lst (t.dd.map V.int)) → Q (.ref p) H'
def spUnksP : Nat → Sp
  | 0 => fun _ _ _ _ => False
  | n + 1 => spUnks n
theorem ok_unks1 {f : Addr} {fd : FuncData} {k n : Nat} (F : Fun K "_law_unknowns" "_law_unknowns" sUnks f fd) (mi : mg "isinstance" = none) (mt : mg "tuple" = none) (G : FnOk P w K mg base CX0 (k + n) f fd ["_law_term_here"] (spUnksP n)) (b : Binds K fd ["_law_term_here"] [])
    (g : mg "_law_unknowns" = some (.ref f)) : FnOk P w K mg base CX0 (k + 1 + n) f fd ["_law_term_here"] (spUnks n) := by
  rw [show k + 1 + n = k + n + 1 by omega]
  refine F.ok scUnks (fun vs H Q E h => ?_) (fun cdv A outer s H vs Q E hr h => ?_)
  · obtain ⟨x, t, rfl, _⟩ := h
    rfl
  · obtain ⟨x, t, rfl, hx, ho, hd, hn, hz, q⟩ := h
    refine ⟨_, pss_cons (ps_if (PW.pt (pw_or (pt_not (pt_val (pe_callB call_isi (by rfl) mi (by decide +kernel) (pa_cons (pv 0) (pa_cons (pe_bltn (v := .ty "tuple") (by rfl) mt (by decide +kernel) rfl) pa_nil)))))
        (pw_or1 (pt_cmpR (op_eqD hr.units) (pv 0) (pe_tup pa_nil) (nomark _))))) (pss_one (ps_ret (pe_lst pa_nil))) pss_nil)
      (pss_cons (ps_if (pt_cmpR (op_eqD hr.units) (pe_ix ix_tup (pv 0) pe_int (fun _ _ => rfl)) pe_str (nomark _)) (pss_one (ps_ret (pe_lst (pa_cons (pe_ix ix_tup (pv 0) pe_int (fun _ _ => rfl)) pa_nil)))) pss_nil)
      (pss_cons (ps_set (i := 1) scUnks.nd rfl (.inr rfl) (pe_call G hr (by rfl) g F.kp b .nil pass0 (pa_cons (pe_ix ix_tup (pv 0) pe_int (fun _ _ => rfl)) pa_nil)))
      (pss_one (ps_ret (pe_op op_cat (pv 1)
        (pe_lc (own := [("_law_number_here", 2)]) (g := gName 2) rfl scUnks.nd (pi_list (pe_call G hr (by rfl) g F.kp b .nil pass0 (pa_cons (pe_ix ix_tup (pv 0) pe_int (fun _ _ => rfl)) pa_nil)))
          (blkOk_by (own := [("_law_number_here", 2)]) (N := nUnks) (sc := defScope sUnks) (by decide +kernel))
          (fun _ _ _ _ _ => pg_name (i := 2) scUnks.nd rfl (Or.inl rfl)) (fun _ _ _ _ _ => pts_one (pt_cmpR (r := rIn K true) op_notIn_seq (pv 2) (pv 1) (by rfl))) (fun _ _ _ _ _ => pv 2))))))), ?_⟩
    refine ⟨x, rfl, x, .ty "tuple", _, _, _, rfl, .ty _, hx.tyx, kit_ty t.isTup, _, rfl, ?_⟩
    cases hx with
    | int i => exact iteT (iteT ⟨Nat.zero_le _, fun p np => q _ p (same_upd np) np upd_same⟩)
    | wrd z => exact iteT (iteT ⟨Nat.zero_le _, fun p np => q _ p (same_upd np) np upd_same⟩)
    | @nil a h0 =>
      refine iteF ⟨.ref a, rfl, Nat.zero_le _, fun p np => ⟨.tuple [], .tuple [], .tup (.inl (.inl (same_upd np _ _ h0))) .nil, .tup (.inl (.inl upd_same)) .nil, shp0, shp0, _, rfl, ?_⟩⟩
      rw [eqv00]
      exact iteT ⟨Nat.zero_le _, fun p2 np2 => q _ p2 ((same_upd np).trans (same_upd np2)) ((same_upd np).free np2) upd_same⟩
    | @unk a n h0 =>
      have h1 := Tm.shp (t := .unk n) ho (show 1 ≤ 64 by decide)
      refine iteF ⟨.ref a, rfl, Nat.zero_le _, fun p np => ⟨_, .tuple [], ((IsTm.unk h0).keep (sameTup (same_upd np))).dp, .tup (.inl (.inl upd_same)) .nil, h1, shp0, _, rfl, ?_⟩⟩
      have h2 := same_upd (o := .tup []) np _ _ h0
      have s2 : Same H (upd H p (.tup [])) := same_upd np
      rw [show PyData.eqv (Tm.unk n).data (.tuple []) = false from eqv20 _ _]
      generalize upd H p (.tup []) = H2 at *
      refine iteF ?_
      refine ⟨.ref a, rfl, a, _, 0, .str "?", rfl, rfl, .inl (.inl h2), atI_nat (j := 0) rfl, .str "?", .str "?", .str _, .str _, shp_q, shp_q, _, rfl, ?_⟩
      rw [eqv_qq]
      refine iteT ⟨.ref a, rfl, a, _, 1, .int n, rfl, rfl, .inl (.inl h2), atI_nat (j := 1) rfl, (by show 1 ≤ sizeLine; decide), fun p2 np2 => ?_⟩
      exact q _ p2 (s2.trans (same_upd np2)) (s2.free np2) upd_same
    | @pair a y z u v h0 hy hz' =>
      have hdp : (Tm.pair u v).depth = max u.depth v.depth + 1 := rfl
      have hsp : (Tm.pair u v).size = u.size + v.size + 1 := rfl
      have h1 := Tm.shp (t := .pair u v) ho (by omega)
      refine iteF ⟨.ref a, rfl, Nat.zero_le _, fun p np => ⟨_, .tuple [], ((IsTm.pair h0 hy hz').keep (sameTup (same_upd np))).dp, .tup (.inl (.inl upd_same)) .nil, h1, shp0, _, rfl, ?_⟩⟩
      have h2 := same_upd (o := .tup []) np _ _ h0
      have s2 : Same H (upd H p (.tup [])) := same_upd np
      have hy2 := hy.keep (sameTup s2)
      have hz2 := hz'.keep (sameTup s2)
      rw [show PyData.eqv (Tm.pair u v).data (.tuple []) = false from eqv20 _ _]
      generalize upd H p (.tup []) = H2 at *
      refine iteF ?_
      refine ⟨.ref a, rfl, a, _, 0, y, rfl, rfl, .inl (.inl h2), atI_nat (j := 0) rfl, _, .str "?", hy2.dp, .str _, Tm.shp ho.1 (by omega), shp_q, _, rfl, ?_⟩
      rw [Tm.noq ho.1]
      refine iteF ?_
      cases n with
      | zero => exact absurd hd (by omega)
      | succ m =>
        refine ⟨.ref a, rfl, a, _, 0, y, rfl, rfl, .inl (.inl h2), atI_nat (j := 0) rfl, y, u, rfl, hy2, ho.1, by omega, by omega, by omega, fun H3 l1 s3 nl1 hl1 => ?_⟩
        have h3 := s3 _ _ h2
        refine ⟨.ref l1, rfl, .ref a, rfl, a, _, 1, z, rfl, rfl, .inl (.inl h3), atI_nat (j := 1) rfl, z, v, rfl, hz2.keep (sameTup s3), ho.2, by omega, by omega, by omega, fun H4 l2 s4 nl2 hl2 => ?_⟩
        have hl1' := s4 _ _ hl1
        refine ⟨l2, rfl, ⟨_, .inl (.inl hl2)⟩, fun D nD => ?_⟩
        have lu := dd_len u
        have lv := dd_len v
        refine lc_list (K := K) (a := l2) (xs := v.dd.map V.int) (fun i H' => Same H4 H' ∧ H' D = some (.lst ((out u.dd (v.dd.take i)).map V.int))) ⟨same_upd nD, upd_same⟩ (fun i H' _ h => .inl (.inl (h.1 _ _ hl2))) (fun i x H5 hxi h => ?_) (fun H5 h => ?_)
        · obtain ⟨s5, e5⟩ := h
          obtain ⟨n, hn1, rfl⟩ : ∃ n, v.dd[i]? = some n ∧ x = .int n := by
            rw [List.getElem?_map] at hxi
            cases e : v.dd[i]? with
            | none =>
              rw [e] at hxi
              cases hxi
            | some n =>
              rw [e] at hxi
              exact ⟨n, rfl, (Option.some.inj hxi).symm⟩
          refine ⟨rfl, _, rfl, .ref l1, rfl, l1, _, rfl, .inl (.inl (.inl (s5 _ _ hl1'))), rfl, flatInts _, _, rfl, ?_⟩
          rw [inInts]
          by_cases hm : n ∈ u.dd
          · rw [decide_eq_true hm]
            refine iteF ⟨s5, ?_⟩
            rw [out_take hn1, if_pos hm]
            exact e5
          · rw [decide_eq_false hm]
            refine iteT ⟨_, rfl, _, e5, ?_, ?_, ?_⟩
            · rw [List.length_map]
              have o1 : (out u.dd (v.dd.take i)).length ≤ (v.dd.take i).length := List.length_filter_le ..
              have o2 : (v.dd.take i).length ≤ v.dd.length := by
                rw [List.length_take]
                omega
              exact Nat.lt_of_le_of_lt (show _ ≤ 100000 by omega) (by decide)
            · intro b' o e
              by_cases hb : b' = D
              · rw [hb, nD] at e
                cases e
              · rw [upd_ne hb]
                exact s5 _ _ e
            · rw [upd_same, out_take hn1, if_neg hm, List.map_append]
              rfl
        · obtain ⟨s5, e5⟩ := h
          rw [List.length_map, List.take_length] at e5
          have o1 : (out u.dd v.dd).length ≤ v.dd.length := List.length_filter_le ..
          refine ⟨l1, D, _, _, rfl, rfl, s5 _ _ hl1', e5, ?_, fun p3 np3 => ?_⟩
          · rw [List.length_map, List.length_map]
            exact Nat.le_trans (show _ ≤ 200000 by omega) (by decide)
          · have s6 := s2.trans (s3.trans (s4.trans s5))
            refine q _ p3 (s6.trans (same_upd np3)) (s6.free np3) ?_
            rw [upd_same, ← List.map_append]
            rfl
theorem ok_unks {f : Addr} {fd : FuncData} {k : Nat} (F : Fun K "_law_unknowns" "_law_unknowns" sUnks f fd) (mi : mg "isinstance" = none) (mt : mg "tuple" = none) (b : Binds K fd ["_law_term_here"] [])
    (g : mg "_law_unknowns" = some (.ref f)) : ∀ n, FnOk P w K mg base CX0 (k + 1 + n) f fd ["_law_term_here"] (spUnks n)
  | 0 => ok_unks1 (n := 0) F mi mt ⟨fun _ _ _ _ h => h.elim, fun _ _ _ _ _ _ _ _ _ _ _ _ _ h => h.elim⟩ b g
  | n + 1 => ok_unks1 (n := n + 1) F mi mt (by
      have h := ok_unks F mi mt b g (k := k) n
      rw [show k + (n + 1) = k + 1 + n by omega]
      exact h) b g
def spWith (n : Nat) : Sp := fun vs H Q _ => ∃ (x : V) (t : Tm) (m : Int) (z : Str), vs = [x, .int m, .str z] ∧ IsTm H x t ∧ t.ok ∧ t.depth ≤ n ∧ n ≤ 64 ∧ ∀ H' y, Same H H' → IsTm H' y (t.sub m z) → Q y H'
def spWithP : Nat → Sp
  | 0 => fun _ _ _ _ => False
  | n + 1 => spWith n
abbrev psWith : List Str := ["_law_term_here", "_law_number_here", "_law_other"]
theorem ok_with1 {f : Addr} {fd : FuncData} {k n : Nat} (F : Fun K "_law_with" "_law_with" sWith f fd) (mi : mg "isinstance" = none) (mt : mg "tuple" = none) (mn : mg "int" = none) (G : FnOk P w K mg base CX0 (k + n) f fd psWith (spWithP n)) (b : Binds K fd psWith [])
    (g : mg "_law_with" = some (.ref f)) : FnOk P w K mg base CX0 (k + 1 + n) f fd psWith (spWith n) := by
  rw [show k + 1 + n = k + n + 1 by omega]
  refine F.ok scWith (fun vs H Q E h => ?_) (fun cdv A outer s H vs Q E hr h => ?_)
  · obtain ⟨x, t, m, z, rfl, _⟩ := h
    rfl
  · obtain ⟨x, t, m, z, rfl, hx, ho, hd, hn, q⟩ := h
    refine ⟨_, pss_cons (ps_if (PW.pt (pw_or (pt_not (pt_val (pe_callB call_isi (by rfl) mi (by decide +kernel) (pa_cons (pv 0) (pa_cons (pe_bltn (v := .ty "tuple") (by rfl) mt (by decide +kernel) rfl) pa_nil)))))
        (pw_or1 (pt_cmpR (op_eqD hr.units) (pv 0) (pe_tup pa_nil) (nomark _))))) (pss_one (ps_ret (pv 0))) pss_nil)
      (pss_cons (ps_if (pt_cmpR (op_eqD hr.units) (pe_ix ix_tup (pv 0) pe_int (fun _ _ => rfl)) pe_str (nomark _))
        (pss_one (ps_ret (pe_ix ix_list (pe_lst (pa_cons (pv 0) (pa_cons (pv 2) pa_nil))) (pe_callTy call_int1 (by rfl) mn (by decide +kernel) (pa_cons (pe_cmpR op_eq (pe_ix ix_tup (pv 0) pe_int (fun _ _ => rfl)) (pv 1) (nomark _)) pa_nil)) (fun _ _ => rfl)))) pss_nil)
      (pss_one (ps_ret (pe_tup (pa_cons (pe_call G hr (by rfl) g F.kp b .nil pass0 (pa_cons (pe_ix ix_tup (pv 0) pe_int (fun _ _ => rfl)) (pa_cons (pv 1) (pa_cons (pv 2) pa_nil))))
        (pa_cons (pe_call G hr (by rfl) g F.kp b .nil pass0 (pa_cons (pe_ix ix_tup (pv 0) pe_int (fun _ _ => rfl)) (pa_cons (pv 1) (pa_cons (pv 2) pa_nil)))) pa_nil)))))), ?_⟩
    refine ⟨x, rfl, x, .ty "tuple", _, _, _, rfl, .ty _, hx.tyx, kit_ty t.isTup, _, rfl, ?_⟩
    cases hx with
    | int i => exact iteT (iteT ⟨_, rfl, q H _ (Same.refl H) (.int i)⟩)
    | wrd z => exact iteT (iteT ⟨_, rfl, q H _ (Same.refl H) (.wrd z)⟩)
    | @nil a h0 =>
      refine iteF ⟨.ref a, rfl, Nat.zero_le _, fun p np => ⟨.tuple [], .tuple [], .tup (.inl (.inl (same_upd np _ _ h0))) .nil, .tup (.inl (.inl upd_same)) .nil, shp0, shp0, _, rfl, ?_⟩⟩
      rw [eqv00]
      exact iteT ⟨_, rfl, q _ _ (same_upd np) (.nil (same_upd np _ _ h0))⟩
    | @unk a n h0 =>
      have h1 := Tm.shp (t := .unk n) ho (show 1 ≤ 64 by decide)
      refine iteF ⟨.ref a, rfl, Nat.zero_le _, fun p np => ⟨_, .tuple [], ((IsTm.unk h0).keep (sameTup (same_upd np))).dp, .tup (.inl (.inl upd_same)) .nil, h1, shp0, _, rfl, ?_⟩⟩
      have h2 := same_upd (o := .tup []) np _ _ h0
      have s2 : Same H (upd H p (.tup [])) := same_upd np
      rw [show PyData.eqv (Tm.unk n).data (.tuple []) = false from eqv20 _ _]
      generalize upd H p (.tup []) = H2 at *
      refine iteF ?_
      refine ⟨.ref a, rfl, a, _, 0, .str "?", rfl, rfl, .inl (.inl h2), atI_nat (j := 0) rfl, .str "?", .str "?", .str _, .str _, shp_q, shp_q, _, rfl, ?_⟩
      rw [eqv_qq]
      refine iteT ⟨.ref a, rfl, .str z, rfl, (by show 2 ≤ sizeLine; decide), fun p2 np2 => ?_⟩
      have s3 : Same H2 (upd H2 p2 (.lst [.ref a, .str z])) := same_upd np2
      obtain ⟨v, ev, hv⟩ : ∃ v, atI [V.ref a, V.str z] (if decide (V.int n = V.int m) = true then 1 else 0) = some v ∧ IsTm (upd H2 p2 (.lst [.ref a, .str z])) v ((Tm.unk n).sub m z) := by
        by_cases e : n = m
        · subst e
          refine ⟨.str z, ?_, ?_⟩
          · rw [decide_eq_true rfl]
            exact atI_nat (j := 1) rfl
          · show IsTm _ _ (if n = n then Tm.wrd z else .unk n)
            rw [if_pos rfl]
            exact .wrd z
        · refine ⟨.ref a, ?_, ?_⟩
          · rw [decide_eq_false (fun h => e (V.int.inj h))]
            exact atI_nat (j := 0) rfl
          · show IsTm _ _ (if n = m then Tm.wrd z else .unk n)
            rw [if_neg e]
            exact .unk (s3 _ _ h2)
      exact ⟨.ref a, rfl, a, _, 1, .int n, rfl, rfl, .inl (.inl (s3 _ _ h2)), atI_nat (j := 1) rfl, .int m, rfl, rfl, .inr ⟨_, rfl, p2, _, _, v, rfl, rfl, .inl (.inl upd_same), ev, q _ v (s2.trans s3) hv⟩⟩
    | @pair a y y2 u v h0 hy hz' =>
      have hdp : (Tm.pair u v).depth = max u.depth v.depth + 1 := rfl
      have h1 := Tm.shp (t := .pair u v) ho (by omega)
      refine iteF ⟨.ref a, rfl, Nat.zero_le _, fun p np => ⟨_, .tuple [], ((IsTm.pair h0 hy hz').keep (sameTup (same_upd np))).dp, .tup (.inl (.inl upd_same)) .nil, h1, shp0, _, rfl, ?_⟩⟩
      have h2 := same_upd (o := .tup []) np _ _ h0
      have s2 : Same H (upd H p (.tup [])) := same_upd np
      have hy2 := hy.keep (sameTup s2)
      have hz2 := hz'.keep (sameTup s2)
      rw [show PyData.eqv (Tm.pair u v).data (.tuple []) = false from eqv20 _ _]
      generalize upd H p (.tup []) = H2 at *
      refine iteF ?_
      refine ⟨.ref a, rfl, a, _, 0, y, rfl, rfl, .inl (.inl h2), atI_nat (j := 0) rfl, _, .str "?", hy2.dp, .str _, Tm.shp ho.1 (by omega), shp_q, _, rfl, ?_⟩
      rw [Tm.noq ho.1]
      refine iteF ?_
      cases n with
      | zero => exact absurd hd (by omega)
      | succ n =>
        refine ⟨.ref a, rfl, a, _, 0, y, rfl, rfl, .inl (.inl h2), atI_nat (j := 0) rfl, .int m, rfl, .str z, rfl, y, u, m, z, rfl, hy2, ho.1, by omega, by omega, fun H3 x3 s3 hx3 => ?_⟩
        refine ⟨.ref a, rfl, a, _, 1, y2, rfl, rfl, .inl (.inl (s3 _ _ h2)), atI_nat (j := 1) rfl, .int m, rfl, .str z, rfl, y2, v, m, z, rfl, hz2.keep (sameTup s3), ho.2, by omega, by omega, fun H4 x4 s4 hx4 => ?_⟩
        refine ⟨(by show 2 ≤ sizeLine; decide), fun p3 np3 => ?_⟩
        have s5 : Same H4 (upd H4 p3 (.tup [x3, x4])) := same_upd np3
        exact q _ _ (s2.trans (s3.trans (s4.trans s5))) (.pair upd_same (hx3.keep (sameTup (s4.trans s5))) (hx4.keep (sameTup s5)))
theorem ok_with {f : Addr} {fd : FuncData} {k : Nat} (F : Fun K "_law_with" "_law_with" sWith f fd) (mi : mg "isinstance" = none) (mt : mg "tuple" = none) (mn : mg "int" = none) (b : Binds K fd psWith [])
    (g : mg "_law_with" = some (.ref f)) : ∀ n, FnOk P w K mg base CX0 (k + 1 + n) f fd psWith (spWith n)
  | 0 => ok_with1 (n := 0) F mi mt mn ⟨fun _ _ _ _ h => h.elim, fun _ _ _ _ _ _ _ _ _ _ _ _ _ h => h.elim⟩ b g
  | n + 1 => ok_with1 (n := n + 1) F mi mt mn (by
      have h := ok_with F mi mt mn b g (k := k) n
      rw [show k + (n + 1) = k + 1 + n by omega]
      exact h) b g
end
end Ksec

set_option Elab.async false
set_option linter.all false
set_option maxRecDepth 100000
set_option maxHeartbeats 4000000
namespace Ksec
open PySem PySem.Spec PyProof.Rows L2
/-- the words at wl -/
structure Wds (H : Hp) (d c wl : Addr) (zs : List Str) : Prop where
  w : H wl = some (.lst (zs.map V.str))
  w1 : wl ≠ d
  w2 : wl ≠ c
  wd : ∀ z ∈ zs, Wd z
  zl : zs.length = 3
theorem Wds.keep {H H' : Hp} {d c wl : Addr} {zs : List Str} (S : Wds H d c wl zs) (k : Kp d c H H') : Wds H' d c wl zs := ⟨k _ _ S.w1 S.w2 S.w, S.w1, S.w2, S.wd, S.zl⟩
theorem Wds.src {H : Hp} {d c wl ul : Addr} {zs : List Str} {us : List Int} (S : Wds H d c wl zs) (u : H ul = some (.lst (us.map V.int))) (u1 : ul ≠ d) (u2 : ul ≠ c) (hl : us.length ≤ 100) (hb : ∀ n ∈ us, 0 ≤ n ∧ n ≤ 999) : Src H d c wl ul zs us :=
  ⟨S.w, u, S.w1, S.w2, u1, u2, S.wd, by rw [S.zl]; decide, by rw [S.zl]; decide, hl, hb⟩
section
variable {P : Program} {w : World} {K : PySem.W.Frag} {mg : Str → Option Value} {base : Heap}
def spGreat : Sp := fun vs H Q _ => ∃ (d c wl : Addr) (zs : List Str), vs = [.ref d, .ref wl] ∧ Dk H d c ∧ Wds H d c wl zs ∧ ∀ H' x t, Dk H' d c → Kp d c H H' → IsTm H' x t → t.ok → t.depth ≤ 60 → t.size ≤ 500 → Q x H'
theorem ok_great {f fD fN fR : Addr} {fd fdD fdN fdR : FuncData} {k : Nat} (F : Fun K "_law_great_ground" "_law_great_ground" sGreat f fd) (GD : FnOk P w K mg base CX0 (k + 1) fD fdD ["_law_deck_here", "_law_many"] spDraw) (bD : Binds K fdD ["_law_deck_here", "_law_many"] [])
    (gD : mg "_law_draw" = some (.ref fD)) (kD : PySem.W.keepIn K (.ref fD) = true) (GN : FnOk P w K mg base CX0 (k + 2) fN fdN ["_law_deck_here"] spNumber) (bN : Binds K fdN ["_law_deck_here"] [])
    (gN : mg "_law_number" = some (.ref fN)) (kN : PySem.W.keepIn K (.ref fN) = true) (GR : ∀ n, FnOk P w K mg base CX0 (k + 4 + n) fR fdR psTerm (spTerm n)) (bR : Binds K fdR psTerm []) (gR : mg "_law_term" = some (.ref fR)) (kR : PySem.W.keepIn K (.ref fR) = true)
    (mr : mg "range" = none) : FnOk P w K mg base CX0 (k + 54) f fd ["_law_deck_here", "_law_words"] spGreat := by
  refine F.ok scGreat (fun vs H Q E h => ?_) (fun cdv A outer s H vs Q E hr h => ?_)
  · obtain ⟨d, c, wl, zs, rfl, _⟩ := h
    rfl
  · obtain ⟨d, c, wl, zs, rfl, hD, S, q⟩ := h
    have hr1 := hr.mono (show k + 1 ≤ k + 53 by omega)
    have hr2 := hr.mono (show k + 2 ≤ k + 53 by omega)
    have G49 : FnOk P w K mg base CX0 (k + 53) fR fdR psTerm (spTerm 49) := GR 49
    refine ⟨_, pss_cons (ps_set (i := 2) scGreat.nd rfl (.inl rfl) (pe_call GD hr1 (by rfl) gD kD bD .nil pass0 (pa_cons (pv 0) (pa_cons pe_int pa_nil))))
      (pss_cons (ps_if (pt_cmpR op_eq (pv 2) pe_int (nomark _)) (pss_one (ps_ret (pe_call G49 hr (by rfl) gR kR bR .nil pass0 (pa_cons (pv 0) (pa_cons (pv 1) (pa_cons (pe_lst pa_nil) (pa_cons pe_int (pa_cons (pe_lst (pa_cons pe_int pa_nil)) pa_nil)))))))) pss_nil)
      (pss_cons (ps_set (i := 3) scGreat.nd rfl (.inl rfl) (pe_tup pa_nil))
      (pss_cons (ps_for PassesOwn.never rfl (pi_range1 (by rfl) mr (pa_cons (pe_op op_add pe_int (pe_call GD hr1 (by rfl) gD kD bD .nil pass0 (pa_cons (pv 0) (pa_cons pe_int pa_nil)))) pa_nil)) (pg_name (i := 4) scGreat.nd rfl (Or.inl rfl))
        (pss_cons (ps_set (i := 5) scGreat.nd rfl (.inl rfl) (pe_ix ix_list (pe_lst (pa_cons (pe_call GN hr2 (by rfl) gN kN bN .nil pass0 (pa_cons (pv 0) pa_nil)) (pa_cons (pe_ix ix_list (pv 1) (pe_op op_mod (pv 4) pe_int) (fun _ _ => rfl))
            (pa_cons (pe_tup (pa_cons (pe_ix ix_list (pv 1) pe_int (fun _ _ => rfl)) (pa_cons (pv 4) pa_nil))) pa_nil)))) (pe_call GD hr1 (by rfl) gD kD bD .nil pass0 (pa_cons (pv 0) (pa_cons pe_int pa_nil))) (fun _ _ => rfl)))
          (pss_one (ps_set (i := 3) scGreat.nd rfl (.inl rfl) (pe_ix ix_list (pe_lst (pa_cons (pe_tup (pa_cons (pv 5) (pa_cons (pv 3) pa_nil))) (pa_cons (pe_tup (pa_cons (pv 3) (pa_cons (pv 5) pa_nil))) pa_nil))) (pe_op op_sub (pv 2) pe_int) (fun _ _ => rfl))))))
      (pss_one (ps_ret (pv 3)))))), ?_⟩
    refine ⟨.ref d, rfl, d, c, 3, rfl, hD, by decide, by decide, fun H1 kd hD1 kp1 b0 b1 => ?_⟩
    have S1 := S.keep kp1
    refine ⟨.int kd, rfl, rfl, _, rfl, ite2 (fun _ => ?_) (fun h0 => ?_)⟩
    · refine ⟨.ref d, rfl, .ref wl, rfl, Nat.zero_le _, fun ul nu => ⟨(by show 1 ≤ sizeLine; decide), fun e ne => ?_⟩⟩
      have s2 : Same H1 (upd H1 ul (.lst [])) := same_upd nu
      have s3 : Same (upd H1 ul (.lst [])) (upd (upd H1 ul (.lst [])) e (.lst [.int 298])) := same_upd ne
      have s4 := s2.trans s3
      have hD2 := hD1.same s2
      have S2 : Src _ d c wl ul zs [] := (S1.keep (kpSame s4)).src (s3 _ _ upd_same) (hD1.ne1 nu) (hD1.ne2 nu) (by decide) (fun n h => absurd h List.not_mem_nil)
      have n1 := hD2.ne1 ne
      have n2 := hD2.ne2 ne
      refine ⟨d, c, wl, ul, e, zs, [], 49, 298, rfl, hD1.same s4, S2, upd_same, n1, n2, ne_of_none (s2 _ _ S1.w) ne, ne_of_none (upd_same (H := H1) (a := ul) (o := .lst [])) ne, by decide, by decide, fun H4 x t L4 hD4 kq4 hL4 hx ht => ?_⟩
      obtain ⟨t1, t2, t3, t4⟩ := ht
      exact q H4 x t hD4 (kpBack (kp1.trans (kpSame s4)) e (kpFree (kp1.trans (kpSame s2)) n1 n2 ne) kq4) hx t1 (by omega) (by omega)
    · have hk : kd ≠ 0 := fun z => h0 (by rw [z]; exact decide_eq_true rfl)
      refine ⟨Nat.zero_le _, fun a0 na0 => ?_⟩
      have s2 : Same H1 (upd H1 a0 (.tup [])) := same_upd na0
      refine ⟨.ref d, rfl, d, c, 19, rfl, hD1.same s2, by decide, by decide, fun H3 r hD3 kp3 r0 r1 => ⟨30, r, rfl, rfl, 30 + r, rfl, by omega, by omega, ?_⟩⟩
      refine for_range (lo := 0) (n := (30 + r).toNat) (fun i σ H' => ∃ (y4 y5 : Option V) (x : V) (t : Tm), σ = [some (.ref d), some (.ref wl), some (.int kd), some x, y4, y5] ∧ Dk H' d c ∧ Kp d c H H' ∧ IsTm H' x t ∧ t.ok ∧ t.depth ≤ i + 2 ∧ t.size ≤ 4 * i + 1) ?_ (fun i σ H4 hi h4 => ?_) (fun σ H4 h4 => ?_)
      · exact ⟨none, none, _, .nil, rfl, hD3, kp1.trans ((kpSame s2).trans kp3), .nil (kpTup (hD1.same s2) kp3 _ _ upd_same), True.intro, by show 1 ≤ 2; decide, by show 1 ≤ 1; decide⟩
      · obtain ⟨y4, y5, x, t, rfl, hD4, kp4, hx, t1, t2', t3⟩ := h4
        have S4 := S.keep kp4
        have z3 : (zs.map V.str).length = 3 := by rw [List.length_map, S.zl]
        refine ⟨.ref d, rfl, d, c, rfl, hD4, fun H5 nm hD5 kp5 hnm => ?_⟩
        have S5 := S4.keep kp5
        have m0 := Int.emod_nonneg (0 + (i : Int)) (show (3 : Int) ≠ 0 by decide)
        have m1 := Int.emod_lt_of_pos (0 + (i : Int)) (show (0 : Int) < 3 by decide)
        obtain ⟨v1, hv1, ev1⟩ := item_at (xs := zs.map V.str) m0 (by rw [z3]; exact m1)
        obtain ⟨z1, hz1, rfl⟩ := List.mem_map.mp hv1
        obtain ⟨v0, hv0, ev0⟩ := item_at (xs := zs.map V.str) (i := 0) (by decide) (by rw [z3]; decide)
        obtain ⟨z0, hz0, rfl⟩ := List.mem_map.mp hv0
        refine ⟨.ref wl, rfl, _, rfl, _, 3, rfl, rfl, (by show (0 : Int) < 3; decide), wl, _, _, _, rfl, rfl, .inl (.inl S5.w), ev1, .ref wl, rfl, wl, _, 0, _, rfl, rfl, .inl (.inl S5.w), ev0, _, rfl, (by show 2 ≤ sizeLine; decide), fun p1 np1 => ⟨(by show 3 ≤ sizeLine; decide), fun p2 np2 => ?_⟩⟩
        have s6 : Same H5 (upd H5 p1 (.tup [.str z0, .int (0 + (i : Int))])) := same_upd np1
        have s7 : Same (upd H5 p1 (.tup [.str z0, .int (0 + (i : Int))])) (upd (upd H5 p1 (.tup [.str z0, .int (0 + (i : Int))])) p2 (.lst [.int nm, .str z1, .ref p1])) := same_upd np2
        have hD7 := hD5.same (s6.trans s7)
        have q2 := hD5.same s6
        have e1 := q2.ne1 np2
        have e2 := q2.ne2 np2
        have hp1 := s7 _ _ (upd_same (H := H5) (a := p1) (o := .tup [.str z0, .int (0 + (i : Int))]))
        have hp2 : upd (upd H5 p1 (.tup [.str z0, .int (0 + (i : Int))])) p2 (.lst [.int nm, .str z1, .ref p1]) p2 = some (.lst [.int nm, .str z1, .ref p1]) := upd_same
        have kp7 := kp4.trans (kp5.trans (kpSame (s6.trans s7)))
        have hx7 := (hx.keep (kpTup hD4 kp5)).keep (sameTup (s6.trans s7))
        refine ⟨.ref d, rfl, d, c, 3, rfl, hD7, by decide, by decide, fun H8 r' hD8 kp8 r0' r1' => ?_⟩
        obtain ⟨v, hv, ev⟩ := item_at (xs := [V.int nm, .str z1, .ref p1]) r0' r1'
        have hx8 := hx7.keep (kpTup hD7 kp8)
        have hp1' := kpTup hD7 kp8 _ _ hp1
        have kq8 := kp7.trans kp8
        obtain ⟨u, hu, u1, u2, u3⟩ : ∃ u, IsTm H8 v u ∧ u.ok ∧ u.depth ≤ 2 ∧ u.size ≤ 3 := by
          simp only [List.mem_cons, List.not_mem_nil, or_false] at hv
          rcases hv with rfl | rfl | rfl
          · exact ⟨.int nm, .int nm, hnm, by show 1 ≤ 2; decide, by show 1 ≤ 3; decide⟩
          · exact ⟨.wrd z1, .wrd z1, S.wd z1 hz1, by show 1 ≤ 2; decide, by show 1 ≤ 3; decide⟩
          · exact ⟨.pair (.wrd z0) (.int (0 + (i : Int))), .pair hp1' (.wrd z0) (.int _), ⟨S.wd z0 hz0, by show (0 + (i : Int)).natAbs ≤ 1000000000000; omega⟩, by show 2 ≤ 2; decide, by show 3 ≤ 3; decide⟩
        refine ⟨p2, _, r', v, rfl, rfl, .inl (.inl (kp8 _ _ e1 e2 hp2)), ev, ?_⟩
        refine ⟨v, rfl, x, rfl, (by show 2 ≤ sizeLine; decide), fun a1 na1 => ?_⟩
        have w1 : Same H8 (upd H8 a1 (.tup [v, x])) := same_upd na1
        refine ⟨x, rfl, v, rfl, (by show 2 ≤ sizeLine; decide), fun a2 na2 => ?_⟩
        have w2 : Same (upd H8 a1 (.tup [v, x])) (upd (upd H8 a1 (.tup [v, x])) a2 (.tup [x, v])) := same_upd na2
        refine ⟨(by show 2 ≤ sizeLine; decide), fun a3 na3 => ?_⟩
        have w3 := same_upd (o := .lst [.ref a1, .ref a2]) na3
        have w4 := w1.trans (w2.trans w3)
        have hx9 := hx8.keep (sameTup w4)
        have hu9 := hu.keep (sameTup w4)
        have g1 : IsTm _ (.ref a1) (.pair u t) := .pair (w3 _ _ (w2 _ _ upd_same)) hu9 hx9
        have g2 : IsTm _ (.ref a2) (.pair t u) := .pair (w3 _ _ upd_same) hx9 hu9
        have hp9 : upd (upd (upd H8 a1 (.tup [v, x])) a2 (.tup [x, v])) a3 (.lst [.ref a1, .ref a2]) a3 = some (.lst [.ref a1, .ref a2]) := upd_same
        have e12 : kd = 1 ∨ kd = 2 := by omega
        rcases e12 with e | e
        · subst e
          refine ⟨.int 1, rfl, 1, 1, rfl, rfl, a3, _, 0, .ref a1, rfl, rfl, .inl (.inl hp9), atI_nat (j := 0) rfl, _, _, _, _, rfl, hD8.same w4, kq8.trans (kpSame w4), g1, ⟨u1, t1⟩, ?_, ?_⟩
          · show max u.depth t.depth + 1 ≤ _
            omega
          · show u.size + t.size + 1 ≤ _
            omega
        · subst e
          refine ⟨.int 2, rfl, 2, 1, rfl, rfl, a3, _, 1, .ref a2, rfl, rfl, .inl (.inl hp9), atI_nat (j := 1) rfl, _, _, _, _, rfl, hD8.same w4, kq8.trans (kpSame w4), g2, ⟨t1, u1⟩, ?_, ?_⟩
          · show max t.depth u.depth + 1 ≤ _
            omega
          · show t.size + u.size + 1 ≤ _
            omega
      · obtain ⟨y4, y5, x, t, rfl, hD4, kp4, hx, t1, t2', t3⟩ := h4
        exact ⟨x, rfl, q H4 x t hD4 kp4 hx t1 (by omega) (by omega)⟩
end
end Ksec

set_option Elab.async false
set_option linter.all false
set_option maxRecDepth 100000
set_option maxHeartbeats 4000000
namespace Ksec
open PySem PySem.Spec PyProof.Rows L2
/-! defs that are called where no repr is under way -/
structure GOk (P : Program) (w : World) (K : PySem.W.Frag) (mg : Str → Option Value) (base : Heap) (k : Nat) (f : Addr) (fd : FuncData) (ps : List Str) (sp : Sp) : Prop where
  len : ∀ vs H Q E, sp vs H Q E → vs.length = ps.length
  run : ∀ (A : Around) (outer : List Env) (s : Shared) (H : Hp) (args : Args) (us : List Value) (vs : List V) (Q : VK) (E : XK), A.guards = some [] → Room k A → Env0 P w K mg base A outer s H → BindsTo s fd args (ps.zip us) → Vals vs us → sp vs H Q E →
    codeAny (model P w) A (.call (.ref f) args) (CR CX0 outer P w H s Q E) s
theorem gok_of {P : Program} {w : World} {K : PySem.W.Frag} {mg : Str → Option Value} {base : Heap} {x qual : Str} {st : Stmt} {f : Addr} {fd : FuncData} {N ps : List Str} {k : Nat} {sp : Sp} (F : Fun K x qual st f fd) (S : FnScope N ps (defScope st))
    (len : ∀ vs H Q E, sp vs H Q E → vs.length = ps.length)
    (hbody : ∀ (cdv : Value) (A : Around) (outer : List Env) (s : Shared) (H : Hp) (vs : List V) (Q : VK) (E : XK), A.guards = some [] → Room k (A.deeper (envOfC qual (defScope st) s.heap.objs.size f cdv)) → sp vs H Q E →
      ∃ t, PSs (cxOf CX0 P w K mg base N qual (defScope st) f cdv A outer s H E).nox (defBody st) t ∧ t { nx := fun _ H' => Q .non H', rt := Q } (start N vs) H) : GOk P w K mg base (k + 1) f fd ps sp := by
  refine ⟨len, fun A outer s H args us vs Q E hg hr e0 hb r hsp => ?_⟩
  obtain ⟨oc, od, kV, doc, pm, an, cdv, ct, osl, rfl, lk, hcd⟩ := F.ex
  have hl := len _ _ _ _ hsp
  have old : ∀ b o, base.get? b = some o → s.heap.get? b = some o := fun b o e => (e0.bs b o e).1
  have kin := e0.mod.kin.keeps old
  have loc : ∀ y ∈ ps.zip us, (defScope st).names.lookup y.1 = some .local ∨ ((defScope st).names.lookup y.1 = some .cell ∧ ((cellsFrom (s.heap.objs.size + 1) (defScope st).names []).lookup y.1).isSome = true) := by
    rintro ⟨n, v⟩ hy
    cases S.par n (List.of_mem_zip hy).1 with
    | inl z => exact .inl z
    | inr z => exact .inr ⟨z, PySem.W.cellsFrom_some _ _ _ (.inl z)⟩
  refine codeAny_call_function hr.depth (kin _ _ lk) rfl S.co S.gen rfl (PySem.W.codeRec_of kin hcd) (hb _ _ _ _ (wpAny_newFunctionEnv_cells S.kind loc fun env he s1 xx => ?_))
  subst he
  refine ⟨(e0.mod.nolimit.keeps old).keeps xx.toInCall.keep, codeAny_func ?_⟩
  obtain ⟨t, ht, hq⟩ := hbody cdv A outer s H vs Q E hg (hr.deeper _) hsp
  have I := inv_start (E := E) (CX := CX0) S hr.hd e0 hl r xx
  have ends : ∀ {σ' : L2.St} {H' : Hp} {v : V} {u : Value} {s' : Shared}, Inv (cxOf CX0 P w K mg base N qual (defScope st) f cdv A outer s H E) [] σ' H' s' → RelV v u → Q v H' → CE outer P w H s Q u s' := fun J rv z => ⟨_, _, J.os, J.bare, J.base, J.hok, rv, z⟩
  refine wpAny_mono (ht.nox.run [] s1 (start N vs) H _ I hq) (fun fl s' hs => ?_) fun _ _ hs => hs
  match fl, hs with
  | .ret u, ⟨v, σ', H', J, rv, z⟩ => exact ends J rv z
  | .next, ⟨σ', H', J, z⟩ => exact ends (v := V.non) (u := Value.none) J rfl z
  | .brk, ⟨_, _, _, z⟩ => exact z.elim
  | .cont, ⟨_, _, _, z⟩ => exact z.elim
theorem pe_gcall {X : Cx} {k : Nat} {f : Addr} {fd : FuncData} {ps : List Str} {sp : Sp} {x : Str} {p pos : Pos} {e : Expr} {es : List Expr} {t : TA} (F : GOk X.prog X.w X.K X.mg X.base k f fd ps sp) (g0 : X.A.guards = some []) (hr : Room k X.A) (hg : Gl X x) (hm : X.mg x = some (.ref f))
    (hk : PySem.W.keepIn X.K (.ref f) = true) (hb : Binds X.K fd ps []) (ha : PA X (e :: es) t) (hdb : (x == ("__debug__" : Str)) = false := by decide) (he : starEach (e :: es) X.env = (false, eval e X.env) :: starEach es X.env := by rfl)
    (hpl : (backTo pos (starEach es X.env)).any (·.1) = false := by rfl) : PE X (.Call (.Name x p) (e :: es) [] pos) (tCall sp [] E0 t) := by
  constructor
  intro pins s σ H Q I h
  apply wpAny_Call_Name_kw
  apply ld_glob I hg hm (hd := hdb)
  refine PySem.W.callWith_K (h₀ := X.base) I.ok.mod.kin hk (thn (ha.run pos pins s σ H _ I h) ?_) he hpl
  rintro us s1 ⟨vs, H1, I1, r, q⟩
  refine ⟨I1.kIn, wpAny_call ?_⟩
  rw [List.append_nil] at q
  have hl : us.length = ps.length := by rw [← r.length]; exact F.len _ _ _ _ q
  have bd := hb s1 us I1.kIn (by rw [List.append_nil]; exact hl)
  rw [List.append_nil] at bd
  refine codeAny_mono (F.run X.A X.stack s1 H1 ⟨us, []⟩ us vs Q E0 g0 hr I1.env0 bd r q) fun rr s' hq => ?_
  match rr, hq with
  | .ok (.ret u), hq => exact I1.after hq
  | .ok .next, hq => exact hq.elim
  | .ok .brk, hq => exact hq.elim
  | .ok .cont, hq => exact hq.elim
  | .error e, hq => exact hq.elim
/-- repr(x) of data -/
theorem call_reprD {X : Cx} (g0 : X.A.guards = some []) (hu : X.A.units + 70 < cLine) : CallR X (.builtin "repr") (fun xs H Q => ∃ v d, xs = [v] ∧ Dp X.K H v d ∧ d.showable = true ∧ d.hasDict = false ∧ d.depth ≤ 64 ∧ d.shown.length ≤ sizeLine ∧ Q (.str d.shown) H) := by
  intro pins s σ H xs us Q I r h
  obtain ⟨v, d, rfl, hd, h1, h2, h3, h4, q⟩ := h
  obtain ⟨u, rfl, rx⟩ := vals1 r
  obtain ⟨as, rd⟩ := Dp.reads I d v u hd rx
  have ref : ∀ a, u = .ref a → wpAny (model X.prog X.w) X.A (call (.builtin "repr") [u]) (EP X pins σ Q) X.xe s := fun a ea => by
    subst ea
    exact repr_of_reads' rd h1 (fun z => by rw [h2] at z; cases z) g0 (by omega) (fun _ _ e => e) (fun h' t tk hk => ⟨.str d.shown, H, I.kept hk, ⟨t, rfl⟩, q⟩) h4
  cases hd with
  | non =>
    cases rx
    exact PySem.P.repr_of_none ⟨.str _, H, I.tok _, ⟨_, rfl⟩, q⟩
  | bl b =>
    cases rx
    exact PySem.P.repr_of_bool ⟨.str _, H, I.tok _, ⟨_, rfl⟩, q⟩
  | int i =>
    obtain ⟨t, rfl⟩ := rx
    exact PySem.P.repr_of_int (of_decide_eq_true h1) ⟨.str _, H, I.tok _, ⟨_, rfl⟩, q⟩
  | str x =>
    obtain ⟨t, rfl⟩ := rx
    exact PySem.P.repr_of_str ⟨.str _, H, I.tok _, ⟨_, rfl⟩, q⟩ h4
  | lst _ _ => exact ref _ rx
  | tup _ _ => exact ref _ rx
/-- the law's own call, where no repr is under way -/
theorem glaw {P : Program} {w : World} {K : PySem.W.Frag} {mg mb : Str → Option Value} {k : Nat} {fa a : Addr} {fd : FuncData} {x : Str} {sp : Sp} {s₁ : Shared} {vs : List Value} {ns : List Int} (KX : K.In s₁.heap) (hns : s₁.heap.Ns mainGlobals mg)
    (hb : s₁.heap.Ns builtinsNs mb) (hbb : ∀ x : Str, x ≠ "__name__" → mb x = bootBuiltins x) (hlim : s₁.heap.NoLimit) (hg : s₁.gens = #[]) (ha : s₁.heap.get? a = some { cls := .type "list", data := .seq vs.toArray }) (hi : IntsAre vs ns) (hl : ns.length ≤ sizeLine) (hr : Room k callerA)
    (F : ∀ base : Heap, K.In base → base.Ns mainGlobals mg → GOk P w K mg base k fa fd [x] sp) (hbind : ∀ (s : Shared) (u : Value), BindsTo s fd ⟨[u], []⟩ [(x, u)])
    (hsp : ∀ H : Hp, SqL K H a (ns.map V.int) → sp [.ref a] H (fun v _ => v = .bl true) fun _ _ _ => False) :
    codeAny (model P w) callerA (.call (.ref fa) ⟨[.ref a], []⟩) (fun r s' => r = .ok (.ret (.bool true)) ∧ OldK s₁.heap s'.heap ∧ s'.os = s₁.os ∧ AllBare s'.gens) s₁ := by
  have rv := vals_ints hi
  have from_ : ∀ H : Hp, Only H → SqL K H a (ns.map V.int) → HOk P w H s₁.heap → (∀ b u, H b = some u → b = a ∧ K.lookup a = none) → codeAny (model P w) callerA (.call (.ref fa) ⟨[.ref a], []⟩) (fun r s' => r = .ok (.ret (.bool true)) ∧ OldK s₁.heap s'.heap ∧ s'.os = s₁.os ∧ AllBare s'.gens) s₁ := by
    intro H hO hS hok hA
    have free : ∀ {b : Addr} {o : Obj}, s₁.heap.get? b = some o → (b = a → K.lookup a = none → False) → H b = none := fun {b o} e no => by
      cases z : H b with
      | none => rfl
      | some u => exact (no (hA b u z).1 (hA b u z).2).elim
    have nsK : ∀ {b : Addr} {m : Str → Option Value}, s₁.heap.Ns b m → (hidT s₁.heap H).Ns b m := by
      rintro b m ⟨o, es, ep, e, d, r⟩
      refine ⟨o, es, ep, hidT_get e (free e fun z _ => ?_), d, r⟩
      subst z
      rw [ha] at e
      cases e
      cases d
    have hKb : K.In (hidT s₁.heap H) := fun b o e => hidT_get (KX b o e) (free (KX b o e) fun z n => by
      subst z
      rw [e] at n
      cases n)
    have e0 : Env0 P w K mg (hidT s₁.heap H) callerA [] s₁ H :=
      ⟨rfl, ⟨hKb, nsK hns, ⟨mb, nsK hb, hbb⟩, hlim.elim fun mc h => ⟨mc, nsK h.1, h.2⟩⟩, fun _ _ e => of_hidT e, Nat.le_of_eq (hidT_size _ _), True.intro, fun b (z : b ∈ ([] : List Addr)) => absurd z List.not_mem_nil, hok, .of_eq hg⟩
    refine codeAny_mono ((F _ hKb (nsK hns)).run callerA [] s₁ H ⟨[.ref a], []⟩ [.ref a] [.ref a] _ _ rfl hr e0 (hbind s₁ (.ref a)) (.cons rfl .nil) (hsp H hS)) ?_
    intro r s' h
    match r, h with
    | .error e, h => exact h.elim
    | .ok .next, h => exact h.elim
    | .ok .brk, h => exact h.elim
    | .ok .cont, h => exact h.elim
    | .ok (.ret u), ⟨v, H', os, bare, un, hok', r', q⟩ =>
      cases (show v = .bl true from q)
      cases (show u = Value.bool true from r')
      refine ⟨rfl, OldK.of_keep fun b o e => ?_, os, bare⟩
      rcases hO b with z | ⟨ob, xs, z⟩
      · exact un.keep b o e z (fun (z : b ∈ ([] : List Addr)) => absurd z List.not_mem_nil) (fun (z : b ∈ ([] : List Addr)) => absurd z List.not_mem_nil)
      · have z1 := (hok b _ z).1
        have z2 := (hok' b _ (un.frzs b ob _ z)).1
        rw [e] at z1
        cases z1
        exact z2
  cases hk : K.lookup a with
  | some o =>
    have e := KX a o hk
    rw [ha] at e
    cases e
    exact from_ (fun _ => none) (fun _ => .inl rfl) (.inr ⟨_, vs.toArray, _, hk, rfl, rfl, rfl, by rw [List.size_toArray, hi.length]; exact hl, by simpa using rv⟩) (fun b u z => nomatch (show (none : Option HO) = some u from z)) (fun b u z => nomatch (show (none : Option HO) = some u from z))
  | none =>
    refine from_ (upd (fun _ => none) a (.frz { cls := .type "list", data := .seq vs.toArray } (.lst (ns.map V.int)))) (fun b => ?_) (.inl (.inr ⟨_, upd_same⟩)) (fun b u z => ?_) (fun b u z => ?_)
    all_goals by_cases hb' : b = a
    · exact .inr ⟨_, _, by rw [hb']; exact upd_same⟩
    · exact .inl (upd_ne hb')
    · subst hb'
      rw [upd_same] at z
      cases z
      exact ⟨ha, by rw [List.length_map]; exact hl, vs, _, rv, ha⟩
    · rw [upd_ne hb'] at z
      cases z
    · exact ⟨hb', hk⟩
    · rw [upd_ne hb'] at z
      cases z
theorem gwalk {l : PySem.W.OpenLaw} {n k : Nat} {q : Program} {loose : List Str} {XP : (Str → Option Value) → Heap → Prop} {YP : World → Heap → Prop} {d : DefRec} {K : Params → PySem.W.Frag} {sp : PySem.W.Frag → Sp} {x : Str} (hn : l.most = some n) (hn2 : n ≤ sizeLine) (hdf : d.params.defaults = [])
    (hr : Room k callerA) (hY : ∀ (w : World) (h : Heap), YP w h → (K w.params).In h)
    (F : ∀ (w : World) (mg : Str → Option Value) (fa : Addr) (h : Heap), (K w.params).In h → h.Ns mainGlobals mg → mg d.name = some (.ref fa) → ∃ fd : FuncData, (∀ (s : Shared) (u : Value), BindsTo s fd ⟨[u], []⟩ [(x, u)]) ∧
      ∀ base : Heap, (K w.params).In base → base.Ns mainGlobals mg → GOk l.prog w (K w.params) mg base k fa fd [x] (sp (K w.params)))
    (hsp : ∀ (K : PySem.W.Frag) (H : Hp) (a : Addr) (ns : List Int), ns.length ≤ n → SqL K H a (ns.map V.int) → sp K [.ref a] H (fun v _ => v = .bl true) fun _ _ _ => False) :
    PySem.W.WalkO q loose XP YP l.row.toRowW d [] (fun f vs => PySem.call f vs) := by
  refine Att.attach_call hn hdf fun w s₀ s₁ mg mb fa o pm cd doc a vs ns G Y ho hd hcd hmg hobj hints hlen hg => ?_
  obtain ⟨fd, bd, hF⟩ := F w mg fa _ (hY w _ Y) G.T.g hmg
  exact glaw (hY w _ Y) G.T.g G.T.b G.T.builtins G.T.nolimit hg hobj hints (Nat.le_trans hlen hn2) hr hF bd fun H hS => hsp _ H a ns hlen hS
end Ksec

set_option Elab.async false
set_option linter.all false
set_option maxRecDepth 100000
set_option maxHeartbeats 4000000
namespace Ksec
open PySem PySem.Spec PyProof.Rows L2
abbrev sRight : Stmt := topS 21
theorem scRight : FnScope ["_law_term_here", "_law_due"] ["_law_term_here"] (defScope sRight) := ⟨rfl, rfl, rfl, by decide +kernel, rfl, by decide +kernel, by decide +kernel⟩
theorem room70 {k : Nat} {A : Around} (r : Room k A) : A.units + 70 < cLine := by
  have := r.un
  omega
/-- small ints as data -/
structure Sm (d : PyData) : Prop where
  sh : d.showable = true
  nd : d.hasDict = false
  dp : d.depth ≤ 64
  fit : d.shown.length ≤ sizeLine
theorem sm_bool (b : Bool) : Sm (.bool b) := ⟨rfl, rfl, Nat.zero_le _, by cases b <;> decide +kernel⟩
theorem sm_all : ∀ ns : List Int, (∀ n ∈ ns, 0 ≤ n ∧ n ≤ 999) → PyData.showableAll (ns.map .int) = true ∧ PyData.hasDictAll (ns.map .int) = false ∧ PyData.leavesShortAll 13 (ns.map .int) = true ∧ PyData.bulkAll (ns.map .int) = ns.length
  | [], _ => ⟨rfl, rfl, rfl, rfl⟩
  | n :: r, h => by
    obtain ⟨h1, h2, h3, h4⟩ := sm_all r fun m hm => h m (List.mem_cons_of_mem _ hm)
    have hn := h n (List.mem_cons_self ..)
    have a1 : (PyData.int n).showable = true := by
      show decide (n.natAbs.log2 < 1920) = true
      apply decide_eq_true
      by_cases z : n.natAbs = 0
      · rw [z]
        decide
      · have := (Nat.log2_lt z).mpr (show n.natAbs < 2 ^ 10 by omega)
        omega
    have a3 : (PyData.int n).leavesShort 13 = true := by
      show decide ((PyData.shown (.int n)).length ≤ 13) = true
      exact decide_eq_true (PyData.shown_int_le (by omega))
    refine ⟨?_, ?_, ?_, ?_⟩
    · show ((PyData.int n).showable && PyData.showableAll (r.map .int)) = true
      rw [a1, h1]
      rfl
    · show (false || PyData.hasDictAll (r.map .int)) = false
      rw [h2]
      rfl
    · show ((PyData.int n).leavesShort 13 && PyData.leavesShortAll 13 (r.map .int)) = true
      rw [a3, h3]
      rfl
    · show 0 + 1 + PyData.bulkAll (r.map .int) = r.length + 1
      rw [h4]
      omega
theorem sm_tup {ns : List Int} (h : ∀ n ∈ ns, 0 ≤ n ∧ n ≤ 999) (hl : ns.length ≤ 100000) : Sm (.tuple (ns.map .int)) := by
  obtain ⟨h1, h2, h3, h4⟩ := sm_all ns h
  refine ⟨h1, h2, ?_, PyData.shown_fits_bulk (B := 13) (by decide) (by decide) h3 ?_⟩
  · show PyData.depthAll (ns.map .int) + 1 ≤ 64
    rw [depInts]
    decide
  · show PyData.bulkAll (ns.map .int) ≤ 2 ^ 20
    rw [h4]
    exact Nat.le_trans hl (by decide)
section
variable {P : Program} {w : World} {K : PySem.W.Frag} {mg : Str → Option Value} {base : Heap}
def spRight : Sp := fun vs H Q _ => ∃ (x : V) (t : Tm), vs = [x] ∧ IsTm H x t ∧ t.ok ∧ t.depth ≤ 62 ∧ t.size ≤ 1000 ∧ ∀ H', Same H H' → Q (.bl true) H'
theorem ok_right {f fU fI fG : Addr} {fd fdU fdI fdG : FuncData} (F : Fun K "_law_right" "_law_right" sRight f fd) (GU : FnOk P w K mg base CX0 70 fU fdU ["_law_term_here"] (spUnks 62)) (bU : Binds K fdU ["_law_term_here"] []) (gU : mg "_law_unknowns" = some (.ref fU)) (kU : PySem.W.keepIn K (.ref fU) = true)
    (GI : FnOk P w K mg base CX0 70 fI fdI ["term"] spIn) (bI : Binds K fdI ["term"] []) (gI : mg "unknowns_in" = some (.ref fI)) (kI : PySem.W.keepIn K (.ref fI) = true)
    (GG : FnOk P w K mg base CX0 70 fG fdG ["term"] spGround) (bG : Binds K fdG ["term"] []) (gG : mg "is_ground" = some (.ref fG)) (kG : PySem.W.keepIn K (.ref fG) = true) (mr : mg "repr" = none) (mt : mg "tuple" = none) : GOk P w K mg base 71 f fd ["_law_term_here"] spRight := by
  refine gok_of F scRight (fun vs H Q E h => ?_) (fun cdv A outer s H vs Q E g0 hr h => ?_)
  · obtain ⟨x, t, rfl, _⟩ := h
    rfl
  · obtain ⟨x, t, rfl, hx, ho, hd, hz, q⟩ := h
    refine ⟨_, pss_cons (ps_set (i := 1) scRight.nd rfl (.inl rfl) (pe_call GU hr (by rfl) gU kU bU .nil pass0 (pa_cons (pv 0) pa_nil)))
      (pss_cons (ps_if (pt_cmpR op_ne (pe_callB (call_reprD g0 (room70 hr)) (by rfl) mr (by decide +kernel) (pa_cons (pe_call GI hr (by rfl) gI kI bI .nil pass0 (pa_cons (pv 0) pa_nil)) pa_nil))
          (pe_callB (call_reprD g0 (room70 hr)) (by rfl) mr (by decide +kernel) (pa_cons (pe_callTy call_tuple_of (by rfl) mt (by decide +kernel) (pa_cons (pv 1) pa_nil)) pa_nil)) (nomark _)) (pss_one (ps_ret pe_bl)) pss_nil)
      (pss_one (ps_ret (pe_cmpR op_eq (pe_callB (call_reprD g0 (room70 hr)) (by rfl) mr (by decide +kernel) (pa_cons (pe_call GG hr (by rfl) gG kG bG .nil pass0 (pa_cons (pv 0) pa_nil)) pa_nil))
        (pe_callB (call_reprD g0 (room70 hr)) (by rfl) mr (by decide +kernel) (pa_cons (pe_cmpR (op_eqD hr.units) (pv 1) (pe_lst pa_nil) (nomark _)) pa_nil)) (nomark _))))), ?_⟩
    refine ⟨x, rfl, x, t, rfl, hx, ho, hd, by decide, by omega, fun H1 l s1 nl hl => ?_⟩
    have hx1 := hx.keep (sameTup s1)
    have hf : Fine t := ⟨ho, by omega⟩
    have ld := dd_len t
    have sm := sm_tup (dd_ok ho) (show t.dd.length ≤ 100000 by omega)
    refine ⟨x, rfl, x, t, rfl, hx1, hf, by omega, fun H2 p s2 hp => ?_⟩
    rw [uniq_dd] at hp
    refine ⟨.ref p, _, rfl, .tup (.inl (.inl hp)) (dpInts _), sm.sh, sm.nd, sm.dp, sm.fit, ?_⟩
    have hl2 := s2 _ _ hl
    refine ⟨.ref l, rfl, l, _, rfl, .inl ⟨.inl (.inl hl2), fun p2 np2 => ?_⟩⟩
    refine ⟨.ref p2, _, rfl, .tup (.inl (.inl upd_same)) (dpInts _), sm.sh, sm.nd, sm.dp, sm.fit, rfl, _, rfl, ?_⟩
    refine iteNS rfl ?_
    have s3 := s1.trans (s2.trans (same_upd (o := .tup (t.dd.map V.int)) np2))
    have hl3 := same_upd (o := .tup (t.dd.map V.int)) np2 _ _ hl2
    refine ⟨x, rfl, x, t, rfl, hx.keep (sameTup s3), hf, by omega, fun H4 s4 => ?_⟩
    refine ⟨_, .bool (decide (uniq [t] = [])), rfl, .bl _, (sm_bool _).sh, (sm_bool _).nd, (sm_bool _).dp, (sm_bool _).fit, ?_⟩
    refine ⟨.ref l, rfl, Nat.zero_le _, fun p5 np5 => ?_⟩
    have s5 : Same H4 (upd H4 p5 (.lst [])) := same_upd np5
    refine ⟨.list (t.dd.map .int), .list (([] : List Int).map .int), .lst (.inl (.inl (s5 _ _ (s4 _ _ hl3)))) (dpInts _), .lst (.inl (.inl upd_same)) .nil, shpL _, shpL _, ?_⟩
    refine ⟨_, .bool (PyData.eqv (.list (t.dd.map .int)) (.list (([] : List Int).map .int))), rfl, .bl _, (sm_bool _).sh, (sm_bool _).nd, (sm_bool _).dp, (sm_bool _).fit, rfl, ?_⟩
    show Q (.bl (decide (V.str (PyData.shown (.bool (decide (uniq [t] = [])))) = V.str (PyData.shown (.bool (PyData.eqv (.list (t.dd.map .int)) (.list (([] : List Int).map .int)))))))) _
    rw [eqvL, uniq_dd, decide_eq_true rfl]
    exact q _ (s3.trans (s4.trans s5))
end
end Ksec

set_option Elab.async false
set_option linter.all false
set_option maxRecDepth 100000
set_option maxHeartbeats 8000000
namespace Ksec
open PySem PySem.Spec PyProof.Rows L2
abbrev sLaw : Stmt := topS 22
abbrev nLaw : List Str := ["_law_script", "_law_deck_here", "_law_words", "_law_turn", "_law_unknowns_here", "_law_term_here", "_law_due", "_law_number_here", "_law_other", "_law_left", "_law_one"]
theorem scLaw : FnScope nLaw ["_law_script"] (defScope sLaw) := ⟨rfl, rfl, rfl, by decide +kernel, rfl, by decide +kernel, by decide +kernel⟩
theorem Wds.same {H H' : Hp} {d c wl : Addr} {zs : List Str} (S : Wds H d c wl zs) (k : Same H H') : Wds H' d c wl zs := S.keep (kpSame k)
theorem ne_take {ns : List Int} {i : Nat} {n m : Int} (h : ns[i]? = some m) : (ns.take (i + 1)).filter (fun x => decide (x ≠ n)) = if m = n then (ns.take i).filter (fun x => decide (x ≠ n)) else (ns.take i).filter (fun x => decide (x ≠ n)) ++ [m] := by
  rw [List.take_add_one, h, List.filter_append]
  by_cases h1 : m = n <;> simp [h1]
theorem int_of {ns : List Int} {i : Nat} {x : V} (h : (ns.map V.int)[i]? = some x) : ∃ n, ns[i]? = some n ∧ x = .int n := by
  rw [List.getElem?_map] at h
  cases e : ns[i]? with
  | none =>
    rw [e] at h
    cases h
  | some n =>
    rw [e] at h
    exact ⟨n, rfl, (Option.some.inj h).symm⟩
section
variable {P : Program} {w : World} {K : PySem.W.Frag} {mg : Str → Option Value} {base : Heap}
def spLaw (K : PySem.W.Frag) : Sp := fun vs H Q _ => ∃ (a : Addr) (ns : List Int), vs = [.ref a] ∧ SqL K H a (ns.map V.int) ∧ ∀ H', Q (.bl true) H'
theorem ok_law {f f1 f2 f3 f4 f5 f6 f7 f8 f9 : Addr} {fd d1 d2 d3 d4 d5 d6 d7 d8 d9 : FuncData} (F : Fun K "law" "law" sLaw f fd)
    (G1 : FnOk P w K mg base CX0 71 f1 d1 ["_law_script"] (spDeck K)) (b1 : Binds K d1 ["_law_script"] []) (g1 : mg "_law_deck" = some (.ref f1)) (k1 : PySem.W.keepIn K (.ref f1) = true)
    (G2 : FnOk P w K mg base CX0 71 f2 d2 ["_law_deck_here", "_law_many"] spNames) (b2 : Binds K d2 ["_law_deck_here", "_law_many"] []) (g2 : mg "_law_names" = some (.ref f2)) (k2 : PySem.W.keepIn K (.ref f2) = true)
    (G3 : FnOk P w K mg base CX0 71 f3 d3 ["_law_deck_here", "_law_many"] spDraw) (b3 : Binds K d3 ["_law_deck_here", "_law_many"] []) (g3 : mg "_law_draw" = some (.ref f3)) (k3 : PySem.W.keepIn K (.ref f3) = true)
    (G4 : FnOk P w K mg base CX0 71 f4 d4 ["_law_deck_here", "_law_words", "_law_unknowns_here"] spAny) (b4 : Binds K d4 ["_law_deck_here", "_law_words", "_law_unknowns_here"] []) (g4 : mg "_law_any_term" = some (.ref f4)) (k4 : PySem.W.keepIn K (.ref f4) = true)
    (G5 : GOk P w K mg base 71 f5 d5 ["_law_term_here"] spRight) (b5 : Binds K d5 ["_law_term_here"] []) (g5 : mg "_law_right" = some (.ref f5)) (k5 : PySem.W.keepIn K (.ref f5) = true)
    (G6 : FnOk P w K mg base CX0 71 f6 d6 ["_law_term_here"] (spUnks 62)) (b6 : Binds K d6 ["_law_term_here"] []) (g6 : mg "_law_unknowns" = some (.ref f6)) (k6 : PySem.W.keepIn K (.ref f6) = true)
    (G7 : FnOk P w K mg base CX0 71 f7 d7 psWith (spWith 62)) (b7 : Binds K d7 psWith []) (g7 : mg "_law_with" = some (.ref f7)) (k7 : PySem.W.keepIn K (.ref f7) = true)
    (G8 : FnOk P w K mg base CX0 71 f8 d8 ["term"] spIn) (b8 : Binds K d8 ["term"] []) (g8 : mg "unknowns_in" = some (.ref f8)) (k8 : PySem.W.keepIn K (.ref f8) = true)
    (G9 : FnOk P w K mg base CX0 71 f9 d9 ["_law_deck_here", "_law_words"] spGreat) (b9 : Binds K d9 ["_law_deck_here", "_law_words"] []) (g9 : mg "_law_great_ground" = some (.ref f9)) (k9 : PySem.W.keepIn K (.ref f9) = true)
    (mr : mg "range" = none) (ml : mg "list" = none) : GOk P w K mg base 72 f fd ["_law_script"] (spLaw K) := by
  refine gok_of F scLaw (fun vs H Q E h => ?_) (fun cdv A outer s H vs Q E g0 hr h => ?_)
  · obtain ⟨a, ns, rfl, _⟩ := h
    rfl
  · obtain ⟨a, ns, rfl, hS, q⟩ := h
    refine ⟨_, pss_cons (ps_set (i := 1) scLaw.nd rfl (.inl rfl) (pe_call G1 hr (by rfl) g1 k1 b1 .nil pass0 (pa_cons (pv 0) pa_nil)))
      (pss_cons (ps_set (i := 2) scLaw.nd rfl (.inl rfl) (pe_call G2 hr (by rfl) g2 k2 b2 .nil pass0 (pa_cons (pv 1) (pa_cons pe_int pa_nil))))
      (pss_cons (ps_for PassesOwn.never rfl (pi_range1 (by rfl) mr (pa_cons pe_int pa_nil)) (pg_name (i := 3) scLaw.nd rfl (Or.inl rfl))
        (pss_cons (ps_set (i := 4) scLaw.nd rfl (.inl rfl) (pe_ix ix_list (pe_lst (pa_cons (pe_lst (pa_cons pe_int (pa_cons pe_int (pa_cons pe_int pa_nil)))) (pa_cons (pe_lst (pa_cons pe_int (pa_cons pe_int (pa_cons pe_int (pa_cons pe_int (pa_cons pe_int (pa_cons pe_int pa_nil)))))))
            (pa_cons (pe_lst pa_nil) (pa_cons (pe_lst (pa_cons pe_int pa_nil)) pa_nil))))) (pe_call G3 hr (by rfl) g3 k3 b3 .nil pass0 (pa_cons (pv 1) (pa_cons pe_int pa_nil))) (fun _ _ => rfl)))
        (pss_cons (ps_set (i := 5) scLaw.nd rfl (.inl rfl) (pe_call G4 hr (by rfl) g4 k4 b4 .nil pass0 (pa_cons (pv 1) (pa_cons (pv 2) (pa_cons (pv 4) pa_nil)))))
        (pss_cons (ps_if (pt_not (pt_val (pe_gcall G5 g0 hr (by rfl) g5 k5 b5 (pa_cons (pv 5) pa_nil)))) (pss_one (ps_ret pe_bl)) pss_nil)
        (pss_cons (ps_set (i := 6) scLaw.nd rfl (.inl rfl) (pe_call G6 hr (by rfl) g6 k6 b6 .nil pass0 (pa_cons (pv 5) pa_nil)))
        (pss_cons (ps_for PassesOwn.never rfl (pi_list (pe_slice sl_list (pv 6) po_none (po_some pe_int))) (pg_name (i := 7) scLaw.nd rfl (Or.inr rfl))
          (pss_cons (ps_set (i := 8) scLaw.nd rfl (.inl rfl) (pe_call G7 hr (by rfl) g7 k7 b7 .nil pass0 (pa_cons (pv 5) (pa_cons (pv 7) (pa_cons (pe_ix ix_list (pv 2) pe_int (fun _ _ => rfl)) pa_nil)))))
          (pss_cons (ps_setLc (i := 9) (own := [("_law_one", 10)]) (g := gName 10) rfl scLaw.nd rfl rfl (sw_true rfl rfl rfl (by decide +kernel)) (pi_list (pv 6)) (blkOk_by (own := [("_law_one", 10)]) (N := nLaw) (sc := defScope sLaw) (by decide +kernel))
            (fun _ _ _ _ _ => pg_name (i := 10) scLaw.nd rfl (Or.inl rfl)) (fun _ _ _ _ _ => pts_one (pt_cmpR op_ne (pv 10) (pv 7) (nomark _))) (fun _ _ _ _ _ => pv 10))
          (pss_one (ps_if (PW.pt (pw_or (pt_not (pt_val (pe_gcall G5 g0 hr (by rfl) g5 k5 b5 (pa_cons (pv 8) pa_nil))))
            (pw_or1 (pt_cmpR (op_neD hr.units) (pe_callTy call_list_of (by rfl) ml (by decide +kernel) (pa_cons (pe_call G8 hr (by rfl) g8 k8 b8 .nil pass0 (pa_cons (pv 8) pa_nil)) pa_nil)) (pv 9) (nomark _))))) (pss_one (ps_ret pe_bl)) pss_nil)))))
        (pss_one (ps_if (PW.pt (pw_or (pt_not (pt_val (pe_gcall G5 g0 hr (by rfl) g5 k5 b5 (pa_cons (pe_tup (pa_cons (pv 5) (pa_cons (pe_tup (pa_cons pe_str (pa_cons pe_int pa_nil))) pa_nil))) pa_nil))))
          (pw_or1 (pt_not (pt_val (pe_gcall G5 g0 hr (by rfl) g5 k5 b5 (pa_cons (pe_tup (pa_cons (pe_tup (pa_cons pe_str (pa_cons pe_int pa_nil))) (pa_cons (pv 5) pa_nil))) pa_nil))))))) (pss_one (ps_ret pe_bl)) pss_nil))))))))
      (pss_cons (ps_for PassesOwn.never rfl (pi_range1 (by rfl) mr (pa_cons pe_int pa_nil)) (pg_name (i := 3) scLaw.nd rfl (Or.inl rfl))
        (pss_one (ps_if (pt_not (pt_val (pe_gcall G5 g0 hr (by rfl) g5 k5 b5 (pa_cons (pe_call G9 hr (by rfl) g9 k9 b9 .nil pass0 (pa_cons (pv 1) (pa_cons (pv 2) pa_nil))) pa_nil)))) (pss_one (ps_ret pe_bl)) pss_nil)))
      (pss_one (ps_ret pe_bl))))), ?_⟩
    refine ⟨.ref a, rfl, a, ns, rfl, hS, fun H1 d c s1 nd nc hD => ?_⟩
    refine ⟨.ref d, rfl, d, c, 3, rfl, hD, by decide, fun H2 wl zs hD2 kp2 nw w1 w2 hw zl zw => ?_⟩
    have W2 : Wds H2 d c wl zs := ⟨hw, w1, w2, zw, zl⟩
    refine ⟨8, rfl, by decide, by decide, ?_⟩
    refine for_range (lo := 0) (n := 8) (fun i σ H' => ∃ (y3 y4 y5 y6 y7 y8 y9 y10 : Option V), σ = [some (.ref a), some (.ref d), some (.ref wl), y3, y4, y5, y6, y7, y8, y9, y10] ∧ Dk H' d c ∧ Wds H' d c wl zs) ⟨none, none, none, none, none, none, none, none, rfl, hD2, W2⟩ (fun i σ H3 hi h3 => ?_) (fun σ H3 h3 => ?_)
    · obtain ⟨y3, y4, y5, y6, y7, y8, y9, y10, rfl, hD3, W3⟩ := h3
      refine ⟨(by show 3 ≤ sizeLine; decide), fun l1 n1 => ⟨(by show 6 ≤ sizeLine; decide), fun l2 n2 => ⟨Nat.zero_le _, fun l3 n3 => ⟨(by show 1 ≤ sizeLine; decide), fun l4 n4 => ⟨(by show 4 ≤ sizeLine; decide), fun l5 n5 => ?_⟩⟩⟩⟩⟩
      have t1 := same_upd (o := .lst (([0, 1, 2] : List Int).map V.int)) n1
      have t2 := same_upd (o := .lst (([3, 0, 99, 10, 999, 100] : List Int).map V.int)) n2
      have t3 := same_upd (o := .lst (([] : List Int).map V.int)) n3
      have t4 := same_upd (o := .lst (([7] : List Int).map V.int)) n4
      have t5 := same_upd (o := .lst [.ref l1, .ref l2, .ref l3, .ref l4]) n5
      have t35 := t3.trans (t4.trans t5)
      have t25 := t2.trans t35
      have t15 := t1.trans t25
      have u1 := t25 _ _ (upd_same (a := l1))
      have u2 := t35 _ _ (upd_same (a := l2))
      have u3 := (t4.trans t5) _ _ (upd_same (a := l3))
      have u4 := t5 _ _ (upd_same (a := l4))
      have a1 := hD3.ne1 n1
      have a2 := hD3.ne2 n1
      have b1 := (hD3.same t1).ne1 n2
      have b2 := (hD3.same t1).ne2 n2
      have c1 := (hD3.same (t1.trans t2)).ne1 n3
      have c2 := (hD3.same (t1.trans t2)).ne2 n3
      have e1 := (hD3.same (t1.trans (t2.trans t3))).ne1 n4
      have e2 := (hD3.same (t1.trans (t2.trans t3))).ne2 n4
      have f1 := (hD3.same (t1.trans (t2.trans (t3.trans t4)))).ne1 n5
      have f2 := (hD3.same (t1.trans (t2.trans (t3.trans t4)))).ne2 n5
      refine ⟨.ref d, rfl, d, c, 4, rfl, hD3.same t15, by decide, by decide, fun H4 r hD4 kp4 r0 r1 => ?_⟩
      obtain ⟨v, hv, ev⟩ := item_at (xs := [V.ref l1, .ref l2, .ref l3, .ref l4]) r0 r1
      have v1 := kp4 _ _ a1 a2 u1
      have v2 := kp4 _ _ b1 b2 u2
      have v3 := kp4 _ _ c1 c2 u3
      have v4 := kp4 _ _ e1 e2 u4
      have W4 := (W3.same t15).keep kp4
      obtain ⟨ul, us, rfl, S4⟩ : ∃ ul us, v = .ref ul ∧ Src H4 d c wl ul zs us := by
        simp only [List.mem_cons, List.not_mem_nil, or_false] at hv
        rcases hv with rfl | rfl | rfl | rfl
        · exact ⟨l1, [0, 1, 2], rfl, W4.src (us := [0, 1, 2]) v1 a1 a2 (by decide) (by decide)⟩
        · exact ⟨l2, [3, 0, 99, 10, 999, 100], rfl, W4.src (us := [3, 0, 99, 10, 999, 100]) v2 b1 b2 (by decide) (by decide)⟩
        · exact ⟨l3, [], rfl, W4.src (us := []) v3 c1 c2 (by decide) (by decide)⟩
        · exact ⟨l4, [7], rfl, W4.src (us := [7]) v4 e1 e2 (by decide) (by decide)⟩
      refine ⟨l5, _, r, _, rfl, rfl, .inl (.inl (kp4 _ _ f1 f2 upd_same)), ev, ?_⟩
      refine ⟨.ref d, rfl, .ref wl, rfl, .ref ul, rfl, d, c, wl, ul, zs, us, rfl, hD4, S4, fun H5 x t hD5 kp5 hx ok dp sz => ?_⟩
      have W5 := W4.keep kp5
      refine ⟨x, rfl, x, t, rfl, hx, ok, by omega, by omega, fun H6 s6 => ⟨true, rfl, iteF ?_⟩⟩
      refine ⟨x, rfl, x, t, rfl, hx.keep (sameTup s6), ok, by omega, by decide, by omega, fun H7 l s7 nl hl => ?_⟩
      refine ⟨.ref l, rfl, 3, rfl, l, _, rfl, .inl (.inl hl), fun p np => ?_⟩
      rw [show (3 : Int) = ((3 : Nat) : Int) from rfl, cutTo, ← List.map_take]
      have s8 : Same H7 (upd H7 p (.lst ((t.dd.take 3).map V.int))) := same_upd np
      have hp8 : upd H7 p (.lst ((t.dd.take 3).map V.int)) p = some (.lst ((t.dd.take 3).map V.int)) := upd_same
      have s58 := s6.trans (s7.trans s8)
      have hl8 := s8 _ _ hl
      generalize upd H7 p (.lst ((t.dd.take 3).map V.int)) = H8 at *
      have hx8 := hx.keep (sameTup s58)
      have W8 := W5.same s58
      have z3 : (zs.map V.str).length = 3 := by rw [List.length_map, W8.zl]
      obtain ⟨v0, hv0, ev0⟩ := item_at (xs := zs.map V.str) (i := 0) (by decide) (by rw [z3]; decide)
      obtain ⟨z0, hz0, rfl⟩ := List.mem_map.mp hv0
      have wz := W8.wd z0 hz0
      have ld := dd_len t
      refine ⟨p, rfl, ⟨_, .inl (.inl hp8)⟩, ?_⟩
      refine for_list (K := K) (a := p) (xs := (t.dd.take 3).map V.int) (fun j σ H' => ∃ (y7 y8 y9 y10 : Option V), σ = [some (.ref a), some (.ref d), some (.ref wl), some (.int (0 + (i : Int))), some (.ref ul), some x, some (.ref l), y7, y8, y9, y10] ∧ Same H8 H') ⟨_, _, _, _, rfl, Same.refl _⟩ (fun j σ H' _ h => ?_) (fun j v σ H' hv' h => ?_) (fun σ H' h => ?_)
      · obtain ⟨_, _, _, _, _, sm⟩ := h
        exact .inl (.inl (sm _ _ hp8))
      · obtain ⟨y7, y8, y9, y10, rfl, sm⟩ := h
        obtain ⟨n, hn, rfl⟩ := int_of hv'
        refine ⟨x, rfl, .int n, rfl, .ref wl, rfl, wl, _, 0, _, rfl, rfl, .inl (.inl (sm _ _ W8.w)), ev0, x, t, n, z0, rfl, hx8.keep (sameTup sm), ok, by omega, by decide, fun H9 y s9 hy => ?_⟩
        have hl9 := s9 _ _ (sm _ _ hl8)
        refine ⟨.ref l, rfl, l, rfl, ⟨_, .inl (.inl hl9)⟩, fun D nD => ?_⟩
        refine lc_list (K := K) (a := l) (xs := t.dd.map V.int) (fun j H' => Same H9 H' ∧ H' D = some (.lst (((t.dd.take j).filter fun m => decide (m ≠ n)).map V.int))) ⟨same_upd nD, upd_same⟩ (fun j H' _ h => .inl (.inl (h.1 _ _ hl9))) (fun j v2 H10 hv2 h => ?_) (fun H10 h => ?_)
        · obtain ⟨s10, e10⟩ := h
          obtain ⟨m, hm, rfl⟩ := int_of hv2
          refine ⟨rfl, _, rfl, _, rfl, rfl, _, rfl, ?_⟩
          by_cases hmn : m = n
          · subst hmn
            refine iteNS rfl ⟨s10, ?_⟩
            rw [ne_take hm, if_pos rfl]
            exact e10
          · refine ite2 (fun _ => ?_) (fun e => absurd (by rw [decide_eq_false (fun z => hmn (V.int.inj z))]; rfl) e)
            refine ⟨_, rfl, _, e10, ?_, ?_, ?_⟩
            · rw [List.length_map]
              have o1 : ((t.dd.take j).filter fun m => decide (m ≠ n)).length ≤ (t.dd.take j).length := List.length_filter_le ..
              have o2 : (t.dd.take j).length ≤ t.dd.length := by
                rw [List.length_take]
                omega
              exact Nat.lt_of_le_of_lt (show _ ≤ 100000 by omega) (by decide)
            · intro b' o e
              by_cases hb : b' = D
              · rw [hb, nD] at e
                cases e
              · rw [upd_ne hb]
                exact s10 _ _ e
            · rw [upd_same, ne_take hm, if_neg hmn, List.map_append]
              rfl
        · obtain ⟨s10, e10⟩ := h
          rw [List.length_map, List.take_length, ← sub_dd (z := z0)] at e10
          have hy10 := hy.keep (sameTup s10)
          have so := sub_ok (m := n) wz ok
          have sd := sub_depth (m := n) (z := z0) t
          have ss := sub_size (m := n) (z := z0) t
          refine ⟨y, rfl, y, t.sub n z0, rfl, hy10, so, by omega, by omega, fun H11 s11 => ⟨true, rfl, iteF ?_⟩⟩
          refine ⟨y, rfl, y, t.sub n z0, rfl, hy10.keep (sameTup s11), ⟨so, by omega⟩, by omega, fun H12 p12 s12 hp12 => ?_⟩
          rw [uniq_dd] at hp12
          refine ⟨p12, _, rfl, .inr (.inl (.inl hp12)), fun l13 nl13 => ?_⟩
          have s13 := same_upd (o := .lst ((t.sub n z0).dd.map V.int)) nl13
          have e13 := s13 _ _ (s12 _ _ (s11 _ _ e10))
          refine ⟨.ref D, rfl, .list ((t.sub n z0).dd.map .int), .list ((t.sub n z0).dd.map .int), .lst (.inl (.inl upd_same)) (dpInts _), .lst (.inl (.inl e13)) (dpInts _), shpL _, shpL _, _, rfl, ?_⟩
          rw [eqvL, decide_eq_true rfl]
          exact iteF ⟨_, _, _, _, rfl, sm.trans (s9.trans (s10.trans (s11.trans (s12.trans s13))))⟩
      · obtain ⟨y7, y8, y9, y10, rfl, sm⟩ := h
        have hx9 := hx8.keep (sameTup sm)
        refine ⟨x, rfl, (by show 2 ≤ sizeLine; decide), fun q1 nq1 => ⟨(by show 2 ≤ sizeLine; decide), fun q2 nq2 => ?_⟩⟩
        have w1 : Same H' (upd H' q1 (.tup [.str "?", .int 5])) := same_upd nq1
        have w2 : Same (upd H' q1 (.tup [.str "?", .int 5])) (upd (upd H' q1 (.tup [.str "?", .int 5])) q2 (.tup [x, .ref q1])) := same_upd nq2
        have hu5 : (Tm.unk 5).ok := ⟨by decide, by decide⟩
        refine ⟨.ref q2, .pair t (.unk 5), rfl, .pair upd_same (hx9.keep (sameTup (w1.trans w2))) (.unk (w2 _ _ upd_same)), ⟨ok, hu5⟩, ?_, ?_, fun H14 s14 => ⟨true, rfl, iteF ?_⟩⟩
        · show max t.depth 1 + 1 ≤ 62
          omega
        · show t.size + 1 + 1 ≤ 1000
          omega
        have w3 := sm.trans (w1.trans (w2.trans s14))
        refine ⟨(by show 2 ≤ sizeLine; decide), fun q3 nq3 => ⟨x, rfl, (by show 2 ≤ sizeLine; decide), fun q4 nq4 => ?_⟩⟩
        have w4 : Same H14 (upd H14 q3 (.tup [.str "?", .int 5])) := same_upd nq3
        have w5 : Same (upd H14 q3 (.tup [.str "?", .int 5])) (upd (upd H14 q3 (.tup [.str "?", .int 5])) q4 (.tup [.ref q3, x])) := same_upd nq4
        refine ⟨.ref q4, .pair (.unk 5) t, rfl, .pair upd_same (.unk (w5 _ _ upd_same)) (hx8.keep (sameTup (w3.trans (w4.trans w5)))), ⟨hu5, ok⟩, ?_, ?_, fun H15 s15 => ⟨true, rfl, iteF ?_⟩⟩
        · show max 1 t.depth + 1 ≤ 62
          omega
        · show 1 + t.size + 1 ≤ 1000
          omega
        have w6 := s58.trans (w3.trans (w4.trans (w5.trans s15)))
        exact ⟨_, _, _, _, _, _, _, _, rfl, hD5.same w6, W5.same w6⟩
    · obtain ⟨y3, y4, y5, y6, y7, y8, y9, y10, rfl, hD3, W3⟩ := h3
      refine ⟨2, rfl, by decide, by decide, ?_⟩
      refine for_range (lo := 0) (n := 2) (fun i σ H' => ∃ (y3 y4 y5 y6 y7 y8 y9 y10 : Option V), σ = [some (.ref a), some (.ref d), some (.ref wl), y3, y4, y5, y6, y7, y8, y9, y10] ∧ Dk H' d c ∧ Wds H' d c wl zs) ⟨_, _, _, _, _, _, _, _, rfl, hD3, W3⟩ (fun i σ H4 hi h4 => ?_) (fun σ H4 h4 => ?_)
      · obtain ⟨y3, y4, y5, y6, y7, y8, y9, y10, rfl, hD4, W4⟩ := h4
        refine ⟨.ref d, rfl, .ref wl, rfl, d, c, wl, zs, rfl, hD4, W4, fun H5 x t hD5 kp5 hx ok dp sz => ?_⟩
        refine ⟨x, t, rfl, hx, ok, by omega, by omega, fun H6 s6 => ⟨true, rfl, iteF ?_⟩⟩
        exact ⟨_, _, _, _, _, _, _, _, rfl, hD5.same s6, (W4.keep kp5).same s6⟩
      · exact q H4
end
end Ksec

set_option Elab.async false
set_option linter.all false
set_option maxRecDepth 100000
set_option maxHeartbeats 8000000
namespace Ksec
open PySem PySem.Spec PyProof.Rows L2
theorem all_mk {l : PySem.W.OpenLaw} {w : World} {K : PySem.W.Frag} {h : Heap} {mg : Str → Option Value} {fa : Addr} (X : K.In h) (G : h.Ns mainGlobals mg) (hfa : mg "law" = some (.ref fa))
    {f1 : Addr} {od1 an1 : Option Addr} {sl1 : Array (Option Value)} {oc1 kV1 dc1 pm1 cd1 ct1 : Value} (a1 : PySem.W.nsIn K mainGlobals "is_whole" = some (some (.ref f1)))
    (l1 : K.lookup f1 = some ⟨oc1, od1, .func (PySem.W.fnOf "is_whole" "is_whole" (defArgs Kq.s_is_whole) (defBody Kq.s_is_whole) (defScope Kq.s_is_whole) .none kV1 dc1 pm1 an1 cd1 ct1), sl1⟩) (c1 : PySem.W.codeIn K cd1 "is_whole" = true) (k1 : PySem.W.keepIn K (.ref f1) = true)
    {f2 : Addr} {od2 an2 : Option Addr} {sl2 : Array (Option Value)} {oc2 kV2 dc2 pm2 cd2 ct2 : Value} (a2 : PySem.W.nsIn K mainGlobals "is_marked" = some (some (.ref f2)))
    (l2 : K.lookup f2 = some ⟨oc2, od2, .func (PySem.W.fnOf "is_marked" "is_marked" (defArgs Kq.s_is_marked) (defBody Kq.s_is_marked) (defScope Kq.s_is_marked) .none kV2 dc2 pm2 an2 cd2 ct2), sl2⟩) (c2 : PySem.W.codeIn K cd2 "is_marked" = true) (k2 : PySem.W.keepIn K (.ref f2) = true)
    {f3 : Addr} {od3 an3 : Option Addr} {sl3 : Array (Option Value)} {oc3 kV3 dc3 pm3 cd3 ct3 : Value} (a3 : PySem.W.nsIn K mainGlobals "is_unknown" = some (some (.ref f3)))
    (l3 : K.lookup f3 = some ⟨oc3, od3, .func (PySem.W.fnOf "is_unknown" "is_unknown" (defArgs Kq.s_is_unknown) (defBody Kq.s_is_unknown) (defScope Kq.s_is_unknown) .none kV3 dc3 pm3 an3 cd3 ct3), sl3⟩) (c3 : PySem.W.codeIn K cd3 "is_unknown" = true) (k3 : PySem.W.keepIn K (.ref f3) = true)
    {f4 : Addr} {od4 an4 : Option Addr} {sl4 : Array (Option Value)} {oc4 kV4 dc4 pm4 cd4 ct4 : Value} (a4 : PySem.W.nsIn K mainGlobals "is_pair" = some (some (.ref f4)))
    (l4 : K.lookup f4 = some ⟨oc4, od4, .func (PySem.W.fnOf "is_pair" "is_pair" (defArgs Kq.s_is_pair) (defBody Kq.s_is_pair) (defScope Kq.s_is_pair) .none kV4 dc4 pm4 an4 cd4 ct4), sl4⟩) (c4 : PySem.W.codeIn K cd4 "is_pair" = true) (k4 : PySem.W.keepIn K (.ref f4) = true)
    {f5 : Addr} {od5 an5 : Option Addr} {sl5 : Array (Option Value)} {oc5 kV5 dc5 pm5 cd5 ct5 : Value} (a5 : PySem.W.nsIn K mainGlobals "is_ground" = some (some (.ref f5)))
    (l5 : K.lookup f5 = some ⟨oc5, od5, .func (PySem.W.fnOf "is_ground" "is_ground" (defArgs Kq.s_is_ground) (defBody Kq.s_is_ground) (defScope Kq.s_is_ground) .none kV5 dc5 pm5 an5 cd5 ct5), sl5⟩) (c5 : PySem.W.codeIn K cd5 "is_ground" = true) (k5 : PySem.W.keepIn K (.ref f5) = true)
    {f6 : Addr} {od6 an6 : Option Addr} {sl6 : Array (Option Value)} {oc6 kV6 dc6 pm6 cd6 ct6 : Value} (a6 : PySem.W.nsIn K mainGlobals "leaves_of" = some (some (.ref f6)))
    (l6 : K.lookup f6 = some ⟨oc6, od6, .func (PySem.W.fnOf "leaves_of" "leaves_of" (defArgs Kq.s_leaves_of) (defBody Kq.s_leaves_of) (defScope Kq.s_leaves_of) .none kV6 dc6 pm6 an6 cd6 ct6), sl6⟩) (c6 : PySem.W.codeIn K cd6 "leaves_of" = true) (k6 : PySem.W.keepIn K (.ref f6) = true)
    {f7 : Addr} {od7 an7 : Option Addr} {sl7 : Array (Option Value)} {oc7 kV7 dc7 pm7 cd7 ct7 : Value} (a7 : PySem.W.nsIn K mainGlobals "unknowns_in" = some (some (.ref f7)))
    (l7 : K.lookup f7 = some ⟨oc7, od7, .func (PySem.W.fnOf "unknowns_in" "unknowns_in" (defArgs Kq.s_unknowns_in) (defBody Kq.s_unknowns_in) (defScope Kq.s_unknowns_in) .none kV7 dc7 pm7 an7 cd7 ct7), sl7⟩) (c7 : PySem.W.codeIn K cd7 "unknowns_in" = true) (k7 : PySem.W.keepIn K (.ref f7) = true)
    {f8 : Addr} {od8 an8 : Option Addr} {sl8 : Array (Option Value)} {oc8 kV8 dc8 pm8 cd8 ct8 : Value} (a8 : PySem.W.nsIn K mainGlobals "unknowns_of" = some (some (.ref f8)))
    (l8 : K.lookup f8 = some ⟨oc8, od8, .func (PySem.W.fnOf "unknowns_of" "unknowns_of" (defArgs Kq.s_unknowns_of) (defBody Kq.s_unknowns_of) (defScope Kq.s_unknowns_of) .none kV8 dc8 pm8 an8 cd8 ct8), sl8⟩) (c8 : PySem.W.codeIn K cd8 "unknowns_of" = true) (k8 : PySem.W.keepIn K (.ref f8) = true)
    {f9 : Addr} {od9 an9 : Option Addr} {sl9 : Array (Option Value)} {oc9 kV9 dc9 pm9 cd9 ct9 : Value} (a9 : PySem.W.nsIn K mainGlobals "_law_deck" = some (some (.ref f9)))
    (l9 : K.lookup f9 = some ⟨oc9, od9, .func (PySem.W.fnOf "_law_deck" "_law_deck" (defArgs sDeck) (defBody sDeck) (defScope sDeck) .none kV9 dc9 pm9 an9 cd9 ct9), sl9⟩) (c9 : PySem.W.codeIn K cd9 "_law_deck" = true) (k9 : PySem.W.keepIn K (.ref f9) = true)
    {f10 : Addr} {od10 an10 : Option Addr} {sl10 : Array (Option Value)} {oc10 kV10 dc10 pm10 cd10 ct10 : Value} (a10 : PySem.W.nsIn K mainGlobals "_law_draw" = some (some (.ref f10)))
    (l10 : K.lookup f10 = some ⟨oc10, od10, .func (PySem.W.fnOf "_law_draw" "_law_draw" (defArgs sDraw) (defBody sDraw) (defScope sDraw) .none kV10 dc10 pm10 an10 cd10 ct10), sl10⟩) (c10 : PySem.W.codeIn K cd10 "_law_draw" = true) (k10 : PySem.W.keepIn K (.ref f10) = true)
    {f11 : Addr} {od11 an11 : Option Addr} {sl11 : Array (Option Value)} {oc11 kV11 dc11 pm11 cd11 ct11 : Value} (a11 : PySem.W.nsIn K mainGlobals "_law_names" = some (some (.ref f11)))
    (l11 : K.lookup f11 = some ⟨oc11, od11, .func (PySem.W.fnOf "_law_names" "_law_names" (defArgs sNames) (defBody sNames) (defScope sNames) .none kV11 dc11 pm11 an11 cd11 ct11), sl11⟩) (c11 : PySem.W.codeIn K cd11 "_law_names" = true) (k11 : PySem.W.keepIn K (.ref f11) = true)
    {f12 : Addr} {od12 an12 : Option Addr} {sl12 : Array (Option Value)} {oc12 kV12 dc12 pm12 cd12 ct12 : Value} (a12 : PySem.W.nsIn K mainGlobals "_law_number" = some (some (.ref f12)))
    (l12 : K.lookup f12 = some ⟨oc12, od12, .func (PySem.W.fnOf "_law_number" "_law_number" (defArgs sNumber) (defBody sNumber) (defScope sNumber) .none kV12 dc12 pm12 an12 cd12 ct12), sl12⟩) (c12 : PySem.W.codeIn K cd12 "_law_number" = true) (k12 : PySem.W.keepIn K (.ref f12) = true)
    {f13 : Addr} {od13 an13 : Option Addr} {sl13 : Array (Option Value)} {oc13 kV13 dc13 pm13 cd13 ct13 : Value} (a13 : PySem.W.nsIn K mainGlobals "_law_tip" = some (some (.ref f13)))
    (l13 : K.lookup f13 = some ⟨oc13, od13, .func (PySem.W.fnOf "_law_tip" "_law_tip" (defArgs sTip) (defBody sTip) (defScope sTip) .none kV13 dc13 pm13 an13 cd13 ct13), sl13⟩) (c13 : PySem.W.codeIn K cd13 "_law_tip" = true) (k13 : PySem.W.keepIn K (.ref f13) = true)
    {f14 : Addr} {od14 an14 : Option Addr} {sl14 : Array (Option Value)} {oc14 kV14 dc14 pm14 cd14 ct14 : Value} (a14 : PySem.W.nsIn K mainGlobals "_law_term" = some (some (.ref f14)))
    (l14 : K.lookup f14 = some ⟨oc14, od14, .func (PySem.W.fnOf "_law_term" "_law_term" (defArgs sTerm) (defBody sTerm) (defScope sTerm) .none kV14 dc14 pm14 an14 cd14 ct14), sl14⟩) (c14 : PySem.W.codeIn K cd14 "_law_term" = true) (k14 : PySem.W.keepIn K (.ref f14) = true)
    {f15 : Addr} {od15 an15 : Option Addr} {sl15 : Array (Option Value)} {oc15 kV15 dc15 pm15 cd15 ct15 : Value} (a15 : PySem.W.nsIn K mainGlobals "_law_any_term" = some (some (.ref f15)))
    (l15 : K.lookup f15 = some ⟨oc15, od15, .func (PySem.W.fnOf "_law_any_term" "_law_any_term" (defArgs sAny) (defBody sAny) (defScope sAny) .none kV15 dc15 pm15 an15 cd15 ct15), sl15⟩) (c15 : PySem.W.codeIn K cd15 "_law_any_term" = true) (k15 : PySem.W.keepIn K (.ref f15) = true)
    {f16 : Addr} {od16 an16 : Option Addr} {sl16 : Array (Option Value)} {oc16 kV16 dc16 pm16 cd16 ct16 : Value} (a16 : PySem.W.nsIn K mainGlobals "_law_unknowns" = some (some (.ref f16)))
    (l16 : K.lookup f16 = some ⟨oc16, od16, .func (PySem.W.fnOf "_law_unknowns" "_law_unknowns" (defArgs sUnks) (defBody sUnks) (defScope sUnks) .none kV16 dc16 pm16 an16 cd16 ct16), sl16⟩) (c16 : PySem.W.codeIn K cd16 "_law_unknowns" = true) (k16 : PySem.W.keepIn K (.ref f16) = true)
    {f17 : Addr} {od17 an17 : Option Addr} {sl17 : Array (Option Value)} {oc17 kV17 dc17 pm17 cd17 ct17 : Value} (a17 : PySem.W.nsIn K mainGlobals "_law_with" = some (some (.ref f17)))
    (l17 : K.lookup f17 = some ⟨oc17, od17, .func (PySem.W.fnOf "_law_with" "_law_with" (defArgs sWith) (defBody sWith) (defScope sWith) .none kV17 dc17 pm17 an17 cd17 ct17), sl17⟩) (c17 : PySem.W.codeIn K cd17 "_law_with" = true) (k17 : PySem.W.keepIn K (.ref f17) = true)
    {f18 : Addr} {od18 an18 : Option Addr} {sl18 : Array (Option Value)} {oc18 kV18 dc18 pm18 cd18 ct18 : Value} (a18 : PySem.W.nsIn K mainGlobals "_law_great_ground" = some (some (.ref f18)))
    (l18 : K.lookup f18 = some ⟨oc18, od18, .func (PySem.W.fnOf "_law_great_ground" "_law_great_ground" (defArgs sGreat) (defBody sGreat) (defScope sGreat) .none kV18 dc18 pm18 an18 cd18 ct18), sl18⟩) (c18 : PySem.W.codeIn K cd18 "_law_great_ground" = true) (k18 : PySem.W.keepIn K (.ref f18) = true)
    {f19 : Addr} {od19 an19 : Option Addr} {sl19 : Array (Option Value)} {oc19 kV19 dc19 pm19 cd19 ct19 : Value} (a19 : PySem.W.nsIn K mainGlobals "_law_right" = some (some (.ref f19)))
    (l19 : K.lookup f19 = some ⟨oc19, od19, .func (PySem.W.fnOf "_law_right" "_law_right" (defArgs sRight) (defBody sRight) (defScope sRight) .none kV19 dc19 pm19 an19 cd19 ct19), sl19⟩) (c19 : PySem.W.codeIn K cd19 "_law_right" = true) (k19 : PySem.W.keepIn K (.ref f19) = true)
    {f20 : Addr} {od20 an20 : Option Addr} {sl20 : Array (Option Value)} {oc20 kV20 dc20 pm20 cd20 ct20 : Value} (a20 : PySem.W.nsIn K mainGlobals "is_tuple_of" = some (some (.ref f20)))
    (l20 : K.lookup f20 = some ⟨oc20, od20, .func (PySem.W.fnOf "is_tuple_of" "is_tuple_of" (defArgs Kq.s_is_tuple_of) (defBody Kq.s_is_tuple_of) (defScope Kq.s_is_tuple_of) .none kV20 dc20 pm20 an20 cd20 ct20), sl20⟩) (c20 : PySem.W.codeIn K cd20 "is_tuple_of" = true) (k20 : PySem.W.keepIn K (.ref f20) = true)
    {f21 : Addr} {od21 an21 : Option Addr} {sl21 : Array (Option Value)} {oc21 kV21 dc21 pm21 cd21 ct21 : Value} (a21 : PySem.W.nsIn K mainGlobals "law" = some (some (.ref f21)))
    (l21 : K.lookup f21 = some ⟨oc21, od21, .func (PySem.W.fnOf "law" "law" (defArgs sLaw) (defBody sLaw) (defScope sLaw) .none kV21 dc21 pm21 an21 cd21 ct21), sl21⟩) (c21 : PySem.W.codeIn K cd21 "law" = true) (k21 : PySem.W.keepIn K (.ref f21) = true)
    (z_isinstance : PySem.W.nsIn K mainGlobals "isinstance" = some none)
    (z_int : PySem.W.nsIn K mainGlobals "int" = some none)
    (z_bool : PySem.W.nsIn K mainGlobals "bool" = some none)
    (z_str : PySem.W.nsIn K mainGlobals "str" = some none)
    (z_tuple : PySem.W.nsIn K mainGlobals "tuple" = some none)
    (z_list : PySem.W.nsIn K mainGlobals "list" = some none)
    (z_dict : PySem.W.nsIn K mainGlobals "dict" = some none)
    (z_set : PySem.W.nsIn K mainGlobals "set" = some none)
    (z_len : PySem.W.nsIn K mainGlobals "len" = some none)
    (z_all : PySem.W.nsIn K mainGlobals "all" = some none)
    (z_any : PySem.W.nsIn K mainGlobals "any" = some none)
    (z_sum : PySem.W.nsIn K mainGlobals "sum" = some none)
    (z_min : PySem.W.nsIn K mainGlobals "min" = some none)
    (z_max : PySem.W.nsIn K mainGlobals "max" = some none)
    (z_range : PySem.W.nsIn K mainGlobals "range" = some none)
    (z_zip : PySem.W.nsIn K mainGlobals "zip" = some none)
    (z_enumerate : PySem.W.nsIn K mainGlobals "enumerate" = some none)
    (z_reversed : PySem.W.nsIn K mainGlobals "reversed" = some none)
    (z_sorted : PySem.W.nsIn K mainGlobals "sorted" = some none)
    (z_repr : PySem.W.nsIn K mainGlobals "repr" = some none) :
    ∃ fd : FuncData, (∀ (s : Shared) (v : Value), BindsTo s fd ⟨[v], []⟩ [("_law_script", v)]) ∧ ∀ base : Heap, K.In base → base.Ns mainGlobals mg → GOk l.prog w K mg base 72 fa fd ["_law_script"] (spLaw K) := by
  cases hfa.symm.trans (PySem.W.mg_of X G a21)
  have F1 := fun_mk (st := Kq.s_is_whole) l1 c1 k1
  have b1 := F1.binds (ps := ["thing"]) fun _ _ _ _ _ _ us hl => match us, hl with | [_], _ => rfl
  have g1 := PySem.W.mg_of X G a1
  have F2 := fun_mk (st := Kq.s_is_marked) l2 c2 k2
  have b2 := F2.binds (ps := ["thing"]) fun _ _ _ _ _ _ us hl => match us, hl with | [_], _ => rfl
  have g2 := PySem.W.mg_of X G a2
  have F3 := fun_mk (st := Kq.s_is_unknown) l3 c3 k3
  have b3 := F3.binds (ps := ["thing"]) fun _ _ _ _ _ _ us hl => match us, hl with | [_], _ => rfl
  have g3 := PySem.W.mg_of X G a3
  have F4 := fun_mk (st := Kq.s_is_pair) l4 c4 k4
  have b4 := F4.binds (ps := ["thing"]) fun _ _ _ _ _ _ us hl => match us, hl with | [_], _ => rfl
  have g4 := PySem.W.mg_of X G a4
  have F5 := fun_mk (st := Kq.s_is_ground) l5 c5 k5
  have b5 := F5.binds (ps := ["term"]) fun _ _ _ _ _ _ us hl => match us, hl with | [_], _ => rfl
  have g5 := PySem.W.mg_of X G a5
  have F6 := fun_mk (st := Kq.s_leaves_of) l6 c6 k6
  have b6 := F6.binds (ps := ["things"]) fun _ _ _ _ _ _ us hl => match us, hl with | [_], _ => rfl
  have g6 := PySem.W.mg_of X G a6
  have F7 := fun_mk (st := Kq.s_unknowns_in) l7 c7 k7
  have b7 := F7.binds (ps := ["term"]) fun _ _ _ _ _ _ us hl => match us, hl with | [_], _ => rfl
  have g7 := PySem.W.mg_of X G a7
  have F8 := fun_mk (st := Kq.s_unknowns_of) l8 c8 k8
  have b8 := F8.binds (ps := ["terms"]) fun _ _ _ _ _ _ us hl => match us, hl with | [_], _ => rfl
  have g8 := PySem.W.mg_of X G a8
  have F9 := fun_mk (st := sDeck) l9 c9 k9
  have b9 := F9.binds (ps := ["_law_script"]) fun _ _ _ _ _ _ us hl => match us, hl with | [_], _ => rfl
  have g9 := PySem.W.mg_of X G a9
  have F10 := fun_mk (st := sDraw) l10 c10 k10
  have b10 := F10.binds (ps := ["_law_deck_here", "_law_many"]) fun _ _ _ _ _ _ us hl => match us, hl with | [_, _], _ => rfl
  have g10 := PySem.W.mg_of X G a10
  have F11 := fun_mk (st := sNames) l11 c11 k11
  have b11 := F11.binds (ps := ["_law_deck_here", "_law_many"]) fun _ _ _ _ _ _ us hl => match us, hl with | [_, _], _ => rfl
  have g11 := PySem.W.mg_of X G a11
  have F12 := fun_mk (st := sNumber) l12 c12 k12
  have b12 := F12.binds (ps := ["_law_deck_here"]) fun _ _ _ _ _ _ us hl => match us, hl with | [_], _ => rfl
  have g12 := PySem.W.mg_of X G a12
  have F13 := fun_mk (st := sTip) l13 c13 k13
  have b13 := F13.binds (ps := ["_law_deck_here", "_law_words", "_law_unknowns_here"]) fun _ _ _ _ _ _ us hl => match us, hl with | [_, _, _], _ => rfl
  have g13 := PySem.W.mg_of X G a13
  have F14 := fun_mk (st := sTerm) l14 c14 k14
  have b14 := F14.binds (ps := ["_law_deck_here", "_law_words", "_law_unknowns_here", "_law_deep", "_law_left"]) fun _ _ _ _ _ _ us hl => match us, hl with | [_, _, _, _, _], _ => rfl
  have g14 := PySem.W.mg_of X G a14
  have F15 := fun_mk (st := sAny) l15 c15 k15
  have b15 := F15.binds (ps := ["_law_deck_here", "_law_words", "_law_unknowns_here"]) fun _ _ _ _ _ _ us hl => match us, hl with | [_, _, _], _ => rfl
  have g15 := PySem.W.mg_of X G a15
  have F16 := fun_mk (st := sUnks) l16 c16 k16
  have b16 := F16.binds (ps := ["_law_term_here"]) fun _ _ _ _ _ _ us hl => match us, hl with | [_], _ => rfl
  have g16 := PySem.W.mg_of X G a16
  have F17 := fun_mk (st := sWith) l17 c17 k17
  have b17 := F17.binds (ps := ["_law_term_here", "_law_number_here", "_law_other"]) fun _ _ _ _ _ _ us hl => match us, hl with | [_, _, _], _ => rfl
  have g17 := PySem.W.mg_of X G a17
  have F18 := fun_mk (st := sGreat) l18 c18 k18
  have b18 := F18.binds (ps := ["_law_deck_here", "_law_words"]) fun _ _ _ _ _ _ us hl => match us, hl with | [_, _], _ => rfl
  have g18 := PySem.W.mg_of X G a18
  have F19 := fun_mk (st := sRight) l19 c19 k19
  have b19 := F19.binds (ps := ["_law_term_here"]) fun _ _ _ _ _ _ us hl => match us, hl with | [_], _ => rfl
  have g19 := PySem.W.mg_of X G a19
  have F20 := fun_mk (st := Kq.s_is_tuple_of) l20 c20 k20
  have b20 := F20.binds (ps := ["thing", "many"]) fun _ _ _ _ _ _ us hl => match us, hl with | [_, _], _ => rfl
  have g20 := PySem.W.mg_of X G a20
  have F21 := fun_mk (st := sLaw) l21 c21 k21
  have g21 := PySem.W.mg_of X G a21
  have m_isinstance := PySem.W.mg_none_of X G z_isinstance
  have m_int := PySem.W.mg_none_of X G z_int
  have m_bool := PySem.W.mg_none_of X G z_bool
  have m_str := PySem.W.mg_none_of X G z_str
  have m_tuple := PySem.W.mg_none_of X G z_tuple
  have m_list := PySem.W.mg_none_of X G z_list
  have m_dict := PySem.W.mg_none_of X G z_dict
  have m_set := PySem.W.mg_none_of X G z_set
  have m_len := PySem.W.mg_none_of X G z_len
  have m_all := PySem.W.mg_none_of X G z_all
  have m_any := PySem.W.mg_none_of X G z_any
  have m_sum := PySem.W.mg_none_of X G z_sum
  have m_min := PySem.W.mg_none_of X G z_min
  have m_max := PySem.W.mg_none_of X G z_max
  have m_range := PySem.W.mg_none_of X G z_range
  have m_zip := PySem.W.mg_none_of X G z_zip
  have m_enumerate := PySem.W.mg_none_of X G z_enumerate
  have m_reversed := PySem.W.mg_none_of X G z_reversed
  have m_sorted := PySem.W.mg_none_of X G z_sorted
  have m_repr := PySem.W.mg_none_of X G z_repr
  refine ⟨PySem.W.fnOf "law" "law" (defArgs sLaw) (defBody sLaw) (defScope sLaw) .none kV21 dc21 pm21 an21 cd21 ct21, fun s v => .of_eq rfl, fun base _ _ => ?_⟩
  have B : Kq.Bl mg := ⟨m_isinstance, m_int, m_bool, m_str, m_tuple, m_list, m_dict, m_set, m_len, m_all, m_any, m_sum, m_min, m_max, m_range, m_zip, m_enumerate, m_reversed, m_sorted, m_repr⟩
  have qWh := Kq.c_is_whole (P := l.prog) (w := w) (base := base) (n := 0) B ⟨_, _, F1, g1, b1⟩
  have qTo := Kq.c_is_tuple_of (P := l.prog) (w := w) (base := base) (n := 0) B ⟨_, _, F20, g20, b20⟩
  have qMk := Kq.c_is_marked (n := 1) B ⟨_, _, F2, g2, b2⟩ qTo
  have qPr := Kq.c_is_pair (n := 1) B ⟨_, _, F4, g4, b4⟩ qTo
  have qUk := Kq.c_is_unknown (n := 2) B ⟨_, _, F3, g3, b3⟩ qMk (qWh.mono (by decide))
  have qLs := Kq.c_leaves_of (n := 2) B ⟨_, _, F6, g6, b6⟩ qPr
  have qOf := Kq.c_unknowns_of (n := 3) B ⟨_, _, F8, g8, b8⟩ qLs qUk
  have qIn := Kq.c_unknowns_in (n := 4) B ⟨_, _, F7, g7, b7⟩ qOf
  have qGr := Kq.c_is_ground (n := 5) B ⟨_, _, F5, g5, b5⟩ qIn
  obtain ⟨fI, dI, hI, gI, kI, bI⟩ := (cal_in qIn).ex
  obtain ⟨fG, dG, hG, gG, kG, bG⟩ := (cal_ground qGr).ex
  have hDk : FnOk l.prog w K mg base CX0 1 f9 _ ["_law_script"] (spDeck K) := ok_deck (k := 0) F9 m_list m_sum
  have hD : FnOk l.prog w K mg base CX0 1 f10 _ ["_law_deck_here", "_law_many"] spDraw := ok_draw (k := 0) F10
  have hN : FnOk l.prog w K mg base CX0 2 f11 _ ["_law_deck_here", "_law_many"] spNames := ok_names (k := 0) F11 hD b10 g10 F10.kp m_range
  have hNu : FnOk l.prog w K mg base CX0 2 f12 _ ["_law_deck_here"] spNumber := ok_number (k := 0) F12 hD b10 g10 F10.kp
  have hT : FnOk l.prog w K mg base CX0 3 f13 _ ["_law_deck_here", "_law_words", "_law_unknowns_here"] spTip := ok_tip (k := 0) F13 hD b10 g10 F10.kp hNu b12 g12 F12.kp m_len
  have hR : ∀ n, FnOk l.prog w K mg base CX0 (0 + 4 + n) f14 _ psTerm (spTerm n) := ok_term (k := 0) F14 hD b10 g10 F10.kp hT b13 g13 F13.kp m_int b14 g14
  have hA : FnOk l.prog w K mg base CX0 34 f15 _ ["_law_deck_here", "_law_words", "_law_unknowns_here"] spAny := ok_any (k := 0) F15 hD b10 g10 F10.kp hT b13 g13 F13.kp hR b14 g14 F14.kp m_range
  have hUk : FnOk l.prog w K mg base CX0 63 f16 _ ["_law_term_here"] (spUnks 62) := ok_unks (k := 0) F16 m_isinstance m_tuple b16 g16 62
  have hW : FnOk l.prog w K mg base CX0 63 f17 _ psWith (spWith 62) := ok_with (k := 0) F17 m_isinstance m_tuple m_int b17 g17 62
  have hGr : FnOk l.prog w K mg base CX0 54 f18 _ ["_law_deck_here", "_law_words"] spGreat := ok_great (k := 0) F18 hD b10 g10 F10.kp hNu b12 g12 F12.kp hR b14 g14 F14.kp m_range
  have hRi : GOk l.prog w K mg base 71 f19 _ ["_law_term_here"] spRight := ok_right F19 (hUk.mono (by decide)) b16 g16 F16.kp (hI.mono (by decide)) bI gI kI (hG.mono (by decide)) bG gG kG m_repr m_tuple
  exact ok_law F21 (hDk.mono (by decide)) b9 g9 F9.kp (hN.mono (by decide)) b11 g11 F11.kp (hD.mono (by decide)) b10 g10 F10.kp (hA.mono (by decide)) b15 g15 F15.kp hRi b19 g19 F19.kp (hUk.mono (by decide)) b16 g16 F16.kp (hW.mono (by decide)) b17 g17 F17.kp
    (hI.mono (by decide)) bI gI kI (hGr.mono (by decide)) b18 g18 F18.kp m_range m_list
end Ksec

open PySem PySem.W PyProof.Rows
set_option Elab.async false
set_option maxRecDepth 100000 in
set_option maxHeartbeats 0 in
theorem PySem.Challenge.cw_fairsearch_k02_unknowns_and_ground_ones_holds : PySem.Challenge.rw_fairsearch_k02_unknowns_and_ground_ones.Holds := by
  w_on; o_law; k_head; (case hw => w_witness2)
  k_fill
  refine Ksec.gwalk (l := PySem.Challenge.rw_fairsearch_k02_unknowns_and_ground_ones) (n := 63) (k := 72) (x := "_law_script") (sp := Ksec.spLaw) rfl (by decide) rfl ⟨rfl, by decide, by decide⟩ (fun w h Y => PySem.W.kIn_of Y) ?F (fun _ _ a ns _ hS => ⟨a, ns, rfl, hS, fun _ => rfl⟩)
  case F =>
    intro w mg fa h KX G hmg
    refine' Ksec.all_mk KX G hmg ?a1 ?l1 ?c1 ?k1 ?a2 ?l2 ?c2 ?k2 ?a3 ?l3 ?c3 ?k3 ?a4 ?l4 ?c4 ?k4 ?a5 ?l5 ?c5 ?k5 ?a6 ?l6 ?c6 ?k6 ?a7 ?l7 ?c7 ?k7 ?a8 ?l8 ?c8 ?k8 ?a9 ?l9 ?c9 ?k9 ?a10 ?l10 ?c10 ?k10 ?a11 ?l11 ?c11 ?k11 ?a12 ?l12 ?c12 ?k12 ?a13 ?l13 ?c13 ?k13 ?a14 ?l14 ?c14 ?k14 ?a15 ?l15 ?c15 ?k15 ?a16 ?l16 ?c16 ?k16 ?a17 ?l17 ?c17 ?k17 ?a18 ?l18 ?c18 ?k18 ?a19 ?l19 ?c19 ?k19 ?a20 ?l20 ?c20 ?k20 ?a21 ?l21 ?c21 ?k21 ?z_isinstance ?z_int ?z_bool ?z_str ?z_tuple ?z_list ?z_dict ?z_set ?z_len ?z_all ?z_any ?z_sum ?z_min ?z_max ?z_range ?z_zip ?z_enumerate ?z_reversed ?z_sorted ?z_repr
    (case a1 => k_is)
    (case l1 => k_is)
    (case c1 => k_is)
    (case k1 => k_is)
    (case a2 => k_is)
    (case l2 => k_is)
    (case c2 => k_is)
    (case k2 => k_is)
    (case a3 => k_is)
    (case l3 => k_is)
    (case c3 => k_is)
    (case k3 => k_is)
    (case a4 => k_is)
    (case l4 => k_is)
    (case c4 => k_is)
    (case k4 => k_is)
    (case a5 => k_is)
    (case l5 => k_is)
    (case c5 => k_is)
    (case k5 => k_is)
    (case a6 => k_is)
    (case l6 => k_is)
    (case c6 => k_is)
    (case k6 => k_is)
    (case a7 => k_is)
    (case l7 => k_is)
    (case c7 => k_is)
    (case k7 => k_is)
    (case a8 => k_is)
    (case l8 => k_is)
    (case c8 => k_is)
    (case k8 => k_is)
    (case a9 => k_is)
    (case l9 => k_is)
    (case c9 => k_is)
    (case k9 => k_is)
    (case a10 => k_is)
    (case l10 => k_is)
    (case c10 => k_is)
    (case k10 => k_is)
    (case a11 => k_is)
    (case l11 => k_is)
    (case c11 => k_is)
    (case k11 => k_is)
    (case a12 => k_is)
    (case l12 => k_is)
    (case c12 => k_is)
    (case k12 => k_is)
    (case a13 => k_is)
    (case l13 => k_is)
    (case c13 => k_is)
    (case k13 => k_is)
    (case a14 => k_is)
    (case l14 => k_is)
    (case c14 => k_is)
    (case k14 => k_is)
    (case a15 => k_is)
    (case l15 => k_is)
    (case c15 => k_is)
    (case k15 => k_is)
    (case a16 => k_is)
    (case l16 => k_is)
    (case c16 => k_is)
    (case k16 => k_is)
    (case a17 => k_is)
    (case l17 => k_is)
    (case c17 => k_is)
    (case k17 => k_is)
    (case a18 => k_is)
    (case l18 => k_is)
    (case c18 => k_is)
    (case k18 => k_is)
    (case a19 => k_is)
    (case l19 => k_is)
    (case c19 => k_is)
    (case k19 => k_is)
    (case a20 => k_is)
    (case l20 => k_is)
    (case c20 => k_is)
    (case k20 => k_is)
    (case a21 => k_is)
    (case l21 => k_is)
    (case c21 => k_is)
    (case k21 => k_is)
    (case z_isinstance => k_is)
    (case z_int => k_is)
    (case z_bool => k_is)
    (case z_str => k_is)
    (case z_tuple => k_is)
    (case z_list => k_is)
    (case z_dict => k_is)
    (case z_set => k_is)
    (case z_len => k_is)
    (case z_all => k_is)
    (case z_any => k_is)
    (case z_sum => k_is)
    (case z_min => k_is)
    (case z_max => k_is)
    (case z_range => k_is)
    (case z_zip => k_is)
    (case z_enumerate => k_is)
    (case z_reversed => k_is)
    (case z_sorted => k_is)
    (case z_repr => k_is)

