import PyProof.Rows.All
import Wide.All
import OpenK.AllK
import Wide.FinOn
import HandS.ForMost
import HandS.IsInst
import HandS.Wide
import HandS.Flow
import HandS.More
import HandS.Rev
import HandS.Conv
import PyProof.ReprRoads
import HandS.Style
import HandS.TupAny
import HandS.DictComp
import HandS.Steps
import KE.KDictList
import PyProof.RowDictHeap
import PyProof.NeKinds
import HandS.TupMul
import HandS.TupLe
import HandS.Deep
import HandS.Text
import PyProof.Rows.IntBool
import HandS.SetKeys
import KE.GoesEnum
import HandS.Zip
import KE.KRevIter
import HandS.SetFor
import HandS.SortInts
import HandS.Strs
import HandS.ListItems
import HandS.Small
import PyProof.P3In
import HandS.NoneIn
import KE.KDictPairs
import KE.SortKeyHeap
import HandS.Lambda
import HandS.EndTab
import HandS.RaiseMore
import PySem.Challenge.RW_fairsearch_k11_what_is_a_filling
set_option Elab.async false
set_option linter.all false
set_option maxRecDepth 100000
set_option maxHeartbeats 4000000
namespace Kr
open PySem PySem.Spec PyProof.Rows L2
/-! plain data over the hand layer: what an expression is worth, without a heap -/
def keyD : Key → PyData
  | .inl i => .int i
  | .inr x => .str x
/-- a tuple that is known to its object, which has no dict -/
def Tp (H : Hp) (a : Addr) (xs : List V) : Prop := ∃ o, H a = some (.frz o (.tup xs)) ∧ o.dict = none
theorem Tp.sq {K : PySem.W.Frag} {H : Hp} {a : Addr} {xs : List V} (h : Tp H a xs) : SqT K H a xs := h.elim fun o e => .inl (.inr ⟨o, e.1⟩)
theorem Tp.upd {H : Hp} {a b : Addr} {xs : List V} {u o' : HO} (t : Tp H b xs) (h : H a = some u) (n : ∀ o, u ≠ .frz o (.tup xs)) : Tp (L2.upd H a o') b xs := t.elim fun o e => ⟨o, by rw [upd_ne (ne_of e.1 h fun z => n o z.symm)]; exact e.1, e.2⟩
theorem Tp.updN {H : Hp} {a b : Addr} {xs : List V} {o' : HO} (t : Tp H b xs) (h : H a = none) : Tp (L2.upd H a o') b xs := t.elim fun o e => ⟨o, by rw [upd_ne (ne_of_none e.1 h)]; exact e.1, e.2⟩
/-- what stands for ever: a tuple, or what is told of one object -/
inductive Fzd
  | tup (xs : List V)
  | ext (φ : Heap → Prop)
def TpX (H : Hp) (a : Addr) : Fzd → Prop
  | .tup xs => Tp H a xs
  | .ext φ => H a = some (.ext φ)
def FzO (u : HO) : Fzd → Prop
  | .tup xs => ∃ o, u = .frz o (.tup xs)
  | .ext φ => u = .ext φ
def FzK (H H' : Hp) : Prop := ∀ b x, TpX H b x → TpX H' b x
theorem TpX.upd {H : Hp} {a b : Addr} {x : Fzd} {u o' : HO} (t : TpX H b x) (h : H a = some u) (n : ¬ FzO u x) : TpX (L2.upd H a o') b x := by
  cases x with
  | tup xs => exact Tp.upd t h fun o z => n ⟨o, z⟩
  | ext φ =>
    have t : H b = some (.ext φ) := t
    show L2.upd H a o' b = some (.ext φ)
    rw [upd_ne (ne_of t h fun z => n z.symm)]
    exact t
theorem TpX.updN {H : Hp} {a b : Addr} {x : Fzd} {o' : HO} (t : TpX H b x) (h : H a = none) : TpX (L2.upd H a o') b x := by
  cases x with
  | tup xs => exact Tp.updN t h
  | ext φ =>
    have t : H b = some (.ext φ) := t
    show L2.upd H a o' b = some (.ext φ)
    rw [upd_ne (ne_of_none t h)]
    exact t
theorem fzLst {xs : List V} {x : Fzd} : ¬ FzO (.lst xs) x := by
  cases x
  · rintro ⟨o, z⟩
    cases z
  · intro z
    cases z
theorem fzDk {kvs : List (Key × V)} {x : Fzd} : ¬ FzO (.dK kvs) x := by
  cases x
  · rintro ⟨o, z⟩
    cases z
  · intro z
    cases z
theorem fzFd {od : Obj} {kvs : List (Key × V)} {x : Fzd} : ¬ FzO (.frz od (.dK kvs)) x := by
  cases x
  · rintro ⟨o, z⟩
    cases z
  · intro z
    cases z
theorem TpX.neq {H : Hp} {a b : Addr} {x : Fzd} {u : HO} (t : TpX H b x) (h : H a = some u) (n : ¬ FzO u x) : b ≠ a := fun z => by
  subst z
  cases x with
  | tup xs =>
    obtain ⟨o, e, _⟩ := t
    rw [h] at e
    exact n ⟨o, Option.some.inj e⟩
  | ext φ =>
    have t : H b = some (.ext φ) := t
    rw [h] at t
    exact n (Option.some.inj t)
theorem TpX.ne {H : Hp} {a b : Addr} {x : Fzd} {o' : HO} (t : TpX H b x) (h : b ≠ a) : TpX (L2.upd H a o') b x := by
  cases x with
  | tup xs => exact t.elim fun o e => ⟨o, by rw [upd_ne h]; exact e.1, e.2⟩
  | ext φ =>
    show L2.upd H a o' b = some (.ext φ)
    rw [upd_ne h]
    exact t
theorem TpX.cut {H H' : Hp} {a b : Addr} {x : Fzd} {u : HO} (t : TpX H b x) (h : H a = some u) (n : ¬ FzO u x) (e : ∀ c, c ≠ a → H' c = H c) : TpX H' b x := by
  have q := e b (t.neq h n)
  cases x with
  | tup xs => exact t.elim fun o z => ⟨o, q.trans z.1, z.2⟩
  | ext φ => exact q.trans t
theorem TpX.stay {H H' : Hp} {b : Addr} {x : Fzd} (t : TpX H b x) (e : ∀ o, H b = some o → H' b = some o) : TpX H' b x := by
  cases x with
  | tup xs => exact t.elim fun o z => ⟨o, e _ z.1, z.2⟩
  | ext φ => exact e _ t
theorem fzSame {H H' : Hp} (s : Same H H') : FzK H H' := fun b x t => by
  cases x with
  | tup xs => exact t.elim fun o e => ⟨o, s b _ e.1, e.2⟩
  | ext φ => exact s b _ t
/-- M: places that data keeps clear of; tok: the deck's own place; J: what is held of the deck -/
structure Cz where
  M : Addr → Prop
  tok : Option Addr
  J : Hp → Prop
  st : ∀ H H', FzK H H' → (∀ b o, M b → H b = some o → H' b = some o) → J H → J H'
  mt : ∀ H b, M b → J H → H b ≠ none
/-- an object of a class of the program's own, told with its fields -/
def objD (cl : Addr) (ns : List Str) (es : List PyData) : PyData := .dict [(.none, .tuple (.int (cl : Nat) :: .tuple (ns.map .str) :: es))]
theorem Cz.same (C : Cz) (H H' : Hp) (s : Same H H') (j : C.J H) : C.J H' := C.st H H' (fzSame s) (fun b o _ e => s b o e) j
def tokD : PyData := .dict [(.none, .none)]
mutual
inductive Dq (C : Cz) (H : Hp) : V → PyData → Prop
  | non : Dq C H .non .none
  | bl (b : Bool) : Dq C H (.bl b) (.bool b)
  | int (i : Int) : Dq C H (.int i) (.int i)
  | str (x : Str) : Dq C H (.str x) (.str x)
  | lst {a : Addr} {xs : List V} {ds : List PyData} : ¬ C.M a → H a = some (.lst xs) → DqAll C H xs ds → Dq C H (.ref a) (.list ds)
  | tup {a : Addr} {xs : List V} {ds : List PyData} : Tp H a xs → DqAll C H xs ds → Dq C H (.ref a) (.tuple ds)
  | dct {a : Addr} {kvs : List (Key × V)} {ps : List (PyData × PyData)} : ¬ C.M a → Rd H a (.dK kvs) → DqKv C H kvs ps → Dq C H (.ref a) (.dict ps)
  | tok {a : Addr} : C.tok = some a → Dq C H (.ref a) tokD
  | obj {a cl dx : Addr} {ns : List Str} {xs : List V} {ds : List PyData} : ¬ C.M a → H a = some (.ins cl dx (ns.zip xs)) → ns.length = xs.length → DqAll C H xs ds → Dq C H (.ref a) (objD cl ns ds)
inductive DqAll (C : Cz) (H : Hp) : List V → List PyData → Prop
  | nil : DqAll C H [] []
  | cons {v : V} {vs : List V} {e : PyData} {ds : List PyData} : Dq C H v e → DqAll C H vs ds → DqAll C H (v :: vs) (e :: ds)
inductive DqKv (C : Cz) (H : Hp) : List (Key × V) → List (PyData × PyData) → Prop
  | nil : DqKv C H [] []
  | cons {k : Key} {v : V} {kvs : List (Key × V)} {e : PyData} {ps : List (PyData × PyData)} : Dq C H v e → DqKv C H kvs ps → DqKv C H ((k, v) :: kvs) ((keyD k, e) :: ps)
end
/-- tuples stay, and all that is not the deck's -/
def Kx (C : Cz) (H H' : Hp) : Prop := FzK H H' ∧ ∀ b o, ¬ C.M b → H b = some o → H' b = some o
theorem Kx.rd {C : Cz} {H H' : Hp} (k : Kx C H H') {a : Addr} {u : HO} (m : ¬ C.M a) (h : Rd H a u) : Rd H' a u := h.elim (fun e => .inl (k.2 _ _ m e)) fun ⟨o, e⟩ => .inr ⟨o, k.2 _ _ m e⟩
theorem rd_ex {H : Hp} {a : Addr} {u : HO} (h : Rd H a u) : ∃ o, H a = some o := h.elim (fun e => ⟨_, e⟩) fun ⟨_, e⟩ => ⟨_, e⟩
theorem rd_get {H : Hp} {a : Addr} {u : HO} {p : Prop} (h : Rd H a u) (g : ∀ o, H a = some o → p) : p := let ⟨_, e⟩ := rd_ex h; g _ e
theorem Kx.refl {C : Cz} {H : Hp} : Kx C H H := ⟨fun _ _ h => h, fun _ _ _ h => h⟩
theorem Kx.trans {C : Cz} {H H1 H2 : Hp} (a : Kx C H H1) (b : Kx C H1 H2) : Kx C H H2 := ⟨fun c xs h => b.1 c xs (a.1 c xs h), fun c o m h => b.2 c o m (a.2 c o m h)⟩
theorem kxSame {C : Cz} {H H' : Hp} (s : Same H H') : Kx C H H' := ⟨fzSame s, fun b _ _ e => s b _ e⟩
theorem same_upd {H : Hp} {p : Addr} {o : HO} (h : H p = none) : Same H (upd H p o) := fun b x e => by
  rw [upd_ne (ne_of_none e h)]
  exact e
mutual
theorem Dq.keep {C : Cz} {H H' : Hp} (k : Kx C H H') : ∀ {v : V} {t : PyData}, Dq C H v t → Dq C H' v t
  | _, _, .non => .non
  | _, _, .bl b => .bl b
  | _, _, .int i => .int i
  | _, _, .str x => .str x
  | _, _, .lst n1 h r => .lst n1 (k.2 _ _ n1 h) (DqAll.keep k r)
  | _, _, .tup h r => .tup (k.1 _ (.tup _) h) (DqAll.keep k r)
  | _, _, .dct n1 h r => .dct n1 (k.rd n1 h) (DqKv.keep k r)
  | _, _, .tok h => .tok h
  | _, _, .obj n1 h l r => .obj n1 (k.2 _ _ n1 h) l (DqAll.keep k r)
theorem DqAll.keep {C : Cz} {H H' : Hp} (k : Kx C H H') : ∀ {vs : List V} {ds : List PyData}, DqAll C H vs ds → DqAll C H' vs ds
  | _, _, .nil => .nil
  | _, _, .cons h r => .cons (Dq.keep k h) (DqAll.keep k r)
theorem DqKv.keep {C : Cz} {H H' : Hp} (k : Kx C H H') : ∀ {vs : List (Key × V)} {ds : List (PyData × PyData)}, DqKv C H vs ds → DqKv C H' vs ds
  | _, _, .nil => .nil
  | _, _, .cons h r => .cons (Dq.keep k h) (DqKv.keep k r)
end
theorem DqAll.length {C : Cz} {H : Hp} : ∀ {vs : List V} {ts : List PyData}, DqAll C H vs ts → vs.length = ts.length
  | _, _, .nil => rfl
  | _, _, .cons _ r => congrArg (· + 1) (DqAll.length r)
theorem DqAll.get {C : Cz} {H : Hp} : ∀ {vs : List V} {ts : List PyData} {i : Nat} {t : PyData}, DqAll C H vs ts → ts[i]? = some t → ∃ v, vs[i]? = some v ∧ Dq C H v t
  | _, _, _, _, .nil, e => by simp at e
  | _, _, 0, _, .cons h _, e => by simp at e; subst e; exact ⟨_, rfl, h⟩
  | _, _, i + 1, _, .cons _ r, e => DqAll.get (i := i) r (by simpa using e)
theorem DqAll.app {C : Cz} {H : Hp} : ∀ {xs ys : List V} {ts us : List PyData}, DqAll C H xs ts → DqAll C H ys us → DqAll C H (xs ++ ys) (ts ++ us)
  | _, _, _, _, .nil, h => h
  | _, _, _, _, .cons h t, r => .cons h (DqAll.app t r)
theorem DqAll.take {C : Cz} {H : Hp} : ∀ {xs : List V} {ts : List PyData} (n : Nat), DqAll C H xs ts → DqAll C H (xs.take n) (ts.take n)
  | _, _, 0, _ => .nil
  | _, _, _ + 1, .nil => .nil
  | _, _, n + 1, .cons h r => .cons h (DqAll.take n r)
theorem DqAll.drop {C : Cz} {H : Hp} : ∀ {xs : List V} {ts : List PyData} (n : Nat), DqAll C H xs ts → DqAll C H (xs.drop n) (ts.drop n)
  | _, _, 0, h => h
  | _, _, _ + 1, .nil => .nil
  | _, _, n + 1, .cons h r => DqAll.drop n r
theorem DqAll.rev {C : Cz} {H : Hp} {xs : List V} {ts : List PyData} (h : DqAll C H xs ts) : DqAll C H xs.reverse ts.reverse := by
  induction xs generalizing ts with
  | nil => cases h; exact .nil
  | cons x xs ih =>
    cases h with
    | cons h r =>
      rw [List.reverse_cons, List.reverse_cons]
      exact (ih r).app (.cons h .nil)
/-! another context: what stood ahead at H and is none of C's is none of C2's -/
def Far (C C2 : Cz) (H : Hp) : Prop := C.tok = C2.tok ∧ ∀ b o, H b = some o → ¬ C.M b → ¬ C2.M b
mutual
theorem Dq.move {C C2 : Cz} {H : Hp} (f : Far C C2 H) : ∀ {v : V} {t : PyData}, Dq C H v t → Dq C2 H v t
  | _, _, .non => .non
  | _, _, .bl b => .bl b
  | _, _, .int i => .int i
  | _, _, .str x => .str x
  | _, _, .lst n1 h r => .lst (f.2 _ _ h n1) h (DqAll.move f r)
  | _, _, .tup h r => .tup h (DqAll.move f r)
  | _, _, .dct n1 h r => .dct (rd_get h fun o e => f.2 _ _ e n1) h (DqKv.move f r)
  | _, _, .tok h => .tok (f.1 ▸ h)
  | _, _, .obj n1 h l r => .obj (f.2 _ _ h n1) h l (DqAll.move f r)
theorem DqAll.move {C C2 : Cz} {H : Hp} (f : Far C C2 H) : ∀ {vs : List V} {ds : List PyData}, DqAll C H vs ds → DqAll C2 H vs ds
  | _, _, .nil => .nil
  | _, _, .cons h r => .cons (Dq.move f h) (DqAll.move f r)
theorem DqKv.move {C C2 : Cz} {H : Hp} (f : Far C C2 H) : ∀ {vs : List (Key × V)} {ds : List (PyData × PyData)}, DqKv C H vs ds → DqKv C2 H vs ds
  | _, _, .nil => .nil
  | _, _, .cons h r => .cons (Dq.move f h) (DqKv.move f r)
end
/-- more places are out of sight, and stay as they are -/
structure Ext (C C2 : Cz) : Prop where
  tok : C2.tok = C.tok
  m : ∀ b, C.M b → C2.M b
  j : ∀ H, C2.J H → C.J H
  k : ∀ H H', C2.J H → C.J H' → FzK H H' → (∀ b o, C2.M b → ¬ C.M b → H b = some o → H' b = some o) → C2.J H'
theorem Ext.refl {C : Cz} : Ext C C := ⟨rfl, fun _ m => m, fun _ j => j, fun _ _ _ j _ _ => j⟩
theorem Ext.trans {C C1 C2 : Cz} (a : Ext C C1) (b : Ext C1 C2) : Ext C C2 where
  tok := b.tok.trans a.tok
  m := fun x m => b.m x (a.m x m)
  j := fun H j => a.j H (b.j H j)
  k := fun H H' j j' f h => b.k H H' j (a.k H H' (b.j H j) j' f fun c o m n e => h c o (b.m c m) n e) f fun c o m n e => h c o m (fun z => n (a.m c z)) e
/-! no lists, no dicts -/
mutual
def noL : PyData → Bool
  | .list _ => false
  | .dict _ => false
  | .tuple xs => noLs xs
  | _ => true
def noLs : List PyData → Bool
  | [] => true
  | x :: xs => noL x && noLs xs
end
mutual
theorem Dq.noL {C C' : Cz} {H : Hp} : ∀ {v : V} {t : PyData}, noL t = true → Dq C H v t → Dq C' H v t
  | _, _, _, .non => .non
  | _, _, _, .bl b => .bl b
  | _, _, _, .int i => .int i
  | _, _, _, .str x => .str x
  | _, _, e, .tup h r => .tup h (DqAll.noL (by simpa [Kr.noL] using e) r)
  | _, _, e, .lst _ _ _ => by simp [Kr.noL] at e
  | _, _, e, .dct _ _ _ => by simp [Kr.noL] at e
  | _, _, e, .tok _ => by simp [Kr.noL, tokD] at e
  | _, _, e, .obj _ _ _ _ => by simp [Kr.noL, objD] at e
theorem DqAll.noL {C C' : Cz} {H : Hp} : ∀ {vs : List V} {ts : List PyData}, noLs ts = true → DqAll C H vs ts → DqAll C' H vs ts
  | _, _, _, .nil => .nil
  | _, _, e, .cons h r => by
    have e' : (Kr.noL _ && noLs _) = true := e
    rw [Bool.and_eq_true] at e'
    exact .cons (Dq.noL e'.1 h) (DqAll.noL e'.2 r)
end
/-! the readings -/
abbrev Rho := List (Option PyData)
abbrev P0 := Rho → (PyData → Prop) → Prop
abbrev P0A := Rho → (List PyData → Prop) → Prop
abbrev P0T := Rho → (Bool → Prop) → Prop
structure EnvOk (C : Cz) (H : Hp) (σ : L2.St) (ρ : Rho) : Prop where
  len : ρ.length = σ.length
  at_ : ∀ (i : Nat) (d : PyData), ρ[i]? = some (some d) → ∃ v, σ[i]? = some (some v) ∧ Dq C H v d
theorem EnvOk.keep {C : Cz} {H H' : Hp} {σ : L2.St} {ρ : Rho} (h : EnvOk C H σ ρ) (k : Kx C H H') : EnvOk C H' σ ρ := ⟨h.len, fun i d e => by
  obtain ⟨v, e1, r⟩ := h.at_ i d e
  exact ⟨v, e1, r.keep k⟩⟩
theorem EnvOk.set {C : Cz} {H : Hp} {σ : L2.St} {ρ : Rho} (h : EnvOk C H σ ρ) (i : Nat) {v : V} {d : PyData} (r : Dq C H v d) : EnvOk C H (σ.set i (some v)) (ρ.set i (some d)) := ⟨by simp [h.len], fun j e q => by
  by_cases hij : i = j
  · subst hij
    by_cases hl : i < ρ.length
    · rw [List.getElem?_set_self hl] at q
      cases q
      exact ⟨v, List.getElem?_set_self (by rw [← h.len]; exact hl), r⟩
    · rw [List.getElem?_eq_none (by simp; omega)] at q
      cases q
  · rw [List.getElem?_set_ne hij] at q
    obtain ⟨u, e1, r1⟩ := h.at_ j e q
    exact ⟨u, by rw [List.getElem?_set_ne hij]; exact e1, r1⟩⟩
def Kn (C : Cz) (H : Hp) (Q : VK) : PyData → Prop := fun d => ∀ v H', Kx C H H' → C.J H' → Dq C H' v d → Q v H'
def KnA (C : Cz) (H : Hp) (Q : List V → Hp → Prop) : List PyData → Prop := fun ds => ∀ vs H', Kx C H H' → C.J H' → DqAll C H' vs ds → Q vs H'
def KnT (C : Cz) (H : Hp) (Q : Bool → Hp → Prop) : Bool → Prop := fun b => ∀ H', Kx C H H' → C.J H' → Q b H'
theorem Kn.up {C : Cz} {H H1 : Hp} {Q : VK} {d : PyData} (h : Kn C H Q d) (k : Kx C H H1) : Kn C H1 Q d := fun v H' k' => h v H' (k.trans k')
def lf (C : Cz) (t : P0) : TE := fun σ H Q => ∃ ρ, EnvOk C H σ ρ ∧ C.J H ∧ t ρ (Kn C H Q)
def lfA (C : Cz) (t : P0A) : TA := fun σ H Q => ∃ ρ, EnvOk C H σ ρ ∧ C.J H ∧ t ρ (KnA C H Q)
def lfT (C : Cz) (t : P0T) : TT := fun σ H Q => ∃ ρ, EnvOk C H σ ρ ∧ C.J H ∧ t ρ (KnT C H Q)
structure QE (X : Cx) (C : Cz) (e : Expr) (t : P0) : Prop where
  pe : PE X e (lf C t)
  mono : ∀ ρ Q Q', (∀ d, Q d → Q' d) → t ρ Q → t ρ Q'
structure QA (X : Cx) (C : Cz) (es : List Expr) (t : P0A) : Prop where
  pa : PA X es (lfA C t)
  mono : ∀ ρ Q Q', (∀ d, Q d → Q' d) → t ρ Q → t ρ Q'
structure QT (X : Cx) (C : Cz) (e : Expr) (t : P0T) : Prop where
  pt : PT X e (lfT C t)
  mono : ∀ ρ Q Q', (∀ d, Q d → Q' d) → t ρ Q → t ρ Q'
/-- as QT, whatever the whole is (and, or) -/
structure QW (X : Cx) (C : Cz) (e : Expr) (t : P0T) : Prop where
  pw : PW X e (lfT C t)
  mono : ∀ ρ Q Q', (∀ d, Q d → Q' d) → t ρ Q → t ρ Q'
theorem PE.weak {X : Cx} {e : Expr} {t t' : TE} (h : PE X e t) (w : ∀ σ H Q, t' σ H Q → t σ H Q) : PE X e t' := ⟨fun pins s σ H Q I q => h.run pins s σ H Q I (w σ H Q q)⟩
theorem PA.weak {X : Cx} {e : List Expr} {t t' : TA} (h : PA X e t) (w : ∀ σ H Q, t' σ H Q → t σ H Q) : PA X e t' := ⟨fun pos pins s σ H Q I q => h.run pos pins s σ H Q I (w σ H Q q)⟩
theorem PT.weak {X : Cx} {e : Expr} {t t' : TT} (h : PT X e t) (w : ∀ σ H Q, t' σ H Q → t σ H Q) : PT X e t' := ⟨fun pins s σ H Q I q => h.run pins s σ H Q I (w σ H Q q)⟩
theorem PW.weak {X : Cx} {e : Expr} {t t' : TT} (h : PW X e t) (w : ∀ σ H Q, t' σ H Q → t σ H Q) : PW X e t' := ⟨fun whole pins s σ H Q I q => h.run whole pins s σ H Q I (w σ H Q q)⟩
section
variable {X : Cx} {C : Cz} {a b c : Expr} {ta tb tc : P0} {pos : Pos}
/-! names and constants -/
@[simp] def vVar (i : Nat) : P0 := fun ρ Q => ∃ d, ρ[i]? = some (some d) ∧ Q d
theorem qv (i : Nat) {x : Str} (hN : X.N[i]? = some x := by rfl) (hv : Vis X.env.scope x := by first | exact Or.inl rfl | exact Or.inr (Or.inl rfl) | exact Or.inr (Or.inr rfl)) (hd : (x == ("__debug__" : Str)) = false := by decide)
    (hcd : (x == ("__classdict__" : Str)) = false := by decide) : QE X C (.Name x pos) (vVar i) := by
  refine ⟨PE.weak (pe_var hN hv hd hcd) fun σ H Q h => ?_, fun ρ Q Q' w ⟨d, e, q⟩ => ⟨d, e, w d q⟩⟩
  obtain ⟨ρ, he, j, d, e, q⟩ := h
  obtain ⟨v, ev, r⟩ := he.at_ i d e
  exact ⟨v, ev, q v H Kx.refl j r⟩
@[simp] def vC (d : PyData) : P0 := fun _ Q => Q d
theorem qe_c {e : Expr} {v : V} {d : PyData} (h : PE X e (tC v)) (r : ∀ H, Dq C H v d) : QE X C e (vC d) :=
  ⟨PE.weak h fun σ H Q ⟨ρ, he, j, q⟩ => q v H Kx.refl j (r H), fun _ _ _ w q => w _ q⟩
theorem qe_int {i k} : QE X C (.Constant (.int i) k pos) (vC (.int i)) := qe_c pe_int fun _ => .int i
theorem qe_bl {i k} : QE X C (.Constant (.bool i) k pos) (vC (.bool i)) := qe_c pe_bl fun _ => .bl i
theorem qe_non {k} : QE X C (.Constant .none k pos) (vC .none) := qe_c pe_non fun _ => .non
theorem qe_str {i k} : QE X C (.Constant (.str i) k pos) (vC (.str i)) := qe_c pe_str fun _ => .str i
theorem qe_glob {x : Str} {i : Int} {tk : Tok} (hg : Gl X x) (hm : X.mg x = some (.int i tk)) (hd : (x == ("__debug__" : Str)) = false := by decide) : QE X C (.Name x pos) (vC (.int i)) :=
  qe_c (pe_glob (v := .int i) hg hm ⟨tk, rfl⟩ hd) fun _ => .int i
/-! arguments -/
@[simp] def vNil : P0A := fun _ Q => Q []
@[simp] def vCons (t : P0) (r : P0A) : P0A := fun ρ Q => t ρ fun d => r ρ fun ds => Q (d :: ds)
theorem qa_nil : QA X C [] vNil := ⟨PA.weak pa_nil fun σ H Q ⟨ρ, he, j, q⟩ => q [] H Kx.refl j .nil, fun _ _ _ w q => w _ q⟩
theorem qa_cons {e : Expr} {es : List Expr} {t : P0} {r : P0A} (ha : QE X C e t) (hr : QA X C es r) (hs : starEach (e :: es) X.env = (false, eval e X.env) :: starEach es X.env := by rfl) : QA X C (e :: es) (vCons t r) := by
  refine ⟨PA.weak (pa_cons ha.pe hr.pa hs) fun σ H Q h => ?_, fun ρ Q Q' w h => ha.mono _ _ _ (fun d h => hr.mono _ _ _ (fun ds => w _) h) h⟩
  obtain ⟨ρ, he, j, h⟩ := h
  refine ⟨ρ, he, j, ha.mono _ _ _ (fun d h1 v H1 k1 j1 r1 => ?_) h⟩
  refine ⟨ρ, he.keep k1, j1, hr.mono _ _ _ (fun ds h2 vs H2 k2 j2 r2 => ?_) h1⟩
  exact h2 (v :: vs) H2 (k1.trans k2) j2 (.cons (r1.keep k2) r2)
/-! operations -/
abbrev R0 := PyData → PyData → (PyData → Prop) → Prop
def lO (C : Cz) (r : R0) : R2 := fun x y H Q => ∃ d1 d2, Dq C H x d1 ∧ Dq C H y d2 ∧ C.J H ∧ r d1 d2 (Kn C H Q)
structure OQ (X : Cx) (C : Cz) (f : Value → Value → Sem Value) (r : R0) : Prop where
  op : OpR X f (lO C r)
  mono : ∀ x y Q Q', (∀ d, Q d → Q' d) → r x y Q → r x y Q'
@[simp] def vOp (r : R0) (ta tb : P0) : P0 := fun ρ Q => ta ρ fun d1 => tb ρ fun d2 => r d1 d2 Q
theorem vOp_mono {f : Value → Value → Sem Value} {r : R0} (ho : OQ X C f r) (ha : QE X C a ta) (hb : QE X C b tb) (ρ : Rho) (Q Q' : PyData → Prop) (w : ∀ d, Q d → Q' d) (h : vOp r ta tb ρ Q) : vOp r ta tb ρ Q' :=
  ha.mono _ _ _ (fun d1 h => hb.mono _ _ _ (fun d2 h => ho.mono _ _ _ _ w h) h) h
theorem vOp_te {f : Value → Value → Sem Value} {r : R0} (ho : OQ X C f r) (ha : QE X C a ta) (hb : QE X C b tb) (σ : L2.St) (H : Hp) (Q : VK) (h : lf C (vOp r ta tb) σ H Q) : tOp (lO C r) (lf C ta) (lf C tb) σ H Q := by
  obtain ⟨ρ, he, j, h⟩ := h
  refine ⟨ρ, he, j, ha.mono _ _ _ (fun d1 h1 v H1 k1 j1 r1 => ?_) h⟩
  refine ⟨ρ, he.keep k1, j1, hb.mono _ _ _ (fun d2 h2 w H2 k2 j2 r2 => ?_) h1⟩
  exact ⟨d1, d2, r1.keep k2, r2, j2, ho.mono _ _ _ _ (fun d q => q.up (k1.trans k2)) h2⟩
theorem qe_op {op : Operator} {r : R0} (ho : OQ X C (binaryOp op) r) (ha : QE X C a ta) (hb : QE X C b tb) : QE X C (.BinOp a op b pos) (vOp r ta tb) :=
  ⟨PE.weak (pe_op ho.op ha.pe hb.pe) (vOp_te ho ha hb), vOp_mono ho ha hb⟩
theorem qe_cmp {op : CmpOp} {r : R0} (ho : OQ X C (compareOp op) r) (ha : QE X C a ta) (hb : QE X C b tb) (hm : behindInMarks op b = false) : QE X C (.Compare a [op] [b] pos) (vOp r ta tb) :=
  ⟨PE.weak (pe_cmpR ho.op ha.pe hb.pe hm) (vOp_te ho ha hb), vOp_mono ho ha hb⟩
/-- a value that is a truth -/
@[simp] def vT (t : P0) : P0T := fun ρ Q => t ρ fun d => ∃ k, d = .bool k ∧ Q k
theorem dq_bl {H : Hp} {v : V} {k : Bool} (h : Dq C H v (.bool k)) : v = .bl k := by cases h; rfl
theorem qt_cmp {op : CmpOp} {r : R0} (ho : OQ X C (compareOp op) r) (ha : QE X C a ta) (hb : QE X C b tb) (hm : behindInMarks op b = false) : QT X C (.Compare a [op] [b] pos) (vT (vOp r ta tb)) := by
  refine ⟨PT.weak (pt_cmpR ho.op ha.pe hb.pe hm) fun σ H Q h => vOp_te ho ha hb σ H _ ?_, fun ρ Q Q' w h => vOp_mono ho ha hb ρ _ _ (fun d ⟨k, e, q⟩ => ⟨k, e, w k q⟩) h⟩
  obtain ⟨ρ, he, j, h⟩ := h
  refine ⟨ρ, he, j, vOp_mono ho ha hb ρ _ _ (fun d ⟨k, e, q⟩ v H1 k1 j1 r1 => ?_) h⟩
  subst e
  exact ⟨k, dq_bl r1, q H1 k1 j1⟩
theorem qt_val (ha : QE X C a ta) (he : ∀ whole, isTrue a X.env whole = (do let v ← whole; standAt a.pos; holding [v] (truthy v)) := by intro _; rfl) : QT X C a (vT ta) := by
  refine ⟨PT.weak (pt_val ha.pe he) fun σ H Q h => ?_, fun ρ Q Q' w h => ha.mono ρ _ _ (fun d ⟨k, e, q⟩ => ⟨k, e, w k q⟩) h⟩
  obtain ⟨ρ, he, j, h⟩ := h
  refine ⟨ρ, he, j, ha.mono ρ _ _ (fun d ⟨k, e, q⟩ v H1 k1 j1 r1 => ?_) h⟩
  subst e
  exact ⟨k, dq_bl r1, q H1 k1 j1⟩
/-! and, or, not: values -/
@[simp] def vAnd (ta tb : P0) : P0 := fun ρ Q => ta ρ fun d => ∃ k, d = .bool k ∧ if k = true then tb ρ Q else Q (.bool false)
@[simp] def vOr (ta tb : P0) : P0 := fun ρ Q => ta ρ fun d => ∃ k, d = .bool k ∧ if k = true then Q (.bool true) else tb ρ Q
@[simp] def vNot (ta : P0) : P0 := fun ρ Q => ta ρ fun d => ∃ k, d = .bool k ∧ Q (.bool (!k))
theorem qe_one {op} (h : QE X C a ta) : QE X C (.BoolOp op [a] pos) ta := ⟨pe_one h.pe, h.mono⟩
theorem qe_and {rest : List Expr} (ha : QE X C a ta) (hb : QE X C (.BoolOp .And (b :: rest) pos) tb) : QE X C (.BoolOp .And (a :: b :: rest) pos) (vAnd ta tb) := by
  refine ⟨PE.weak (pe_and ha.pe hb.pe) fun σ H Q h => ?_, fun ρ Q Q' w h => ha.mono _ _ _ (fun d ⟨k, e, q⟩ => ⟨k, e, ?_⟩) h⟩
  · obtain ⟨ρ, he, j, h⟩ := h
    refine ⟨ρ, he, j, ha.mono ρ _ _ (fun d ⟨k, e, q⟩ v H1 k1 j1 r1 => ?_) h⟩
    subst e
    refine ⟨k, dq_bl r1, ?_⟩
    cases k with
    | true => exact ⟨ρ, he.keep k1, j1, hb.mono _ _ _ (fun d q => q.up k1) q⟩
    | false => exact q _ H1 k1 j1 (.bl false)
  · cases k with
    | true => exact hb.mono _ _ _ w q
    | false => exact w _ q
theorem qe_or {rest : List Expr} (ha : QE X C a ta) (hb : QE X C (.BoolOp .Or (b :: rest) pos) tb) : QE X C (.BoolOp .Or (a :: b :: rest) pos) (vOr ta tb) := by
  refine ⟨PE.weak (pe_or ha.pe hb.pe) fun σ H Q h => ?_, fun ρ Q Q' w h => ha.mono _ _ _ (fun d ⟨k, e, q⟩ => ⟨k, e, ?_⟩) h⟩
  · obtain ⟨ρ, he, j, h⟩ := h
    refine ⟨ρ, he, j, ha.mono ρ _ _ (fun d ⟨k, e, q⟩ v H1 k1 j1 r1 => ?_) h⟩
    subst e
    refine ⟨k, dq_bl r1, ?_⟩
    cases k with
    | true => exact q _ H1 k1 j1 (.bl true)
    | false => exact ⟨ρ, he.keep k1, j1, hb.mono _ _ _ (fun d q => q.up k1) q⟩
  · cases k with
    | true => exact w _ q
    | false => exact hb.mono _ _ _ w q
theorem qe_not (ha : QE X C a ta) : QE X C (.UnaryOp .Not a pos) (vNot ta) := by
  refine ⟨PE.weak (pe_not ha.pe) fun σ H Q h => ?_, fun ρ Q Q' w h => ha.mono _ _ _ (fun d ⟨k, e, q⟩ => ⟨k, e, w _ q⟩) h⟩
  obtain ⟨ρ, he, j, h⟩ := h
  refine ⟨ρ, he, j, ha.mono ρ _ _ (fun d ⟨k, e, q⟩ v H1 k1 j1 r1 => ?_) h⟩
  subst e
  exact ⟨k, dq_bl r1, q _ H1 k1 j1 (.bl _)⟩
/-! tests -/
variable {tA tB : P0T}
theorem KnT.up {H H1 : Hp} {Q : Bool → Hp → Prop} {k : Bool} (h : KnT C H Q k) (kx : Kx C H H1) : KnT C H1 Q k := fun H' k' => h H' (kx.trans k')
@[simp] def wAnd (ta tb : P0T) : P0T := fun ρ Q => ta ρ fun k => if k = true then tb ρ Q else Q false
@[simp] def wOr (ta tb : P0T) : P0T := fun ρ Q => ta ρ fun k => if k = true then Q true else tb ρ Q
@[simp] def wNot (ta : P0T) : P0T := fun ρ Q => ta ρ fun k => Q (!k)
theorem QW.qt (h : QW X C a tA) : QT X C a tA := ⟨h.pw.pt, h.mono⟩
theorem qw_and1 (h : QT X C a tA) : QW X C (.BoolOp .And [a] pos) tA := ⟨pw_and1 h.pt, h.mono⟩
theorem qw_or1 (h : QT X C a tA) : QW X C (.BoolOp .Or [a] pos) tA := ⟨pw_or1 h.pt, h.mono⟩
theorem qw_and {rest : List Expr} (ha : QT X C a tA) (hb : QW X C (.BoolOp .And (b :: rest) pos) tB) : QW X C (.BoolOp .And (a :: b :: rest) pos) (wAnd tA tB) := by
  refine ⟨PW.weak (pw_and ha.pt hb.pw) fun σ H Q h => ?_, fun ρ Q Q' w h => ha.mono _ _ _ (fun k q => ?_) h⟩
  · obtain ⟨ρ, he, j, h⟩ := h
    refine ⟨ρ, he, j, ha.mono ρ _ _ (fun k q H1 k1 j1 => ?_) h⟩
    cases k with
    | true => exact ⟨ρ, he.keep k1, j1, hb.mono _ _ _ (fun d q => KnT.up q k1) q⟩
    | false => exact q H1 k1 j1
  · cases k with
    | true => exact hb.mono _ _ _ w q
    | false => exact w _ q
theorem qw_or {rest : List Expr} (ha : QT X C a tA) (hb : QW X C (.BoolOp .Or (b :: rest) pos) tB) : QW X C (.BoolOp .Or (a :: b :: rest) pos) (wOr tA tB) := by
  refine ⟨PW.weak (pw_or ha.pt hb.pw) fun σ H Q h => ?_, fun ρ Q Q' w h => ha.mono _ _ _ (fun k q => ?_) h⟩
  · obtain ⟨ρ, he, j, h⟩ := h
    refine ⟨ρ, he, j, ha.mono ρ _ _ (fun k q H1 k1 j1 => ?_) h⟩
    cases k with
    | true => exact q H1 k1 j1
    | false => exact ⟨ρ, he.keep k1, j1, hb.mono _ _ _ (fun d q => KnT.up q k1) q⟩
  · cases k with
    | true => exact w _ q
    | false => exact hb.mono _ _ _ w q
theorem qt_not (ha : QT X C a tA) : QT X C (.UnaryOp .Not a pos) (wNot tA) :=
  ⟨PT.weak (pt_not ha.pt) fun σ H Q ⟨ρ, he, j, h⟩ => ⟨ρ, he, j, ha.mono ρ _ _ (fun k q H1 k1 j1 => q H1 k1 j1) h⟩, fun ρ Q Q' w h => ha.mono _ _ _ (fun k q => w _ q) h⟩
@[simp] def vIf (tA : P0T) (ta tb : P0) : P0 := fun ρ Q => tA ρ fun k => if k = true then ta ρ Q else tb ρ Q
theorem qe_if (hc : QT X C c tA) (ha : QE X C a ta) (hb : QE X C b tb) : QE X C (.IfExp c a b pos) (vIf tA ta tb) := by
  refine ⟨PE.weak (pe_ifExp hc.pt ha.pe hb.pe) fun σ H Q h => ?_, fun ρ Q Q' w h => hc.mono _ _ _ (fun k q => ?_) h⟩
  · obtain ⟨ρ, he, j, h⟩ := h
    refine ⟨ρ, he, j, hc.mono ρ _ _ (fun k q H1 k1 j1 => ?_) h⟩
    cases k with
    | true => exact ⟨ρ, he.keep k1, j1, ha.mono _ _ _ (fun d q => q.up k1) q⟩
    | false => exact ⟨ρ, he.keep k1, j1, hb.mono _ _ _ (fun d q => q.up k1) q⟩
  · cases k with
    | true => exact ha.mono _ _ _ w q
    | false => exact hb.mono _ _ _ w q
/-! tuples, lists -/
theorem freshM (C : Cz) {H : Hp} {p : Addr} (j : C.J H) (hp : H p = none) : ¬ C.M p := fun m => C.mt H p m j hp
/-- a new tuple: its object is known, and has no dict -/
def tTupF (t : TA) : TE := fun σ H Q => t σ H fun xs H1 => xs.length ≤ sizeLine ∧ ∀ p o, H1 p = none → o.dict = none → Q (.ref p) (upd H1 p (.frz o (.tup xs)))
theorem pe_tupF {X : Cx} {es : List Expr} {t : TA} {x1 : Nat} {pos : Pos} (h : PA X es t) : PE X (.Tuple es x1 pos) (tTupF t) := by
  constructor
  intro pins s σ H Q I hq
  apply wpAny_Tuple_spliced
  refine thn (h.run pos pins s σ H _ I hq) ?_
  rintro us s1 ⟨xs, H1, I1, r, z, q⟩
  refine ⟨r.length ▸ z, ?_⟩
  have fr : H1 s1.heap.objs.size = none := I1.hok.fresh (Nat.le_refl _)
  have at_ : (s1.heap.push { cls := .type "tuple", data := .seq us.toArray }).get? s1.heap.objs.size = some { cls := .type "tuple", data := .seq us.toArray } := Heap.get?_push_size _ rfl
  exact ⟨.ref s1.heap.objs.size, _, I1.laid (t' := s1.toks) (fun b u e => Heap.get?_push_of_some _ e) (Nat.le_refl _) (show ObjOk X.prog X.w _ _ _ (.frz _ (.tup xs)) from ⟨at_, z, us, r, _, at_, rfl, _, rfl⟩), rfl, q _ _ fr rfl⟩
theorem tp_upd {H : Hp} {p : Addr} {o : Obj} {xs : List V} (h : o.dict = none) : Tp (upd H p (.frz o (.tup xs))) p xs := ⟨o, upd_same, h⟩
@[simp] def vTup (t : P0A) : P0 := fun ρ Q => t ρ fun ds => ds.length ≤ sizeLine ∧ Q (.tuple ds)
theorem qe_tup {es : List Expr} {t : P0A} {x1} (h : QA X C es t) : QE X C (.Tuple es x1 pos) (vTup t) := by
  refine ⟨PE.weak (pe_tupF h.pa) fun σ H Q q => ?_, fun ρ Q Q' w q => h.mono _ _ _ (fun ds q => ⟨q.1, w _ q.2⟩) q⟩
  obtain ⟨ρ, he, j, q⟩ := q
  refine ⟨ρ, he, j, h.mono ρ _ _ (fun ds q vs H1 k1 j1 r1 => ⟨by rw [r1.length]; exact q.1, fun p ob np nd => ?_⟩) q⟩
  have s := same_upd (o := .frz ob (.tup vs)) np
  exact q.2 _ _ (k1.trans (kxSame s)) (C.same _ _ s j1) (.tup (tp_upd nd) (r1.keep (kxSame s)))
@[simp] def vLst (t : P0A) : P0 := fun ρ Q => t ρ fun ds => ds.length ≤ sizeLine ∧ Q (.list ds)
theorem qe_lst {es : List Expr} {t : P0A} (h : QA X C es t) : QE X C (.List es pos) (vLst t) := by
  refine ⟨PE.weak (pe_lst h.pa) fun σ H Q q => ?_, fun ρ Q Q' w q => h.mono _ _ _ (fun ds q => ⟨q.1, w _ q.2⟩) q⟩
  obtain ⟨ρ, he, j, q⟩ := q
  refine ⟨ρ, he, j, h.mono ρ _ _ (fun ds q vs H1 k1 j1 r1 => ⟨by rw [r1.length]; exact q.1, fun p np => ?_⟩) q⟩
  have s := same_upd (o := .lst vs) np
  exact q.2 _ _ (k1.trans (kxSame s)) (C.same _ _ s j1) (.lst (freshM C j1 np) upd_same (r1.keep (kxSame s)))
/-! calls -/
abbrev Fr := List PyData → (PyData → Prop) → Prop
def lC (C : Cz) (r : Fr) : List V → Hp → VK → Prop := fun xs H Q => ∃ ds, DqAll C H xs ds ∧ C.J H ∧ r ds (Kn C H Q)
structure CQ (X : Cx) (C : Cz) (f : Value) (r : Fr) : Prop where
  op : CallR X f (lC C r)
  mono : ∀ x Q Q', (∀ d, Q d → Q' d) → r x Q → r x Q'
@[simp] def vCall (r : Fr) (t : P0A) : P0 := fun ρ Q => t ρ fun ds => r ds Q
theorem vCall_te {r : Fr} {t : P0A} {es : List Expr} (hm : ∀ x Q Q', (∀ d, Q d → Q' d) → r x Q → r x Q') (ha : QA X C es t) (σ : L2.St) (H : Hp) (Q : VK) (h : lf C (vCall r t) σ H Q) : tCB (lC C r) (lfA C t) σ H Q := by
  obtain ⟨ρ, he, j, h⟩ := h
  exact ⟨ρ, he, j, ha.mono _ _ _ (fun ds h1 vs H1 k1 j1 r1 => ⟨ds, r1, j1, hm _ _ _ (fun d q => q.up k1) h1⟩) h⟩
theorem vCall_mono {r : Fr} {t : P0A} {es : List Expr} (hm : ∀ x Q Q', (∀ d, Q d → Q' d) → r x Q → r x Q') (ha : QA X C es t) (ρ : Rho) (Q Q' : PyData → Prop) (w : ∀ d, Q d → Q' d) (h : vCall r t ρ Q) : vCall r t ρ Q' :=
  ha.mono _ _ _ (fun ds h => hm _ _ _ w h) h
theorem qe_callB {id : String} {x : Str} {p : Pos} {e : Expr} {es : List Expr} {r : Fr} {t : P0A} (hc : CQ X C (.builtin id) r) (hg : Gl X x) (hm : X.mg x = none) (hv : bootBuiltins x = some (.builtin id)) (ha : QA X C (e :: es) t) (hn : x ≠ "__name__" := by decide) (hdb : (x == ("__debug__" : Str)) = false := by decide)
    (he : starEach (e :: es) X.env = (false, eval e X.env) :: starEach es X.env := by rfl) (hpl : (backTo pos (starEach es X.env)).any (·.1) = false := by rfl) : QE X C (.Call (.Name x p) (e :: es) [] pos) (vCall r t) :=
  ⟨PE.weak (pe_callB hc.op hg hm hv ha.pa hn hdb he hpl) (vCall_te hc.mono ha), vCall_mono hc.mono ha⟩
theorem qe_callTy {T : String} {x : Str} {p : Pos} {e : Expr} {es : List Expr} {r : Fr} {t : P0A} (hc : CQ X C (.type T) r) (hg : Gl X x) (hm : X.mg x = none) (hv : bootBuiltins x = some (.type T)) (ha : QA X C (e :: es) t) (hn : x ≠ "__name__" := by decide) (hdb : (x == ("__debug__" : Str)) = false := by decide)
    (he : starEach (e :: es) X.env = (false, eval e X.env) :: starEach es X.env := by rfl) (hpl : (backTo pos (starEach es X.env)).any (·.1) = false := by rfl) : QE X C (.Call (.Name x p) (e :: es) [] pos) (vCall r t) :=
  ⟨PE.weak (pe_callTy hc.op hg hm hv ha.pa hn hdb he hpl) (vCall_te hc.mono ha), vCall_mono hc.mono ha⟩
/-! own defs -/
@[simp] def fr (pre : List PyData → Prop) (res : List PyData → PyData → Prop) : Fr := fun ds Q => pre ds ∧ ∀ d, res ds d → Q d
def spQ (G : Cz → Prop) (pre : List PyData → Prop) (res : List PyData → PyData → Prop) : Sp := fun vs H Q _ => ∃ C ds, G C ∧ DqAll C H vs ds ∧ C.J H ∧ fr pre res ds (Kn C H Q)
theorem fr_mono {pre : List PyData → Prop} {res : List PyData → PyData → Prop} (x : List PyData) (Q Q' : PyData → Prop) (w : ∀ d, Q d → Q' d) (h : fr pre res x Q) : fr pre res x Q' := ⟨h.1, fun d r => w d (h.2 d r)⟩
theorem qe_call {G : Cz → Prop} {pre : List PyData → Prop} {res : List PyData → PyData → Prop} {k : Nat} {f : Addr} {fd : FuncData} {ps : List Str} {x : Str} {p : Pos} {e : Expr} {es : List Expr} {t : P0A}
    (F : FnOk X.prog X.w X.K X.mg X.base CX0 k f fd ps (spQ G pre res)) (hG : G C) (hr : Room k X.A) (hg : Gl X x) (hm : X.mg x = some (.ref f)) (hk : PySem.W.keepIn X.K (.ref f) = true) (hb : Binds X.K fd ps []) (ha : QA X C (e :: es) t) (hx : Passes CX0 X (fun _ _ _ => False) := by exact pass0)
    (hdb : (x == ("__debug__" : Str)) = false := by decide) (he : starEach (e :: es) X.env = (false, eval e X.env) :: starEach es X.env := by rfl) (hpl : (backTo pos (starEach es X.env)).any (·.1) = false := by rfl) :
    QE X C (.Call (.Name x p) (e :: es) [] pos) (vCall (fr pre res) t) := by
  refine ⟨PE.weak (pe_call F hr hg hm hk hb .nil hx ha.pa hdb he hpl) fun σ H Q h => ?_, vCall_mono fr_mono ha⟩
  obtain ⟨ρ, he, j, h⟩ := h
  refine ⟨ρ, he, j, ha.mono _ _ _ (fun ds h1 vs H1 k1 j1 r1 => ?_) h⟩
  show spQ G pre res (vs ++ []) H1 Q _
  rw [List.append_nil]
  exact ⟨C, ds, hG, r1, j1, fr_mono _ _ _ (fun d q => q.up k1) h1⟩
end
end Kr

set_option Elab.async false
set_option linter.all false
set_option maxRecDepth 100000
set_option maxHeartbeats 2000000
namespace Kr
open PySem PySem.Spec PyProof.Rows L2
section
variable {prog : Program} {w : World} {A : Around} {E : Value → Shared → Prop} {s : Shared}
theorem rt_nolen : typeLookup (.type "reversed") "__len__" = pure none := by
  rw [typeLookup_type, builtinLookup_eq_fast] ; kernel_rfl
theorem rt_hint : typeLookup (.type "reversed") "__length_hint__" = pure (some (.builtin "reversed.__length_hint__")) := by
  rw [typeLookup_type, builtinLookup_eq_fast] ; kernel_rfl
theorem walks_rt (hh : A.handled = none) (it t : Addr) (hne : t ≠ it) (items : Array Value) (hsz : items.size ≤ sizeLine) :
    Walks prog w A it [it, t] [it] items.size (fun i v => items[items.size - 1 - i]? = some v) (fun i h => i ≤ items.size ∧ RT.IsRt h it t ((items.size : Int) - 1 - (i : Nat)) ∧ IsTup h t items) where
  sub := fun b hb => by simp at hb; simp [hb]
  frame := fun i h h' st k => ⟨st.1, st.2.1.at fun o e => k it (by simp) o e, by
    obtain ⟨o, e, r⟩ := st.2.2
    exact ⟨o, k t (by simp) o e, r⟩⟩
  item := fun i s Q E hi st hQ => by
    obtain ⟨h1, h2, h3⟩ := st
    have e1 : (items.size : Int) - 1 - ((i : Nat) : Int) = ((items.size - 1 - i : Nat) : Int) := by omega
    rw [e1] at h2
    have hx : items[items.size - 1 - i]? = some items[items.size - 1 - i] := Array.getElem?_eq_getElem (by omega)
    refine RT.next_rt_item h2 h3 hx hsz fun h' st' sb => ?_
    have e2 : ((items.size - 1 - i : Nat) : Int) - 1 = (items.size : Int) - 1 - ((i + 1 : Nat) : Int) := by omega
    rw [e2] at st'
    refine hQ _ h' _ hx ⟨hi, st', ?_⟩ fun b o hb e => (sb.2 b (fun z => hb (by simp [z]))).trans e
    obtain ⟨o, e, r⟩ := h3
    exact ⟨o, (sb.2 t hne).trans e, r⟩
  done := fun s Q E st hQ => by
    obtain ⟨h1, h2, h3⟩ := st
    have e1 : (items.size : Int) - 1 - ((items.size : Nat) : Int) = -1 := by omega
    rw [e1] at h2
    exact RT.next_rt_end hh h2 fun h' eb => hQ h' s.toks fun b o hb e => eb b o (fun z => hb (by simp [z])) e
  self := fun i s Q E st hQ => RT.iter_rt st.2.1 hQ
theorem slot_rt_hint : Slot "reversed" "__length_hint__" "reversed.__length_hint__" := .of (owner := "reversed") (n := "__length_hint__") rt_hint (by decide +kernel) (by decide +kernel)
  (by decide +kernel) (by first | exact .inl (by decide +kernel) | exact .inr (by decide +kernel)) (by rw [isSubtype_type]; kernel_rfl)
theorem entry_rt_hint : entryFor table "reversed.__length_hint__" = some Builtin.«reversed.__length_hint__» :=
  entryFor_of_tree (by kernel_rfl)
theorem args_rt_hint (a : Value) : argsOk "reversed.__length_hint__" ⟨[a], []⟩ := by
  unfold argsOk; rw [signature?_of (id := "reversed.__length_hint__") (n := ['_', '_', 't', 'n', 'i', 'h', '_', 'h', 't', 'g', 'n', 'e', 'l', '_', '_']) (o := ['d', 'e', 's', 'r', 'e', 'v', 'e', 'r']) (by kernel_rfl) RT.owner_rt]; kernel_rfl
theorem call_rt_hint {it t : Addr} {items : Array Value} {Q : Value → Shared → Prop} (h : RT.IsRt s.heap it t ((items.size : Int) - 1)) (ht : IsTup s.heap t items) (hn : items.size ≤ sizeLine)
    (q : ∀ u tk, Q (.int items.size u) { s with toks := tk }) : wpAny (model prog w) A (call (.builtin "reversed.__length_hint__") [.ref it]) Q E s := by
  have hT := RT.IsRt.typeIs h
  have hz := line63
  obtain ⟨o, ho, hc, hd⟩ := id h
  refine wpAny_call_entry slot_rt_hint hT entry_rt_hint ?_ (args_rt_hint _)
  unfold Builtin.«reversed.__length_hint__»
  refine wpAny_bind (wpAny_of_eq (a := Value.ref it) rfl ?_)
  refine wpAny_bind (wpAny_field ho hd (x := .ref t) rfl ?_)
  rw [if_neg (by intro z; exact nomatch z)]
  refine wpAny_bind (len_tuple ht (by omega) ?_)
  refine wpAny_bind (wpAny_of_eq (a := some ((items.size : Nat) : Int)) rfl ?_)
  try dsimp only
  refine wpAny_bind (wpAny_field (s := { s with toks := s.toks + 1 + 1 }) ho hd (x := rawInt ((items.size : Int) - 1)) rfl ?_)
  show wpAny _ _ (if (items.size : Int) < (items.size : Int) - 1 + 1 then _ else retInt ((items.size : Int) - 1 + 1)) _ _ _
  rw [if_neg (by omega), show (items.size : Int) - 1 + 1 = items.size by omega]
  unfold retInt
  refine wpAny_bind (wpAny_mkInt ?_)
  exact wpAny_pure ⟨_, rfl, q _ _⟩
/-- the hint of a reversed tuple -/
theorem rt_hinted {it t : Addr} {items : Array Value} {Q : Bool → Shared → Prop} (h : RT.IsRt s.heap it t ((items.size : Int) - 1)) (ht : IsTup s.heap t items) (hn : items.size ≤ sizeLine)
    (q : ∀ b tk, Q b { s with toks := tk }) : wpAny (model prog w) A (Builtin.List.listLengthHint (.ref it)) Q E s := by
  have hT := RT.IsRt.typeIs h
  have hz := line63
  unfold Builtin.List.listLengthHint
  refine wpAny_bind (wpAny_specialOf hT rt_nolen ?_)
  show wpAny _ A (specialOf (Value.ref it) (Str.ofString "__length_hint__") >>= _) _ _ _
  refine wpAny_bind (wpAny_specialOf hT rt_hint ?_)
  generalize hid : ("reversed.__length_hint__" : String) = id1
  wp_delta
  rw [show splitId id1 = some ("reversed", "__length_hint__") from by subst hid; decide +kernel]
  subst hid
  refine wpAny_bind (wpAny_isInstance (b := true) hT (by rw [isSubtype_type]; kernel_rfl) ?_)
  rw [if_neg (by decide)]
  dsimp only
  rw [if_neg (by decide)]
  refine wpAny_bind (wpAny_rule ?_)
  rw [slot_rt_hint.bind]
  refine wpAny_bind (wpAny_pure ?_)
  dsimp only
  refine wpAny_bind (wpAny_attempt ?_)
  refine (call_rt_hint h ht hn fun u tk => ?_)
  have h1 : ¬ (!Builtin.List.listFitsIndex (items.size : Int)) = true := by
    simp only [Builtin.List.listFitsIndex, Bool.not_eq_true', Bool.not_eq_false']
    simp
    omega
  have h3 : ¬ Builtin.List.listTooLong (items.size : Int).toNat = true := by
    simp only [Builtin.List.listTooLong]
    simp
    omega
  dsimp only
  simp only [asInt?, pure_bind]
  rw [if_neg h1, if_neg (by omega), if_neg h3]
  exact wpAny_pure (q _ _)
/-- S.extend(it) over a reversed tuple -/
theorem rt_extend {it t S : Addr} {items : Array Value} {R : Result → Shared → Prop} (hh : A.handled = none) (hit : RT.IsRt s.heap it t ((items.size : Int) - 1)) (ht : IsTup s.heap t items) (hne : t ≠ it) (hn : items.size ≤ sizeLine)
    (hSi : S ≠ it) (hSt : S ≠ t) (res : Value) (c₀ : Nat) (hS : s.heap.get? S = some { cls := .type "list", data := .seq #[] c₀ })
    (hR : ∀ h' tk acc' c', (∀ b o, b ≠ S → b ≠ it → s.heap.get? b = some o → h'.get? b = some o) → h'.get? S = some { cls := .type "list", dict := none, data := .seq acc' c', slots := #[] } →
      ItemsOf (fun i v => items[items.size - 1 - i]? = some v) acc' items.size → R (.ok (.ret res)) { s with heap := h', toks := tk }) :
    wpAny (model prog w) A.in1 (Builtin.List.listExtendWith (.ref S) (.ref it) res)
      (fun fin s' => match fin with | .done f => R (.ok f) s' | .again c' => c'.quiet = true ∧ codeAny (model prog w) A c' R s') (fun e s' => R (.error e) s') s := by
  have W := (walks_rt (prog := prog) (w := w) (A := A.in1) hh it t hne items hn).toS
  have hSf : S ∉ [it, t] := by simp only [List.mem_cons, List.not_mem_nil, or_false, not_or]; exact ⟨hSi, hSt⟩
  have hT := RT.IsRt.typeIs hit
  have h1 : Builtin.List.listSameRef (.ref S) (.ref it) = false := by simp [Builtin.List.listSameRef, hSi]
  unfold Builtin.List.listExtendWith
  refine wpAny_bind (wpAny_typeOf hT ?_)
  rw [if_neg (by rw [h1]; decide)]
  refine wpAny_bind (RT.iter_rt hit ?_)
  refine wpAny_bind (wpAny_holding (rt_hinted hit ht hn fun b tk => ?_))
  have e0 : ((items.size : Nat) : Int) - 1 - ((0 : Nat) : Int) = (items.size : Int) - 1 := by omega
  have key : ∀ (h : Heap) (c₁ tk : Nat), (∀ b o, b ≠ S → s.heap.get? b = some o → h.get? b = some o) → h.get? S = some { cls := .type "list", data := .seq #[] c₁ } →
      codeAny (model prog w) A (.builtin "list.extend.loop" ⟨[.ref S, .ref it, res], []⟩) R { s with heap := h, toks := tk } := fun h c₁ tk hk hS₁ => by
    have hit2 : RT.IsRt h it t ((items.size : Int) - 1) := hit.at fun o e => hk it o hSi.symm e
    have ht2 : IsTup h t items := let ⟨o, e, r⟩ := ht; ⟨o, hk t o hSt.symm e, r⟩
    refine codeAny_extend_loopS W hn _ hSf _ items.size 0 _ _ _ rfl (Nat.zero_le _) ⟨Nat.zero_le _, by rw [e0]; exact hit2, ht2⟩ hS₁ (ItemsOf.nil _) fun s' acc' c' hm hS' hacc => ?_
    rw [Moved.eq_with hm]
    refine hR s'.heap s'.toks acc' c' (fun b o hb hb2 e => hm.heap b o (fun hmem => ?_) (hk b o hb e)) hS' hacc
    rcases List.mem_cons.mp hmem with e' | hmem
    · exact hb e'
    · exact hb2 (List.mem_singleton.mp hmem)
  refine wpAny_ite_split (fun _ => ?_) (fun _ => wpAny_pure ⟨plainId_quiet F.plain_extend_loop _, key s.heap c₀ _ (fun b o _ e => e) hS⟩)
  refine wpAny_bind (wpAny_rule ?_)
  refine wpAny_bind ?_
  show wpAny _ _ (updateSeq S (·.push .none) >>= fun _ => updateSeq S (·.pop)) _ _ _
  refine wpAny_bind (wpAny_updateSeq (s := { s with toks := tk }) hS rfl ?_)
  have hS2 := Heap.get?_update_self (Obj.mapSeq (·.push Value.none)) hS rfl
  refine wpAny_updateSeq (hz := by seq_fits) hS2 rfl ?_
  have hS3 := Heap.get?_update_self (Obj.mapSeq (·.pop)) hS2 rfl
  exact wpAny_pure ⟨plainId_quiet F.plain_extend_loop _, key _ _ _ (fun b o hb e => (Heap.get?_update_other _ _ (Ne.symm hb)).trans ((Heap.get?_update_other _ _ (Ne.symm hb)).trans e)) hS3⟩
/-- list(it) -/
theorem rt_init {it t S : Addr} {items : Array Value} {R : Result → Shared → Prop} (hh : A.handled = none) (hit : RT.IsRt s.heap it t ((items.size : Int) - 1)) (ht : IsTup s.heap t items) (hne : t ≠ it) (hn : items.size ≤ sizeLine)
    (hSi : S ≠ it) (hSt : S ≠ t) (hS : s.heap.get? S = some { cls := .type "list", data := .seq #[] })
    (hR : ∀ h' tk acc' c', (∀ b o, b ≠ S → b ≠ it → s.heap.get? b = some o → h'.get? b = some o) → h'.get? S = some { cls := .type "list", dict := none, data := .seq acc' c', slots := #[] } →
      ItemsOf (fun i v => items[items.size - 1 - i]? = some v) acc' items.size → R (.ok (.ret .none)) { s with heap := h', toks := tk }) :
    wpAny (model prog w) A.in1 (Builtin.«list.__init__» ⟨[.ref S, .ref it], []⟩)
      (fun fin s' => match fin with | .done f => R (.ok f) s' | .again c' => c'.quiet = true ∧ codeAny (model prog w) A c' R s') (fun e s' => R (.error e) s') s := by
  show wpAny _ _ (do let old ← Builtin.List.listItems (.ref S); Builtin.List.listUpdate (.ref S) (fun _ => #[]); letGo old.toList.reverse; Builtin.List.listExtendWith (.ref S) (.ref it) .none) _ _ s
  refine wpAny_bind ?_
  unfold Builtin.List.listItems
  refine wpAny_bind (wpAny_seqItems hS rfl (wpAny_pure ?_))
  show wpAny _ _ (updateSeq S (fun _ => #[]) >>= fun _ => letGo (#[] : Array Value).toList.reverse >>= fun _ => Builtin.List.listExtendWith (.ref S) (.ref it) .none) _ _ s
  refine wpAny_bind (wpAny_updateSeq hS rfl ?_)
  have hS2 := Heap.get?_update_self (Obj.mapSeq (fun _ => (#[] : Array Value))) hS rfl
  have oth : ∀ b o, b ≠ S → s.heap.get? b = some o → (s.heap.update S (Obj.mapSeq (fun _ => (#[] : Array Value)))).get? b = some o := fun b o hb e => (Heap.get?_update_other _ _ (Ne.symm hb)).trans e
  refine wpAny_bind (wpAny_letGo ?_)
  have ht2 : IsTup (s.heap.update S (Obj.mapSeq (fun _ => (#[] : Array Value)))) t items := let ⟨o, e, r⟩ := ht; ⟨o, oth t o hSt.symm e, r⟩
  refine rt_extend hh (hit.at fun o e => oth it o hSi.symm e) ht2 hne hn hSi hSt .none _ hS2 fun h' tk acc' c' hk hS' hacc => ?_
  exact hR h' tk acc' c' (fun b o hb hb2 e => hk b o hb hb2 (oth b o hb e)) hS' hacc
theorem call_list_rt {it t : Addr} {items : Array Value} {Q : Value → Shared → Prop} (hh : A.handled = none) (hit : RT.IsRt s.heap it t ((items.size : Int) - 1)) (ht : IsTup s.heap t items) (hne : t ≠ it) (hn : items.size ≤ sizeLine)
    (hQ : ∀ h' tk acc' c', (∀ b o, b ≠ it → s.heap.get? b = some o → h'.get? b = some o) → h'.get? s.heap.objs.size = some { cls := .type "list", dict := none, data := .seq acc' c', slots := #[] } →
      ItemsOf (fun i v => items[items.size - 1 - i]? = some v) acc' items.size → Q (.ref s.heap.objs.size) { s with heap := h', toks := tk }) : wpAny (model prog w) A (call (.type "list") [.ref it]) Q E s := by
  refine callType_codes (Q₁ := fun obj s₁ => obj = .ref s.heap.objs.size ∧ s₁ = { s with heap := s.heap.push { cls := .type "list", data := .seq #[] } }) F.called_list (F.typeCall_list_1 _) F.entry_list_init (code_list_new _ ⟨rfl, rfl⟩) fun obj s₁ h₁ => ?_
  obtain ⟨rfl, rfl⟩ := h₁
  have hS : (s.heap.push { cls := .type "list", data := .seq #[] }).get? s.heap.objs.size = some { cls := .type "list", data := .seq #[] } := Heap.get?_push_size _ rfl
  have l1 : it < s.heap.objs.size := let ⟨o, e, _⟩ := hit; Heap.lt_size e
  have l2 : t < s.heap.objs.size := let ⟨o, e, _⟩ := ht; Heap.lt_size e
  have ht2 : IsTup (s.heap.push { cls := .type "list", data := .seq #[] }) t items := let ⟨o, e, r⟩ := ht; ⟨o, Heap.get?_push_of_some _ e, r⟩
  refine ⟨⟨_, hS, rfl⟩, F.args_list_init_2 _ _, rt_init (A := A.in1) hh (hit.at fun o e => Heap.get?_push_of_some _ e) ht2 hne hn (Nat.ne_of_gt l1) (Nat.ne_of_gt l2) hS fun h' tk acc' c' hk hS' hacc => ?_⟩
  exact ⟨rfl, hQ h' tk acc' c' (fun b o hb e => hk b o (Nat.ne_of_lt (Heap.lt_size e)) hb (Heap.get?_push_of_some _ e)) hS' hacc⟩
/-- collect(x) of a source -/
theorem collect_src {T : String} {r d : Addr} {n : Nat} {P : Nat → Value → Prop} {OK : Heap → Prop} {Q : List Value → Shared → Prop} (K : PySem.W.KdlSrc prog w T r d n P OK) (hh : A.handled = none) (hok : OK s.heap) (hn : n ≤ sizeLine)
    (hQ : ∀ (h' : Heap) (tk : Nat) (acc : Array Value), (∀ b o, s.heap.get? b = some o → h'.get? b = some o) → ItemsOf P acc n → Q acc.toList { s with heap := h', toks := tk }) : wpAny (model prog w) A (collect (.ref r)) Q E s := by
  have hlt := K.there _ hok
  unfold collect
  refine wpAny_bind (wpAny_runValue (codeAny_builtin F.entry_proto_collect ?_))
  rw [Around.under_plainId F.plain_proto_collect _]
  show wpAny _ A.in1 (newList [] >>= fun l' => again (.builtin "list.__iadd__" ⟨[l', .ref r], []⟩)) _ _ s
  refine wpAny_bind (wpAny_newObj_type ?_)
  refine wpAny_pure ⟨plainId_quiet F.plain_list_iadd _, codeAny_builtin F.entry_list_iadd ?_⟩
  rw [Around.under_plainId F.plain_list_iadd _]
  have hS : (s.heap.push { cls := .type "list", data := .seq ([] : List Value).toArray }).get? s.heap.objs.size = some { cls := .type "list", data := .seq ([] : List Value).toArray } := Heap.get?_push_size _ rfl
  show wpAny _ A.in1 (Builtin.List.listExtendWith (.ref s.heap.objs.size) (.ref r) (.ref s.heap.objs.size)) _ _ _
  have fin : ∀ (r : Result) (s' : Shared), (∃ h' tk acc' c', r = .ok (.ret (.ref s.heap.objs.size)) ∧ s' = { s with heap := h', toks := tk } ∧ (∀ b o, s.heap.get? b = some o → h'.get? b = some o) ∧
      h'.get? s.heap.objs.size = some { cls := .type "list", dict := none, data := .seq acc' c', slots := #[] } ∧ ItemsOf P acc' n) → ∃ f, r = .ok (.ret f) ∧ wpAny (model prog w) A
        (match f with | .ref a => (do match (← load a).data with | .seq xs _ => pure xs.toList | _ => unsupported "internal:collect") | _ => unsupported "internal:collect") Q E s' := by
    rintro r s' ⟨h', tk, acc', c', rfl, rfl, hk, hS', hacc⟩
    refine ⟨_, rfl, ?_⟩
    show wpAny _ A (load s.heap.objs.size >>= _) _ _ _
    exact wpAny_bind (wpAny_load hS' (wpAny_pure (hQ h' tk acc' hk hacc)))
  refine wpAny_mono (PySem.W.kdl_extend (R := fun r s' => ∃ h' tk acc' c', r = .ok (.ret (.ref s.heap.objs.size)) ∧ s' = { s with heap := h', toks := tk } ∧ (∀ b o, s.heap.get? b = some o → h'.get? b = some o) ∧
      h'.get? s.heap.objs.size = some { cls := .type "list", dict := none, data := .seq acc' c', slots := #[] } ∧ ItemsOf P acc' n) (s := { s with heap := s.heap.push { cls := .type "list", data := .seq ([] : List Value).toArray } })
      K hh (K.keep _ _ hok fun b _ o e => Heap.get?_push_of_some _ e) _ (Nat.ne_of_gt hlt.1) (Nat.ne_of_gt hlt.2) _ _ hS (fun h' tk acc' c' hk hS' hacc => ?_) hn) (fun fn s' h => ?_) (fun e s' h => ?_)
  · exact ⟨h', tk, acc', c', rfl, rfl, fun b o e => hk b o (Nat.ne_of_lt (Heap.lt_size e)) (Heap.get?_push_of_some _ e), hS', hacc⟩
  · cases fn with
    | done f =>
      obtain ⟨f', e, q⟩ := fin _ _ h
      cases e
      exact q
    | again c =>
      refine ⟨h.1, codeAny_mono h.2 fun r s'' h2 => ?_⟩
      obtain ⟨f', e, q⟩ := fin _ _ h2
      subst e
      exact q
  · obtain ⟨f', e, q⟩ := fin _ _ h
    cases e
/-- tuple(d) -/
theorem call_tuple_src {r d : Addr} {n : Nat} {P : Nat → Value → Prop} {OK : Heap → Prop} {Q : Value → Shared → Prop} (K : PySem.W.KdlSrc prog w "dict" r d n P OK) (hh : A.handled = none) (hok : OK s.heap) (hn : n ≤ sizeLine)
    (hQ : ∀ (h' : Heap) (tk : Nat) (acc : Array Value), (∀ b o, s.heap.get? b = some o → h'.get? b = some o) → ItemsOf P acc n → Q (.ref h'.objs.size) { s with heap := h'.push { cls := .type "tuple", data := .seq acc }, toks := tk }) :
    wpAny (model prog w) A (call (.type "tuple") [.ref r]) Q E s := by
  have new : codeAny (model prog w) A.in1 (.call (.builtin "tuple.__new__") ⟨[.type "tuple", .ref r], []⟩) (wants (fun obj s₁ => s₁.TypeIs obj "tuple" ∧ Q obj s₁) E) s := by
    refine codeAny_of_tree ?_
    show wpAny _ A.in1.in1 (do checkBuiltinCall "tuple.__new__" ⟨[.type "tuple", .ref r], []⟩; again (.builtin "tuple.__new__" ⟨[.type "tuple", .ref r], []⟩)) _ _ s
    refine wpAny_bind (wpAny_of_eq (F.newCall_tuple_1 _) (wpAny_pure ⟨plainId_quiet F.plain_tuple_new _, codeAny_builtin F.entry_tuple_new ?_⟩))
    rw [Around.under_plainId F.plain_tuple_new _]
    have hsub := sub_tuple_self
    have hinit := init_tuple_lookup
    have hmh := madeHere_tuple
    have hTI := K.type s hok
    have hh1 : A.in1.in1.handled = none := hh
    wp_walk using wpAny_typeOf hTI, collect_src (A := A.in1.in1) K hh1 hok hn
    intro h' tk acc hk hacc
    show wpAny _ _ (Builtin.Tuple.tupleExact acc.toList.toArray >>= fun v => ret v) _ _ _
    unfold Builtin.Tuple.tupleExact
    refine wpAny_bind (wpAny_newObj_type ?_ (by show acc.toList.toArray.size ≤ sizeLine; simp only [Array.toArray_toList]; rw [hacc.1]; exact hn))
    have e : acc.toList.toArray = acc := by simp
    rw [e]
    exact wpAny_pure ⟨⟨_, Heap.get?_push_size _ rfl, rfl⟩, hQ h' tk acc hk hacc⟩
  refine callType_codes F.called_tuple (F.typeCall_tuple_1 _) F.entry_object_init new fun obj s₁ h₁ => ?_
  exact ⟨h₁.1, F.args_object_init_2 obj _, object_init_meets F.called_tuple.init.lookup F.called_tuple.made (by decide) prog w A.in1 _ s₁ ⟨h₁.1, rfl, h₁.2⟩⟩
end
section
variable {X : Cx}
/-- tuple(d), d a dict: its keys -/
theorem call_tuple_dK (hc : X.calm = true) : CallR X (.type "tuple") (fun xs H Q => ∃ p kvs, xs = [.ref p] ∧ Rd H p (.dK kvs) ∧ ∀ q o, H q = none → o.dict = none → Q (.ref q) (upd H q (.frz o (.tup (kvs.map fun kv => kV kv.1))))) := by
  intro pins s σ H xs us Q I r h
  obtain ⟨p, kvs, rfl, hk, q⟩ := h
  obtain ⟨u, rfl, rx⟩ := vals1 r
  obtain rfl : u = Value.ref p := rx
  obtain ⟨z, lo, vs, rk, hd⟩ := (show ObjOk X.prog X.w H s.heap p (.dK kvs) from Rd.ok hk I.hok)
  obtain ⟨ep, hat⟩ := hd.dictAt
  have hl : kvs.length = vs.length := Paired.length rk
  refine call_tuple_src (PySem.W.kdl_dict (knd := mixKind X.prog X.w) (kvs := vs) (ep := ep) lo) (I.ok.hd hc) hat (by omega) fun h' tk acc hkeep hacc => ?_
  have I2 : Inv X pins σ H { s with heap := h', toks := tk } := I.kept hkeep
  refine ⟨.ref h'.objs.size, upd H h'.objs.size (.frz { cls := .type "tuple", data := .seq acc } (.tup (kvs.map fun kv => kV kv.1))), I2.laid (t' := tk) (fun c o e => Heap.get?_push_of_some _ e) (Nat.le_refl _) (show ObjOk X.prog X.w _ _ _ (.frz _ (.tup (kvs.map fun kv => kV kv.1))) from ⟨Heap.get?_push_size _ rfl, ?_, acc.toList, ?_, ?_⟩), rfl, q _ _ (I2.hok.fresh (Nat.le_refl _)) rfl⟩
  · rw [List.length_map]; exact z
  · have el : acc.toList.length = acc.size := by simp
    refine vals_of_at (by rw [List.length_map, el, hacc.1, hl]) fun j x w h1 h2 => ?_
    obtain ⟨k, y, hky, hi⟩ := hacc.2 j w (by rw [← Array.getElem?_toList]; exact h2)
    have e1 : (kvs.map (·.1))[j]? = some k := by rw [KV.keys rk, List.getElem?_map, hky] <;> rfl
    have e2 : (kvs.map fun kv => kV kv.1)[j]? = some (kV k) := by
      rw [show (kvs.map fun kv => kV kv.1) = (kvs.map (·.1)).map kV by rw [List.map_map] <;> rfl, List.getElem?_map, e1] <;> rfl
    rw [e2] at h1
    cases h1
    exact keyIs_rel hi
  · rw [Array.toArray_toList]; exact IsTup.new _ _
/-- list(reversed(x)), x a tuple -/
def tLstRev (K : PySem.W.Frag) (te : TE) : TE := fun σ H Q => te σ H fun v H1 => ∃ (a : Addr) (xs : List V), v = .ref a ∧ SqT K H1 a xs ∧ ∀ q, H1 q = none → q ≠ sysModules → Q (.ref q) (upd H1 q (.lst xs.reverse))
theorem pe_lstRev {e : Expr} {te : TE} {p p2 pos pos2 : Pos} (hc : X.calm = true) (hg : Gl X "list") (hm : X.mg "list" = none) (hg2 : Gl X "reversed") (hm2 : X.mg "reversed" = none) (he : PE X e te)
    (hs : starEach [e] X.env = (false, eval e X.env) :: starEach [] X.env := by rfl)
    (hs2 : starEach [.Call (.Name "reversed" p2) [e] [] pos2] X.env = (false, eval (.Call (.Name "reversed" p2) [e] [] pos2) X.env) :: starEach [] X.env := by rfl) :
    PE X (.Call (.Name "list" p) [.Call (.Name "reversed" p2) [e] [] pos2] [] pos) (tLstRev X.K te) := by
  refine ⟨fun pins s σ H Q I h => ?_⟩
  refine Call_ (ld_blt I hg hm boot_list (PyProof.Rows.callWith_type1 (args_cons (Call_ (ld_blt I hg2 hm2 PyProof.Rows.boot_reversed (PyProof.Rows.callWith_type1 (args_cons (thn (he.run pins s σ H _ I h) fun u s1 ⟨v, H1, I1, r1, q1⟩ => args_nil ?_) hs) hs rfl))) hs2) hs2 rfl))
  obtain ⟨a, xs, rfl, hq, q⟩ := q1
  obtain rfl : u = Value.ref a := r1
  obtain ⟨its, rv, p', hz⟩ := I1.tuple hq
  have hl := rv.length
  have hn := line63
  have hn2 : its.toArray.size ≤ sizeLine := by rw [List.size_toArray, ← rv.length]; exact hz
  refine RT.call_reversed_tup p' (fun A E Q k => len_tuple p' (by simp only [List.size_toArray] <;> omega) k) (args_nil ?_)
  have k0 : ∀ b o, s1.heap.get? b = some o → (s1.heap.push (RT.rtObj a ((its.toArray.size : Int) - 1))).get? b = some o := fun b o e => Heap.get?_push_of_some _ e
  have hne : a ≠ s1.heap.objs.size := let ⟨o, e, _⟩ := p'; Nat.ne_of_lt (Heap.lt_size e)
  have p2 : IsTup (s1.heap.push (RT.rtObj a ((its.toArray.size : Int) - 1))) a its.toArray := let ⟨o, e, r⟩ := p'; ⟨o, k0 _ _ e, r⟩
  refine call_list_rt (s := { s1 with heap := s1.heap.push (RT.rtObj a ((its.toArray.size : Int) - 1)), toks := s1.toks + 1 + 1 }) (I1.ok.hd hc) ⟨_, Heap.get?_push_size _ rfl, rfl, rfl⟩ p2 hne hn2 fun h' tk acc c' hk hS hi => ?_
  have sz : s1.heap.objs.size ≤ (s1.heap.push (RT.rtObj a ((its.toArray.size : Int) - 1))).objs.size := by simp [Heap.push]
  refine ⟨.ref _, upd H1 _ (.lst xs.reverse), I1.laid (t' := tk) (fun b o e => hk b o (Nat.ne_of_lt (Heap.lt_size e)) (k0 b o e)) sz (show ObjOk X.prog X.w _ _ _ (.lst xs.reverse) from ⟨by rw [List.length_reverse]; exact hz, acc.toList, c', RT.vals_rev rv hi, ?_⟩), rfl, q _ (I1.hok.fresh sz) (Nat.ne_of_gt (Nat.lt_of_lt_of_le I1.big sz))⟩
  rw [Array.toArray_toList]
  exact hS
end
end Kr

set_option Elab.async false
set_option linter.all false
set_option maxRecDepth 100000
set_option maxHeartbeats 4000000
namespace Kr
open PySem PySem.Spec PyProof.Rows L2
/-! statements over plain data; w: the lists of the def's own, by slot -/
abbrev Own := Nat → Option (Addr × HO)
def Cz.ext (C : Cz) (w : Own) : Cz where
  M := fun b => C.M b ∨ ∃ i vs, w i = some (b, vs)
  tok := C.tok
  J := fun H => C.J H ∧ ∀ i b vs, w i = some (b, vs) → H b = some vs
  st := fun H H' f s j => ⟨C.st H H' f (fun b o m e => s b o (.inl m) e) j.1, fun i b vs e => s _ _ (.inr ⟨i, vs, e⟩) (j.2 i b vs e)⟩
  mt := fun H b m j z => by
    rcases m with m | ⟨i, vs, e⟩
    · exact C.mt H b m j.1 z
    · rw [j.2 i b vs e] at z
      cases z
def Cz.plus (C : Cz) (p : Addr) : Cz where
  M := fun b => C.M b ∨ b = p
  tok := C.tok
  J := fun H => C.J H ∧ ∃ o, H p = some o
  st := fun H H' f s j => ⟨C.st H H' f (fun b o m e => s b o (.inl m) e) j.1, let ⟨o, e⟩ := j.2; ⟨o, s _ _ (.inr rfl) e⟩⟩
  mt := fun H b m j z => by
    rcases m with m | rfl
    · exact C.mt H b m j.1 z
    · obtain ⟨o, e⟩ := j.2
      rw [e] at z
      cases z
mutual
theorem Dq.carry {C C2 : Cz} {H H' : Hp} (k : Kx C H H') (f : Far C C2 H) : ∀ {v : V} {t : PyData}, Dq C H v t → Dq C2 H' v t
  | _, _, .non => .non
  | _, _, .bl b => .bl b
  | _, _, .int i => .int i
  | _, _, .str x => .str x
  | _, _, .lst n1 h r => .lst (f.2 _ _ h n1) (k.2 _ _ n1 h) (DqAll.carry k f r)
  | _, _, .tup h r => .tup (k.1 _ (.tup _) h) (DqAll.carry k f r)
  | _, _, .dct n1 h r => .dct (rd_get h fun o e => f.2 _ _ e n1) (k.rd n1 h) (DqKv.carry k f r)
  | _, _, .tok h => .tok (f.1 ▸ h)
  | _, _, .obj n1 h l r => .obj (f.2 _ _ h n1) (k.2 _ _ n1 h) l (DqAll.carry k f r)
theorem DqAll.carry {C C2 : Cz} {H H' : Hp} (k : Kx C H H') (f : Far C C2 H) : ∀ {vs : List V} {ds : List PyData}, DqAll C H vs ds → DqAll C2 H' vs ds
  | _, _, .nil => .nil
  | _, _, .cons h r => .cons (Dq.carry k f h) (DqAll.carry k f r)
theorem DqKv.carry {C C2 : Cz} {H H' : Hp} (k : Kx C H H') (f : Far C C2 H) : ∀ {vs : List (Key × V)} {ds : List (PyData × PyData)}, DqKv C H vs ds → DqKv C2 H' vs ds
  | _, _, .nil => .nil
  | _, _, .cons h r => .cons (Dq.carry k f h) (DqKv.carry k f r)
end
def Dis (C : Cz) (w : Own) : Prop := ∀ i b vs, w i = some (b, vs) → ¬ C.M b
theorem dis0 {C : Cz} : Dis C (fun _ => none) := fun _ _ _ e => nomatch e
theorem extE {C : Cz} {w : Own} (h : Dis C w) : Ext C (C.ext w) where
  tok := rfl
  m := fun _ m => .inl m
  j := fun _ j => j.1
  k := fun H H' j j' _ keep => ⟨j', fun i b vs e => keep b _ (.inr ⟨i, vs, e⟩) (h i b vs e) (j.2 i b vs e)⟩
theorem plusE {C : Cz} {p : Addr} (h : ¬ C.M p) : Ext C (C.plus p) where
  tok := rfl
  m := fun _ m => .inl m
  j := fun _ j => j.1
  k := fun H H' j j' _ keep => ⟨j', let ⟨o, e⟩ := j.2; ⟨o, keep p o (.inr rfl) h e⟩⟩
mutual
theorem Dq.sub {C C' : Cz} {H : Hp} (hm : ∀ b, C'.M b → C.M b) (ht : C.tok = C'.tok) : ∀ {v : V} {t : PyData}, Dq C H v t → Dq C' H v t
  | _, _, .non => .non
  | _, _, .bl b => .bl b
  | _, _, .int i => .int i
  | _, _, .str x => .str x
  | _, _, .lst n1 h r => .lst (fun m => n1 (hm _ m)) h (DqAll.sub hm ht r)
  | _, _, .tup h r => .tup h (DqAll.sub hm ht r)
  | _, _, .dct n1 h r => .dct (fun m => n1 (hm _ m)) h (DqKv.sub hm ht r)
  | _, _, .tok h => .tok (ht ▸ h)
  | _, _, .obj n1 h l r => .obj (fun m => n1 (hm _ m)) h l (DqAll.sub hm ht r)
theorem DqAll.sub {C C' : Cz} {H : Hp} (hm : ∀ b, C'.M b → C.M b) (ht : C.tok = C'.tok) : ∀ {vs : List V} {ds : List PyData}, DqAll C H vs ds → DqAll C' H vs ds
  | _, _, .nil => .nil
  | _, _, .cons h r => .cons (Dq.sub hm ht h) (DqAll.sub hm ht r)
theorem DqKv.sub {C C' : Cz} {H : Hp} (hm : ∀ b, C'.M b → C.M b) (ht : C.tok = C'.tok) : ∀ {vs : List (Key × V)} {ds : List (PyData × PyData)}, DqKv C H vs ds → DqKv C' H vs ds
  | _, _, .nil => .nil
  | _, _, .cons h r => .cons (Dq.sub hm ht h) (DqKv.sub hm ht r)
end
/-! what stood ahead keeps clear of a new place -/
mutual
theorem Dq.clear {C : Cz} {H : Hp} {p : Addr} (np : H p = none) : ∀ {v : V} {t : PyData}, Dq C H v t → Dq (C.plus p) H v t
  | _, _, .non => .non
  | _, _, .bl b => .bl b
  | _, _, .int i => .int i
  | _, _, .str x => .str x
  | _, _, .lst n1 h r => .lst (fun m => m.elim n1 (ne_of_none h np)) h (DqAll.clear np r)
  | _, _, .tup h r => .tup h (DqAll.clear np r)
  | _, _, .dct n1 h r => .dct (fun m => m.elim n1 (rd_get h fun o e => ne_of_none e np)) h (DqKv.clear np r)
  | _, _, .tok h => .tok h
  | _, _, .obj n1 h l r => .obj (fun m => m.elim n1 (ne_of_none h np)) h l (DqAll.clear np r)
theorem DqAll.clear {C : Cz} {H : Hp} {p : Addr} (np : H p = none) : ∀ {vs : List V} {ds : List PyData}, DqAll C H vs ds → DqAll (C.plus p) H vs ds
  | _, _, .nil => .nil
  | _, _, .cons h r => .cons (Dq.clear np h) (DqAll.clear np r)
theorem DqKv.clear {C : Cz} {H : Hp} {p : Addr} (np : H p = none) : ∀ {vs : List (Key × V)} {ds : List (PyData × PyData)}, DqKv C H vs ds → DqKv (C.plus p) H vs ds
  | _, _, .nil => .nil
  | _, _, .cons h r => .cons (Dq.clear np h) (DqKv.clear np r)
end
/-! a list or a dict as an object -/
inductive DqO (C : Cz) (H : Hp) : HO → PyData → Prop
  | lst {vs : List V} {ds : List PyData} : DqAll C H vs ds → DqO C H (.lst vs) (.list ds)
  | dct {kvs : List (Key × V)} {ps : List (PyData × PyData)} : DqKv C H kvs ps → DqO C H (.dK kvs) (.dict ps)
theorem DqO.keep {C : Cz} {H H' : Hp} {o : HO} {d : PyData} (k : Kx C H H') : DqO C H o d → DqO C H' o d
  | .lst r => .lst (r.keep k)
  | .dct r => .dct (r.keep k)
theorem DqO.sub {C C' : Cz} {H : Hp} {o : HO} {d : PyData} (hm : ∀ b, C'.M b → C.M b) (ht : C.tok = C'.tok) : DqO C H o d → DqO C' H o d
  | .lst r => .lst (r.sub hm ht)
  | .dct r => .dct (r.sub hm ht)
theorem DqO.clear {C : Cz} {H : Hp} {p : Addr} {o : HO} {d : PyData} (np : H p = none) : DqO C H o d → DqO (C.plus p) H o d
  | .lst r => .lst (r.clear np)
  | .dct r => .dct (r.clear np)
theorem DqO.dq {C : Cz} {H : Hp} {a : Addr} {o : HO} {d : PyData} (m : ¬ C.M a) (h : H a = some o) : DqO C H o d → Dq C H (.ref a) d
  | .lst r => .lst m h r
  | .dct r => .dct m (.inl h) r
theorem DqO.notFz {C : Cz} {H : Hp} {o : HO} {d : PyData} (h : DqO C H o d) (x : Fzd) : ¬ FzO o x := by
  cases h
  · exact fzLst
  · exact fzDk
theorem Kx.ext {C : Cz} {H H' : Hp} {w : Own} (k : Kx C H H') : Kx (C.ext w) H H' := ⟨k.1, fun b o m e => k.2 b o (fun z => m (.inl z)) e⟩
theorem Kx.plus {C : Cz} {H H' : Hp} {p : Addr} (k : Kx C H H') : Kx (C.plus p) H H' := ⟨k.1, fun b o m e => k.2 b o (fun z => m (.inl z)) e⟩
theorem Kx.free {C : Cz} {H H' : Hp} {p : Addr} (k : Kx C H H') (m : ¬ C.M p) (np : H' p = none) : H p = none := by
  cases e : H p with
  | none => rfl
  | some o =>
    rw [k.2 p o m e] at np
    cases np
def notIn (w : Own) (b : Addr) : Prop := ∀ i vs, w i ≠ some (b, vs)
/-- what stays on the way: tuples, and all that is neither the deck's nor an own list -/
def St (C : Cz) (H : Hp) (w : Own) (H' : Hp) (w' : Own) : Prop := FzK H H' ∧ ∀ b o, ¬ C.M b → notIn w b → H b = some o → H' b = some o ∧ notIn w' b
def KxO (C : Cz) (w : Own) (H H' : Hp) : Prop := FzK H H' ∧ ∀ b o, ¬ C.M b → notIn w b → H b = some o → H' b = some o
theorem St.kx {C : Cz} {H H' : Hp} {w w' : Own} (s : St C H w H' w') : KxO C w H H' := ⟨s.1, fun b o m n e => (s.2 b o m n e).1⟩
theorem St.refl {C : Cz} {H : Hp} {w : Own} : St C H w H w := ⟨fun _ _ e => e, fun b o m n e => ⟨e, n⟩⟩
theorem St.trans {C : Cz} {H H1 H2 : Hp} {w w1 w2 : Own} (a : St C H w H1 w1) (b : St C H1 w1 H2 w2) : St C H w H2 w2 := ⟨fun c xs e => b.1 c xs (a.1 c xs e), fun c o m n e => let ⟨e1, n1⟩ := a.2 c o m n e; b.2 c o m n1 e1⟩
theorem St.thenO {C : Cz} {H H1 H2 : Hp} {w w1 : Own} (a : St C H w H1 w1) (b : KxO C w1 H1 H2) : KxO C w H H2 := ⟨fun c xs e => b.1 c xs (a.1 c xs e), fun c o m n e => let ⟨e1, n1⟩ := a.2 c o m n e; b.2 c o m n1 e1⟩
theorem St.thenK {C : Cz} {H H1 H2 : Hp} {w w1 : Own} (a : St C H w H1 w1) (b : Kx C H1 H2) : St C H w H2 w1 := ⟨fun c xs e => b.1 c xs (a.1 c xs e), fun c o m n e => let ⟨e1, n1⟩ := a.2 c o m n e; ⟨b.2 c o m e1, n1⟩⟩
theorem KxO.ext {C : Cz} {H H' : Hp} {w : Own} (k : KxO C w H H') : Kx (C.ext w) H H' := ⟨k.1, fun b o m e => k.2 b o (fun z => m (.inl z)) (fun i vs z => m (.inr ⟨i, vs, z⟩)) e⟩
structure SOk (C : Cz) (Ow : List Nat) (H0 : Hp) (w0 : Own) (H : Hp) (σ : L2.St) (ρ : Rho) (w : Own) : Prop where
  len : ρ.length = σ.length
  j : C.J H
  k : St C H0 w0 H w
  inj : ∀ i j b vs us, w i = some (b, vs) → w j = some (b, us) → i = j
  dom : ∀ i b vs, w i = some (b, vs) → i ∈ Ow ∧ ¬ C.M b ∧ σ[i]? = some (some (.ref b)) ∧ H b = some vs ∧ ∃ ds, ρ[i]? = some (some ds) ∧ DqO (C.ext w) H vs ds
  all : ∀ i, i ∈ Ow → (∃ d : PyData, ρ[i]? = some (some d)) → ∃ x, w i = some x
  at_ : ∀ (i : Nat) (d : PyData), i ∉ Ow → ρ[i]? = some (some d) → ∃ v, σ[i]? = some (some v) ∧ Dq (C.ext w) H v d
section
variable {C : Cz} {Ow : List Nat} {H0 H H' : Hp} {w0 : Own} {σ : L2.St} {ρ : Rho} {w : Own}
theorem ext_sub {v : V} {t : PyData} (h : Dq (C.ext w) H v t) : Dq C H v t := Dq.sub (C := C.ext w) (C' := C) (fun _ m => Or.inl m) rfl h
theorem SOk.dis (h : SOk C Ow H0 w0 H σ ρ w) : Dis C w := fun i b vs e => (h.dom i b vs e).2.1
theorem ext_subo {v : HO} {t : PyData} (h : DqO (C.ext w) H v t) : DqO C H v t := DqO.sub (C := C.ext w) (C' := C) (fun _ m => Or.inl m) rfl h
theorem ext_subs {v : List V} {t : List PyData} (h : DqAll (C.ext w) H v t) : DqAll C H v t := DqAll.sub (C := C.ext w) (C' := C) (fun _ m => Or.inl m) rfl h
/-- all slots as plain data -/
theorem SOk.env (h : SOk C Ow H0 w0 H σ ρ w) : EnvOk C H σ ρ := ⟨h.len, fun i d e => by
  by_cases hi : i ∈ Ow
  · obtain ⟨⟨b, vs⟩, hw⟩ := h.all i hi ⟨d, e⟩
    obtain ⟨_, m, hs, hb, ds, hd, r⟩ := h.dom i b vs hw
    rw [hd] at e
    cases e
    exact ⟨_, hs, (ext_subo r).dq m hb⟩
  · obtain ⟨v, e1, r⟩ := h.at_ i d hi e
    exact ⟨v, e1, ext_sub r⟩⟩
/-- the heap has grown -/
theorem SOk.keep (h : SOk C Ow H0 w0 H σ ρ w) (k : Kx C H H') (j : C.J H') : SOk C Ow H0 w0 H' σ ρ w where
  len := h.len
  j := j
  k := h.k.thenK k
  inj := h.inj
  dom := fun i b vs e => by
    obtain ⟨a1, m, a4, hb, ds, hd, r⟩ := h.dom i b vs e
    exact ⟨a1, m, a4, k.2 b _ m hb, ds, hd, r.keep k.ext⟩
  all := h.all
  at_ := fun i d hi e => by
    obtain ⟨v, e1, r⟩ := h.at_ i d hi e
    exact ⟨v, e1, r.keep k.ext⟩
theorem getElem?_set {α : Type} (l : List α) (i j : Nat) (x y : α) (e : (l.set i x)[j]? = some y) : (i = j ∧ x = y ∧ i < l.length) ∨ (i ≠ j ∧ l[j]? = some y) := by
  by_cases h : i = j
  · subst h
    by_cases hl : i < l.length
    · rw [List.getElem?_set_self hl] at e
      exact .inl ⟨rfl, Option.some.inj e, hl⟩
    · rw [List.getElem?_eq_none (by simp; omega)] at e
      cases e
  · rw [List.getElem?_set_ne h] at e
    exact .inr ⟨h, e⟩
/-- a slot that is none of the own lists' is stored -/
theorem SOk.set (h : SOk C Ow H0 w0 H σ ρ w) {k : Nat} (hk : k ∉ Ow) {v : V} {d : PyData} (r : Dq C H v d) (hd : Ow = [] ∨ noL d = true) : SOk C Ow H0 w0 H (σ.set k (some v)) (ρ.set k (some d)) w where
  len := by simp [h.len]
  j := h.j
  k := h.k
  inj := h.inj
  dom := fun i b vs e => by
    obtain ⟨a1, m, a4, hb, ds, hds, q⟩ := h.dom i b vs e
    have ne : k ≠ i := fun z => hk (by rw [z]; exact a1)
    exact ⟨a1, m, by rw [List.getElem?_set_ne ne]; exact a4, hb, ds, by rw [List.getElem?_set_ne ne]; exact hds, q⟩
  all := fun i hi ⟨e, he⟩ => by
    rw [List.getElem?_set_ne (show k ≠ i from fun z => hk (by rw [z]; exact hi))] at he
    exact h.all i hi ⟨e, he⟩
  at_ := fun i e hi he => by
    rcases getElem?_set _ _ _ _ _ he with ⟨rfl, q, hl⟩ | ⟨ne, q⟩
    · cases q
      refine ⟨v, List.getElem?_set_self (by rw [← h.len]; exact hl), ?_⟩
      rcases hd with hd | hd
      · refine Dq.sub (C := C) (C' := C.ext w) (fun b m => ?_) rfl r
        rcases m with m | ⟨j, vs, z⟩
        · exact m
        · have := (h.dom j b vs z).1
          rw [hd] at this
          exact absurd this List.not_mem_nil
      · exact r.noL hd
    · obtain ⟨u, e1, q⟩ := h.at_ i e hi q
      exact ⟨u, by rw [List.getElem?_set_ne ne]; exact e1, q⟩
end
structure End0 where
  nx : Rho → Prop
  rt : PyData → Prop
  bk : Rho → Prop := fun _ => False
  ct : Rho → Prop := fun _ => False
def End0.le (D D' : End0) : Prop := (∀ ρ, D.nx ρ → D'.nx ρ) ∧ (∀ d, D.rt d → D'.rt d) ∧ (∀ ρ, D.bk ρ → D'.bk ρ) ∧ ∀ ρ, D.ct ρ → D'.ct ρ
abbrev P0S := End0 → Rho → Prop
def KE (C : Cz) (Ow : List Nat) (H0 : Hp) (w0 : Own) (D : Ends) : End0 where
  nx := fun ρ' => ∀ σ' H' w, SOk C Ow H0 w0 H' σ' ρ' w → D.nx σ' H'
  rt := fun d => ∀ v H', KxO C w0 H0 H' → C.J H' → Dq C H' v d → D.rt v H'
  bk := fun ρ' => ∀ σ' H' w, SOk C Ow H0 w0 H' σ' ρ' w → D.bk σ' H'
  ct := fun ρ' => ∀ σ' H' w, SOk C Ow H0 w0 H' σ' ρ' w → D.ct σ' H'
def lfS (C : Cz) (Ow : List Nat) (H0 : Hp) (w0 : Own) (t : P0S) : TS := fun D σ H => ∃ ρ w, SOk C Ow H0 w0 H σ ρ w ∧ t (KE C Ow H0 w0 D) ρ
structure QS (X : Cx) (C : Cz) (Ow : List Nat) (s : Stmt) (t : P0S) : Prop where
  ps : ∀ H0 w0, PS X s (lfS C Ow H0 w0 t)
  mono : ∀ ρ D D', t D ρ → End0.le D D' → t D' ρ
structure QSs (X : Cx) (C : Cz) (Ow : List Nat) (s : List Stmt) (t : P0S) : Prop where
  ps : ∀ H0 w0, PSs X s (lfS C Ow H0 w0 t)
  mono : ∀ ρ D D', t D ρ → End0.le D D' → t D' ρ
theorem PS.weak {X : Cx} {e : Stmt} {t t' : TS} (h : PS X e t) (w : ∀ D σ H, t' D σ H → t D σ H) : PS X e t' := ⟨fun pins s σ H D I q => h.run pins s σ H D I (w D σ H q)⟩
theorem PSs.weak {X : Cx} {e : List Stmt} {t t' : TS} (h : PSs X e t) (w : ∀ D σ H, t' D σ H → t D σ H) : PSs X e t' := ⟨fun pins s σ H D I q => h.run pins s σ H D I (w D σ H q)⟩
theorem End0.le_refl (D : End0) : End0.le D D := ⟨fun _ h => h, fun _ h => h, fun _ h => h, fun _ h => h⟩
section
variable {X : Cx} {C : Cz} {Ow : List Nat} {H0 : Hp} {st : Stmt} {rest : List Stmt} {t u : P0S} {pos : Pos} {a : Expr} {ta : P0} {tA : P0T}
/-! sequences -/
@[simp] def sNext : P0S := fun D ρ => D.nx ρ
@[simp] def sSeq (t u : P0S) : P0S := fun D ρ => t { D with nx := u D } ρ
theorem qss_nil : QSs X C Ow [] sNext := ⟨fun H0 w0 => PSs.weak pss_nil fun D σ H ⟨ρ, w, h, q⟩ => q σ H w h, fun ρ D D' h l => l.1 _ h⟩
theorem qss_cons (h1 : QS X C Ow st t) (h2 : QSs X C Ow rest u) : QSs X C Ow (st :: rest) (sSeq t u) := by
  refine ⟨fun H0 w0 => PSs.weak (pss_cons (h1.ps H0 w0) (h2.ps H0 w0)) fun D σ H h => ?_, fun ρ D D' h l => h1.mono ρ { D with nx := u D } { D' with nx := u D' } h ⟨fun ρ' q => h2.mono _ _ _ q l, l.2⟩⟩
  obtain ⟨ρ, w, h, q⟩ := h
  exact ⟨ρ, w, h, h1.mono ρ { KE C Ow H0 w0 D with nx := u (KE C Ow H0 w0 D) } _ q ⟨fun ρ' q σ' H' w' h' => ⟨ρ', w', h', q⟩, fun _ q => q, fun _ q => q, fun _ q => q⟩⟩
theorem qss_one (h1 : QS X C Ow st t) : QSs X C Ow [st] t := ⟨fun H0 w0 => pss_one (h1.ps H0 w0), h1.mono⟩
theorem qs_pass : QS X C Ow (.Pass pos) sNext := ⟨fun H0 w0 => PS.weak ps_pass fun D σ H ⟨ρ, w, h, q⟩ => q σ H w h, fun ρ D D' h l => l.1 _ h⟩
theorem qs_continue : QS X C Ow (.Continue pos) (fun D ρ => D.ct ρ) := ⟨fun H0 w0 => PS.weak ps_continue fun D σ H ⟨ρ, w, h, q⟩ => q σ H w h, fun ρ D D' h l => l.2.2.2 _ h⟩
theorem qs_break : QS X C Ow (.Break pos) (fun D ρ => D.bk ρ) := ⟨fun H0 w0 => PS.weak ps_break fun D σ H ⟨ρ, w, h, q⟩ => q σ H w h, fun ρ D D' h l => l.2.2.1 _ h⟩
@[simp] def sRet (t : P0) : P0S := fun D ρ => t ρ D.rt
theorem qs_ret (h : QE X C a ta) : QS X C Ow (.Return (some a) pos) (sRet ta) := by
  refine ⟨fun H0 w0 => PS.weak (ps_ret h.pe) fun D σ H q => ?_, fun ρ D D' q l => h.mono _ _ _ l.2.1 q⟩
  obtain ⟨ρ, w, s, q⟩ := q
  exact ⟨ρ, s.env, s.j, h.mono _ _ _ (fun d q v H' k j r => q v H' (s.k.thenK k).kx j r) q⟩
theorem qs_retN : QS X C Ow (.Return none pos) (fun D _ => D.rt .none) := by
  refine ⟨fun H0 w0 => PS.weak ps_retN fun D σ H q => ?_, fun ρ D D' q l => l.2.1 _ q⟩
  obtain ⟨ρ, w, s, q⟩ := q
  exact q .non H s.k.kx s.j .non
@[simp] def sSet (Ow : List Nat) (k : Nat) (t : P0) : P0S := fun D ρ => t ρ fun d => (Ow = [] ∨ noL d = true) ∧ D.nx (ρ.set k (some d))
theorem qs_set {k : Nat} {x : Str} {pos' : Pos} (hk : k ∉ Ow) (hN : X.N.Nodup) (hi : X.N[k]? = some x) (hx : Loc X.env.scope x) (h : QE X C a ta) (hs : swapsWith a (some (.Name x pos')) pos.line X.env = pure false := by rfl) (hf : X.fn x = true ∨ X.env.scope.names.lookup x = some .local := by first | exact .inl rfl | exact .inr rfl | assumption) :
    QS X C Ow (.Assign [.Name x pos'] a pos) (sSet Ow k ta) := by
  refine ⟨fun H0 w0 => PS.weak (ps_set hN hi hx h.pe hs hf) fun D σ H q => ?_, fun ρ D D' q l => h.mono _ _ _ (fun d q => ⟨q.1, l.1 _ q.2⟩) q⟩
  obtain ⟨ρ, w, s, q⟩ := q
  exact ⟨ρ, s.env, s.j, h.mono _ _ _ (fun d q v H' k1 j r => q.2 _ H' w ((s.keep k1 j).set hk r q.1)) q⟩
@[simp] def sIf (tA : P0T) (t u : P0S) : P0S := fun D ρ => tA ρ fun k => if k = true then t D ρ else u D ρ
theorem qs_if {c : Expr} {as bs : List Stmt} (hc : QT X C c tA) (ha : QSs X C Ow as t) (hb : QSs X C Ow bs u) : QS X C Ow (.If c as bs pos) (sIf tA t u) := by
  refine ⟨fun H0 w0 => PS.weak (ps_if hc.pt (ha.ps H0 w0) (hb.ps H0 w0)) fun D σ H q => ?_, fun ρ D D' q l => hc.mono _ _ _ (fun k q => ?_) q⟩
  · obtain ⟨ρ, w, s, q⟩ := q
    refine ⟨ρ, s.env, s.j, hc.mono _ _ _ (fun k q H' k1 j => ?_) q⟩
    cases k with
    | true => exact ⟨ρ, w, s.keep k1 j, q⟩
    | false => exact ⟨ρ, w, s.keep k1 j, q⟩
  · cases k with
    | true => exact ha.mono _ _ _ q l
    | false => exact hb.mono _ _ _ q l
@[simp] def sDrop (t : P0) : P0S := fun D ρ => t ρ fun _ => D.nx ρ
theorem qs_expr (h : QE X C a ta) (hs : swapsWith a none pos.line X.env = pure false := by rfl) : QS X C Ow (.Expr a pos) (sDrop ta) := by
  refine ⟨fun H0 w0 => PS.weak (ps_expr h.pe hs) fun D σ H q => ?_, fun ρ D D' q l => h.mono _ _ _ (fun d q => l.1 _ q) q⟩
  obtain ⟨ρ, w, s, q⟩ := q
  exact ⟨ρ, s.env, s.j, h.mono _ _ _ (fun d q v H' k1 j r => q σ H' w (s.keep k1 j)) q⟩
/-! while -/
def sWhile (tA : P0T) (t : P0S) : P0S := fun D ρ => ∃ W : Nat → Rho → Prop, (∃ m, W m ρ) ∧ ∀ m ρ, W m ρ → tA ρ fun k => if k = true then t { D with nx := fun ρ' => ∃ m', m' < m ∧ W m' ρ', ct := fun ρ' => ∃ m', m' < m ∧ W m' ρ', bk := D.nx } ρ else D.nx ρ
theorem qs_while {c : Expr} {body : List Stmt} (hp : PassesOwn (model X.prog X.w) X.A X.env X.xe) (hc : QT X C c tA) (hb : QSs X C Ow body t) : QS X C Ow (.While c body [] pos) (sWhile tA t) := by
  refine ⟨fun H0 w0 => PS.weak (ps_while hp hc.pt (hb.ps H0 w0)) fun D σ H q => ?_, fun ρ D D' q l => ?_⟩
  · obtain ⟨ρ, w, s, W, ⟨m, wz⟩, turn⟩ := q
    refine ⟨fun m σ H => ∃ ρ w, SOk C Ow H0 w0 H σ ρ w ∧ W m ρ, ⟨m, ρ, w, s, wz⟩, fun m σ H ⟨ρ, w, s, wm⟩ => ?_⟩
    refine ⟨ρ, s.env, s.j, hc.mono _ _ _ (fun k q H' k1 j => ?_) (turn m ρ wm)⟩
    have s' := s.keep k1 j
    cases k with
    | true =>
      rw [if_pos rfl] at q
      refine ⟨fun σ' H' => ∃ m', m' < m ∧ ∃ ρ w, SOk C Ow H0 w0 H' σ' ρ w ∧ W m' ρ, fun σ' H' h => h, ρ, w, s', hb.mono _ _ _ q ⟨?_, fun _ q => q, fun _ q => q, ?_⟩⟩
      · intro ρ' h σ' H' w' h'
        obtain ⟨m', hm, q⟩ := h
        exact ⟨m', hm, ρ', w', h', q⟩
      · intro ρ' h σ' H' w' h'
        obtain ⟨m', hm, q⟩ := h
        exact ⟨m', hm, ρ', w', h', q⟩
    | false => exact q σ H' w s'
  · obtain ⟨W, wz, turn⟩ := q
    refine ⟨W, wz, fun m ρ wm => hc.mono _ _ _ (fun k q => ?_) (turn m ρ wm)⟩
    cases k with
    | true =>
      rw [if_pos rfl] at q ⊢
      exact hb.mono _ _ _ q ⟨fun _ q => q, l.2.1, l.1, fun _ q => q⟩
    | false => exact l.1 _ q
/-! what a loop walks -/
/-- an item; for a tuple of targets a tuple may do that is not known to its object -/
def DqT (tg : Expr) (C : Cz) (H : Hp) (v : V) (d : PyData) : Prop := Dq C H v d ∨ ((∃ es k p, tg = .Tuple es k p) ∧ ∃ a xs ds, v = .ref a ∧ d = .tuple ds ∧ H a = some (.tup xs) ∧ DqAll C H xs ds)
theorem DqT.tw {es : List Expr} {k : Nat} {p : Pos} {C : Cz} {H : Hp} {a : Addr} {xs : List V} {ds : List PyData} (h : H a = some (.tup xs)) (r : DqAll C H xs ds) : DqT (.Tuple es k p) C H (.ref a) (.tuple ds) := .inr ⟨⟨es, k, p, rfl⟩, a, xs, ds, rfl, rfl, h, r⟩
def IsIt (tg : Expr) (C : Cz) (H1 : Hp) (J : It) (ds : List PyData) : Prop := ∀ i H, Kx C H1 H → (i = ds.length → J.stop i H) ∧ ∀ d, ds[i]? = some d → J.go i H ∧ ∀ x H', J.yld i H x H' → Same H H' ∧ ∀ C2, Far C C2 H1 → DqT tg C2 H' x d
def lfI (tg : Expr) (C : Cz) (t : P0A) : TI := fun σ H R => ∃ ρ, EnvOk C H σ ρ ∧ C.J H ∧ t ρ fun ds => ∀ J H', Kx C H H' → C.J H' → IsIt tg C H' J ds → R J H'
structure QI (X : Cx) (C : Cz) (tg e : Expr) (t : P0A) : Prop where
  pi : PI X tg e (lfI tg C t)
  mono : ∀ ρ Q Q', (∀ d, Q d → Q' d) → t ρ Q → t ρ Q'
theorem PI.weak {tg e : Expr} {t t' : TI} (h : PI X tg e t) (w : ∀ σ H R, t' σ H R → t σ H R) : PI X tg e t' := ⟨fun pins s σ H R I q => h.run pins s σ H R I (w σ H R q)⟩
theorem qi_list {tg : Expr} (h : QE X C a ta) : QI X C tg a (fun ρ Q => ta ρ fun d => ∃ ds, d = .list ds ∧ Q ds) := by
  refine ⟨PI.weak (pi_list h.pe) fun σ H R q => ?_, fun ρ Q Q' w q => h.mono _ _ _ (fun d ⟨ds, e, q⟩ => ⟨ds, e, w _ q⟩) q⟩
  obtain ⟨ρ, he, j, q⟩ := q
  refine ⟨ρ, he, j, h.mono _ _ _ (fun d ⟨ds, e, q⟩ v H' k1 j1 r => ?_) q⟩
  subst e
  cases r with
  | @lst a xs _ n1 hH hr =>
    refine ⟨a, rfl, ⟨xs, .inl (.inl hH)⟩, q _ H' k1 j1 fun i H2 k2 => ?_⟩
    have hH2 := k2.2 _ _ n1 hH
    refine ⟨fun e => ⟨xs, .inl (.inl hH2), by rw [hr.length]; omega⟩, fun d e => ?_⟩
    obtain ⟨x, hx, hd⟩ := hr.get e
    refine ⟨⟨xs, x, .inl (.inl hH2), hx⟩, fun y H3 hy => ?_⟩
    obtain ⟨rfl, hy⟩ := hy
    have : y = x := Option.some.inj ((hy xs (.inl (.inl hH2))).symm.trans hx)
    subst this
    exact ⟨Same.refl _, fun C2 f => .inl (hd.carry k2 f)⟩
theorem qi_tup {tg : Expr} (h : QE X C a ta) : QI X C tg a (fun ρ Q => ta ρ fun d => ∃ ds, d = .tuple ds ∧ Q ds) := by
  refine ⟨PI.weak (pi_tup h.pe) fun σ H R q => ?_, fun ρ Q Q' w q => h.mono _ _ _ (fun d ⟨ds, e, q⟩ => ⟨ds, e, w _ q⟩) q⟩
  obtain ⟨ρ, he, j, q⟩ := q
  refine ⟨ρ, he, j, h.mono _ _ _ (fun d ⟨ds, e, q⟩ v H' k1 j1 r => ?_) q⟩
  subst e
  cases r with
  | @tup a xs _ hH hr =>
    refine ⟨a, rfl, ⟨xs, hH.sq⟩, q _ H' k1 j1 fun i H2 k2 => ?_⟩
    have hH2 := k2.1 _ (.tup _) hH
    refine ⟨fun e => ⟨xs, hH2.sq, by rw [hr.length]; omega⟩, fun d e => ?_⟩
    obtain ⟨x, hx, hd⟩ := hr.get e
    refine ⟨⟨xs, x, hH2.sq, hx⟩, fun y H3 hy => ?_⟩
    obtain ⟨rfl, hy⟩ := hy
    have : y = x := Option.some.inj ((hy xs hH2.sq).symm.trans hx)
    subst this
    exact ⟨Same.refl _, fun C2 f => .inl (hd.carry k2 f)⟩
def intsD (lo : Int) (n : Nat) : List PyData := (List.range n).map fun (i : Nat) => PyData.int (lo + (i : Nat))
theorem qi_range1 {tg : Expr} {p : Pos} (hg : Gl X "range") (hm : X.mg "range" = none) (h : QE X C a ta) (hs : starEach [a] X.env = [(false, eval a X.env)] := by rfl) (hs2 : starEach [a] X.env = (false, eval a X.env) :: starEach [] X.env := by rfl) :
    QI X C tg (.Call (.Name "range" p) [a] [] pos) (fun ρ Q => ta ρ fun d => ∃ j : Int, d = .int j ∧ (-(2 ^ 62) ≤ j ∧ j < 2 ^ 62) ∧ Q (intsD 0 j.toNat)) := by
  refine ⟨PI.weak (pi_range1 hg hm (pa_cons h.pe pa_nil hs2) hs) fun σ H R q => ?_, fun ρ Q Q' w q => h.mono _ _ _ (fun d ⟨ds, e, c, q⟩ => ⟨ds, e, c, w _ q⟩) q⟩
  obtain ⟨ρ, he, j, q⟩ := q
  refine ⟨ρ, he, j, h.mono _ _ _ (fun d ⟨n, e, c, q⟩ v H' k1 j1 r => ?_) q⟩
  subst e
  cases r with
  | int i =>
    refine ⟨n, rfl, c.1, c.2, q _ H' k1 j1 fun i H2 k2 => ?_⟩
    refine ⟨fun e => ?_, fun d e => ?_⟩
    · show n.toNat ≤ i
      rw [e]
      simp [intsD]
    · have e' : ((List.range n.toNat).map fun i => PyData.int ((0 : Int) + (i : Nat)))[i]? = some d := e
      rw [List.getElem?_map] at e'
      by_cases hi : i < n.toNat
      · rw [List.getElem?_range hi] at e'
        cases e'
        refine ⟨hi, fun x H3 hy => ?_⟩
        obtain ⟨rfl, rfl⟩ := hy
        exact ⟨Same.refl _, fun _ _ => .inl (.int _)⟩
      · rw [List.getElem?_eq_none (by simp; omega)] at e'
        cases e'
end
end Kr

set_option Elab.async false
set_option linter.all false
set_option maxRecDepth 100000
set_option maxHeartbeats 4000000
namespace Kr
open PySem PySem.Spec PyProof.Rows L2
/-! targets: which slot gets what -/
abbrev Dec := PyData → Option (List (Nat × PyData))
@[simp] def setsR (ρ : Rho) : List (Nat × PyData) → Rho
  | [] => ρ
  | (k, d) :: r => setsR (ρ.set k (some d)) r
def setsS (σ : L2.St) : List (Nat × V) → L2.St
  | [] => σ
  | (k, v) :: r => setsS (σ.set k (some v)) r
inductive Got (C : Cz) (H : Hp) : List (Nat × V) → List (Nat × PyData) → Prop
  | nil : Got C H [] []
  | cons {k : Nat} {v : V} {d : PyData} {vs : List (Nat × V)} {l : List (Nat × PyData)} : Dq C H v d → Got C H vs l → Got C H ((k, v) :: vs) ((k, d) :: l)
theorem gotSub {C : Cz} {w : Own} {H : Hp} : ∀ {vs : List (Nat × V)} {l : List (Nat × PyData)}, Got (C.ext w) H vs l → Got C H vs l
  | _, _, .nil => .nil
  | _, _, .cons r t => .cons (ext_sub r) (gotSub t)
structure QG (X : Cx) (K : PySem.W.Frag) (C : Cz) (tg : Expr) (G : TG) (dec : Dec) : Prop where
  pg : PG X tg G
  go : ∀ H σ x d l Q, DqT tg C H x d → dec d = some l → (∀ vs, Got C H vs l → Q (setsS σ vs) H) → G x σ H Q
@[simp] def dName (k : Nat) : Dec := fun d => some [(k, d)]
def dTup (ks : List Nat) : Dec := fun d => match d with
  | .tuple ds => if ds.length = ks.length then some (ks.zip ds) else none
  | _ => none
section
variable {X : Cx} {C : Cz}
theorem qg_name {k : Nat} {x : Str} {pos : Pos} (hN : X.N.Nodup) (hi : X.N[k]? = some x) (hx : Loc X.env.scope x) (hf : X.fn x = true ∨ X.env.scope.names.lookup x = some .local := by first | exact .inl rfl | exact .inr rfl | assumption) : QG X X.K C (.Name x pos) (gName k) (dName k) :=
  ⟨pg_name hN hi hx hf, fun H σ x d l Q r e q => by
    cases e
    rcases r with r | ⟨⟨_, _, _, z⟩, _⟩
    · exact q [(k, x)] (.cons r .nil)
    · cases z⟩
def gNames : List Nat → TGs
  | [] => gNil
  | k :: ks => gCons (gName k) (gNames ks)
theorem gNames_go {C : Cz} {H : Hp} {Q : L2.St → Hp → Prop} : ∀ (ks : List Nat) (xs : List V) (ds : List PyData) (σ : L2.St), DqAll C H xs ds → ds.length = ks.length → (∀ vs, Got C H vs (ks.zip ds) → Q (setsS σ vs) H) → gNames ks xs σ H Q
  | [], _, _, σ, .nil, _, q => ⟨rfl, q [] .nil⟩
  | k :: ks, _, _, σ, .cons (v := v) (vs := vs) (e := e) (ds := ds) h r, hl, q => ⟨v, vs, rfl, gNames_go ks vs ds _ r (by simpa using hl) fun ws hw => q ((k, v) :: ws) (.cons h hw)⟩
  | _ :: _, _, _, _, .nil, hl, _ => by simp at hl
theorem qg_tup {es : List Expr} {k : Nat} {ks : List Nat} {pos : Pos} (h : PG X (.Tuple es k pos) (gTup X.K ks.length (gNames ks))) : QG X X.K C (.Tuple es k pos) (gTup X.K ks.length (gNames ks)) (dTup ks) :=
  ⟨h, fun H σ x d l Q r e q => by
    have go : ∀ a xs ds, x = .ref a → d = .tuple ds → SqT X.K H a xs → DqAll C H xs ds → gTup X.K ks.length (gNames ks) x σ H Q := fun a xs ds ex ed hH hr => by
      subst ex ed
      have e' : (if ds.length = ks.length then some (ks.zip ds) else none) = some l := e
      by_cases hl : ds.length = ks.length
      · rw [if_pos hl] at e'
        cases e'
        exact ⟨a, xs, rfl, hH, by rw [hr.length]; exact hl, gNames_go ks xs ds σ hr hl q⟩
      · rw [if_neg hl] at e'
        cases e'
    rcases r with r | ⟨_, a, xs, ds, ex, ed, hH, hr⟩
    · cases r with
      | @tup a xs ds hH hr => exact go a xs ds rfl rfl hH.sq hr
      | _ => cases e
    · exact go a xs ds ex ed (.inl (.inl hH)) hr⟩
end
def noLp (l : List (Nat × PyData)) : Bool := noLs (l.map (·.2))
section
variable {C : Cz} {Ow : List Nat} {H0 H H' : Hp} {w0 : Own} {σ : L2.St} {ρ : Rho} {w : Own}
theorem SOk.sets : ∀ (l : List (Nat × PyData)) (vs : List (Nat × V)) (σ : L2.St) (ρ : Rho), SOk C Ow H0 w0 H σ ρ w → (∀ p ∈ l, p.1 ∉ Ow) → (Ow = [] ∨ noLp l = true) → Got C H vs l → SOk C Ow H0 w0 H (setsS σ vs) (setsR ρ l) w
  | _, _, _, _, h, _, _, .nil => h
  | (k, d) :: l, (_, v) :: vs, σ, ρ, h, hk, hn, .cons r t => by
    have hn2 : (Ow = [] ∨ noL d = true) ∧ (Ow = [] ∨ noLp l = true) := by
      rcases hn with hn | hn
      · exact ⟨.inl hn, .inl hn⟩
      · have hn' : (noL d && noLp l) = true := hn
        rw [Bool.and_eq_true] at hn'
        exact ⟨.inr hn'.1, .inr hn'.2⟩
    exact SOk.sets l vs (σ.set k (some v)) (ρ.set k (some d)) (h.set (hk (k, d) (List.mem_cons_self ..)) r hn2.1) (fun p hp => hk p (List.mem_cons_of_mem _ hp)) hn2.2 t
theorem SOk.setX (h : SOk C Ow H0 w0 H σ ρ w) {k : Nat} (hk : k ∉ Ow) {v : V} {d : PyData} (r : Dq (C.ext w) H v d) : SOk C Ow H0 w0 H (σ.set k (some v)) (ρ.set k (some d)) w where
  len := by simp [h.len]
  j := h.j
  k := h.k
  inj := h.inj
  dom := fun i b vs e => by
    obtain ⟨a1, m, a4, hb, ds, hds, q⟩ := h.dom i b vs e
    have ne : k ≠ i := fun z => hk (by rw [z]; exact a1)
    exact ⟨a1, m, by rw [List.getElem?_set_ne ne]; exact a4, hb, ds, by rw [List.getElem?_set_ne ne]; exact hds, q⟩
  all := fun i hi ⟨e, he⟩ => by
    rw [List.getElem?_set_ne (show k ≠ i from fun z => hk (by rw [z]; exact hi))] at he
    exact h.all i hi ⟨e, he⟩
  at_ := fun i e hi he => by
    rcases getElem?_set _ _ _ _ _ he with ⟨rfl, q, hl⟩ | ⟨ne, q⟩
    · cases q
      exact ⟨v, List.getElem?_set_self (by rw [← h.len]; exact hl), r⟩
    · obtain ⟨u, e1, q⟩ := h.at_ i e hi q
      exact ⟨u, by rw [List.getElem?_set_ne ne]; exact e1, q⟩
theorem SOk.setsX : ∀ (l : List (Nat × PyData)) (vs : List (Nat × V)) (σ : L2.St) (ρ : Rho), SOk C Ow H0 w0 H σ ρ w → (∀ p ∈ l, p.1 ∉ Ow) → Got (C.ext w) H vs l → SOk C Ow H0 w0 H (setsS σ vs) (setsR ρ l) w
  | _, _, _, _, h, _, .nil => h
  | (k, d) :: l, (_, v) :: vs, σ, ρ, h, hk, .cons r t => SOk.setsX l vs (σ.set k (some v)) (ρ.set k (some d)) (h.setX (hk (k, d) (List.mem_cons_self ..)) r) (fun p hp => hk p (List.mem_cons_of_mem _ hp)) t
theorem EnvOk.sets : ∀ (l : List (Nat × PyData)) (vs : List (Nat × V)) (σ : L2.St) (ρ : Rho), EnvOk C H σ ρ → Got C H vs l → EnvOk C H (setsS σ vs) (setsR ρ l)
  | _, _, _, _, h, .nil => h
  | (k, d) :: l, (_, v) :: vs, σ, ρ, h, .cons r t => EnvOk.sets l vs (σ.set k (some v)) (ρ.set k (some d)) (h.set k r) t
end
section
variable {X : Cx} {C : Cz} {Ow : List Nat} {H0 : Hp} {st : Stmt} {rest : List Stmt} {t u : P0S} {pos : Pos} {a : Expr} {ta : P0} {tA : P0T} {ti : P0A} {dec : Dec} {G : TG}
/-! x, y = e -/
@[simp] def sAsg (Ow : List Nat) (dec : Dec) (t : P0) : P0S := fun D ρ => t ρ fun d => ∃ l, dec d = some l ∧ (∀ p ∈ l, p.1 ∉ Ow) ∧ (Ow = [] ∨ noLp l = true) ∧ D.nx (setsR ρ l)
theorem qs_asg {tg : Expr} (h : QE X C a ta) (hg : QG X X.K C tg G dec) (hs : swapsWithSole [tg] a pos.line X.env = pure false := by rfl) (hw : swappedStores [tg] a X.env = pure none := by rfl) (h1 : (assignEach [tg] X.env).map (·.2) = [assign tg X.env] := by rfl) : QS X C Ow (.Assign [tg] a pos) (sAsg Ow dec ta) := by
  refine ⟨fun H0 w0 => PS.weak (ps_asg h.pe hg.pg hs hw h1) fun D σ H q => ?_, fun ρ D D' q l => h.mono _ _ _ (fun d ⟨m, e, c1, c2, q⟩ => ⟨m, e, c1, c2, l.1 _ q⟩) q⟩
  obtain ⟨ρ, w, s, q⟩ := q
  refine ⟨ρ, s.env, s.j, h.mono _ _ _ (fun d ⟨l, e, c1, c2, q⟩ v H' k1 j r => ?_) q⟩
  exact hg.go H' σ v d l _ (.inl r) e fun vs hv => q _ H' w (SOk.sets _ _ _ _ (s.keep k1 j) c1 c2 hv)
/-! for -/
def hide (Ow : List Nat) (ρ : Rho) : Rho := ρ.mapIdx fun i d => if i ∈ Ow then none else d
theorem hide_at {Ow : List Nat} {ρ : Rho} {i : Nat} {d : PyData} (h : (hide Ow ρ)[i]? = some (some d)) : i ∉ Ow ∧ ρ[i]? = some (some d) := by
  unfold hide at h
  rw [List.getElem?_mapIdx] at h
  cases e : ρ[i]? with
  | none =>
    rw [e] at h
    cases h
  | some x =>
    rw [e] at h
    have h' : (if i ∈ Ow then none else x) = some d := Option.some.inj h
    by_cases hi : i ∈ Ow
    · rw [if_pos hi] at h'
      cases h'
    · rw [if_neg hi] at h'
      subst h'
      exact ⟨hi, rfl⟩
theorem SOk.envX {w0 w : Own} {H : Hp} {σ : L2.St} {ρ : Rho} (h : SOk C Ow H0 w0 H σ ρ w) : EnvOk (C.ext w) H σ (hide Ow ρ) ∧ (C.ext w).J H := by
  refine ⟨⟨by rw [hide, List.length_mapIdx]; exact h.len, fun i d e => ?_⟩, h.j, fun i b vs e => (h.dom i b vs e).2.2.2.1⟩
  obtain ⟨hi, e⟩ := hide_at e
  exact h.at_ i d hi e
def sFor (Ow : List Nat) (ti : P0A) (dec : Dec) (t : P0S) : P0S := fun D ρ => ti (hide Ow ρ) fun ds => ∃ W : Nat → Rho → Prop, W 0 ρ ∧ ∀ i ρ, W i ρ → (i = ds.length → D.nx ρ) ∧ ∀ d, ds[i]? = some d → ∃ l, dec d = some l ∧ (∀ p ∈ l, p.1 ∉ Ow) ∧
  t { D with nx := W (i + 1), ct := W (i + 1), bk := D.nx } (setsR ρ l)
theorem SOk.rebase {w0 w : Own} {H : Hp} {σ : L2.St} {ρ : Rho} (h : SOk C Ow H0 w0 H σ ρ w) : SOk C Ow H w H σ ρ w := { h with k := St.refl }
theorem SOk.based {w0 w1 w : Own} {H1 H : Hp} {σ : L2.St} {ρ : Rho} (a : St C H0 w0 H1 w1) (h : SOk C Ow H1 w1 H σ ρ w) : SOk C Ow H0 w0 H σ ρ w := { h with k := a.trans h.k }
theorem SOk.keepX {w0 w : Own} {H H' : Hp} {σ : L2.St} {ρ : Rho} (h : SOk C Ow H0 w0 H σ ρ w) (k : Kx (C.ext w) H H') (j : (C.ext w).J H') : Kx C H H' := ⟨k.1, fun b o m e => by
  by_cases hb : ∃ i vs, w i = some (b, vs)
  · obtain ⟨i, vs, hw⟩ := hb
    have h1 := (h.dom i b vs hw).2.2.2.1
    rw [e] at h1
    rw [Option.some.inj h1]
    exact j.2 i b vs hw
  · exact k.2 b o (fun z => z.elim m hb) e⟩
theorem PSs.ex {body : List Stmt} (h : ∀ H0 w0, PSs X body (lfS C Ow H0 w0 t)) : PSs X body (fun D σ H => ∃ H0 w0, lfS C Ow H0 w0 t D σ H) := ⟨fun pins s σ H D I ⟨H0, w0, q⟩ => (h H0 w0).run pins s σ H D I q⟩
theorem qs_for {tg iter : Expr} {body : List Stmt} (hp : PassesOwn (model X.prog X.w) X.A X.env X.xe) (hc : X.calm = true) (hi : ∀ C2, Ext C C2 → QI X C2 tg iter ti) (hg : ∀ C2, QG X X.K C2 tg G dec) (hb : QSs X C Ow body t) (hs : ∀ x, foldedSetIterable iter X.env x = pure x := by intro _; rfl) :
    QS X C Ow (.For tg iter body [] pos) (sFor Ow ti dec t) := by
  refine ⟨fun H0 w0 => ⟨fun pins sh σ H D I q => ?_⟩, fun ρ D D' q l => (hi C Ext.refl).mono _ _ _ (fun ds ⟨W, wz, turn⟩ => ⟨W, wz, fun i ρ wi => ⟨fun e => l.1 _ ((turn i ρ wi).1 e), fun d e => ?_⟩⟩) q⟩
  · obtain ⟨ρ, w, s, q⟩ := q
    obtain ⟨he, hj⟩ := s.envX
    refine (ps_for hp hc (hi _ (extE s.dis)).pi (hg C).pg (PSs.ex hb.ps) hs).run pins sh σ H D I ?_
    refine ⟨hide Ow ρ, he, hj, (hi _ (extE s.dis)).mono _ _ _ (fun ds ⟨W, wz, turn⟩ J H1 k1 j1 it => ?_) q⟩
    have k1' := s.keepX k1 j1
    have s1 := s.keep k1' j1.1
    have b1 : St C H0 w0 H1 w := s1.k
    refine ⟨fun i m σ H => m = ds.length - i ∧ i ≤ ds.length ∧ ∃ ρ w2, SOk C Ow H1 w H σ ρ w2 ∧ W i ρ, ⟨ds.length, by omega, Nat.zero_le _, ρ, w, s1.rebase, wz⟩, ?_⟩
    rintro i m σ H ⟨rfl, hi, ρ, w2, s, wi⟩
    obtain ⟨fin, go⟩ := it i H s.k.kx.ext
    obtain ⟨t1, t2⟩ := turn i ρ wi
    by_cases hlt : i < ds.length
    · obtain ⟨d, hd⟩ : ∃ d, ds[i]? = some d := ⟨_, List.getElem?_eq_getElem hlt⟩
      obtain ⟨g1, g2⟩ := go d hd
      obtain ⟨l, e, c1, q⟩ := t2 d hd
      refine .inr ⟨g1, fun σ' H' => ∃ ρ w2, SOk C Ow H1 w H' σ' ρ w2 ∧ W (i + 1) ρ, fun σ' H' h => ⟨_, by omega, rfl, hlt, h⟩, fun x H' hy => ?_⟩
      obtain ⟨k2, r⟩ := g2 x H' hy
      have fr : Far (C.ext w) (C.ext w2) H1 := ⟨rfl, fun b o e m z => z.elim (fun z => m (.inl z)) fun ⟨i, vs, z⟩ => (s.k.2 b o (fun z => m (.inl z)) (fun i vs z => m (.inr ⟨i, vs, z⟩)) e).2 i vs z⟩
      refine (hg (C.ext w2)).go H' σ x d l _ (r _ fr) e fun vs hv => ⟨H1, w, setsR ρ l, w2, SOk.setsX _ _ _ _ (s.keep (kxSame k2) (C.same _ _ k2 s.j)) c1 hv, ?_⟩
      refine hb.mono _ _ _ q ⟨?_, ?_, ?_, ?_⟩
      · intro ρ' q σ' H2 w' s'
        exact ⟨ρ', w', s', q⟩
      · intro d q v H2 k j r
        exact q v H2 (b1.thenO k) j r
      · intro ρ' q σ' H2 w' s'
        exact q σ' H2 w' (s'.based b1)
      · intro ρ' q σ' H2 w' s'
        exact ⟨ρ', w', s', q⟩
    · have e : i = ds.length := by omega
      exact .inl ⟨fin e, t1 e σ H w2 (s.based b1)⟩
  · obtain ⟨m, e1, c1, q⟩ := (turn i ρ wi).2 d e
    exact ⟨m, e1, c1, hb.mono _ _ _ q ⟨fun _ q => q, l.2.1, l.1, fun _ q => q⟩⟩
end
end Kr

set_option Elab.async false
set_option linter.all false
set_option maxRecDepth 100000
set_option maxHeartbeats 4000000
namespace Kr
open PySem PySem.Spec PyProof.Rows L2
/-! comprehensions -/
def wipeR (ρ : Rho) : List Nat → Rho
  | [] => ρ
  | v :: vs => (wipeR ρ vs).set v none
theorem wipeR_length (ρ : Rho) : ∀ vs : List Nat, (wipeR ρ vs).length = ρ.length
  | [] => rfl
  | v :: vs => by
    unfold wipeR
    rw [List.length_set, wipeR_length ρ vs]
theorem wipeR_at {ρ : Rho} {i : Nat} {d : PyData} : ∀ {vs : List Nat}, (wipeR ρ vs)[i]? = some (some d) → ρ[i]? = some (some d) ∧ i ∉ vs
  | [], h => ⟨h, by simp⟩
  | v :: vs, h => by
    rcases getElem?_set _ _ _ _ _ (show ((wipeR ρ vs).set v none)[i]? = some (some d) from h) with ⟨_, e, _⟩ | ⟨ne, e⟩
    · cases e
    · obtain ⟨h1, h2⟩ := wipeR_at e
      exact ⟨h1, fun z => by
        rcases List.mem_cons.mp z with z | z
        · exact ne z.symm
        · exact h2 z⟩
theorem wipe_at {σ : L2.St} {i : Nat} {x : Option V} : ∀ {vs : List Nat}, i ∉ vs → σ[i]? = some x → (wipe σ vs)[i]? = some x
  | [], _, h => h
  | v :: vs, hn, h => by
    show ((wipe σ vs).set v none)[i]? = some x
    rw [List.getElem?_set_ne (fun z => hn (by rw [z]; exact List.mem_cons_self ..))]
    exact wipe_at (fun z => hn (List.mem_cons_of_mem _ z)) h
theorem wipe_out {σ : L2.St} {i : Nat} : ∀ {vs : List Nat}, i ∈ vs → i < σ.length → (wipe σ vs)[i]? = some none
  | v :: vs, hi, hl => by
    show ((wipe σ vs).set v none)[i]? = some none
    by_cases e : v = i
    · subst e
      rw [List.getElem?_set_self (by rw [wipe_length]; exact hl)]
    · rw [List.getElem?_set_ne e]
      exact wipe_out ((List.mem_cons.mp hi).resolve_left fun z => e z.symm) hl
theorem EnvOk.wipe {C : Cz} {H : Hp} {σ : L2.St} {ρ : Rho} (h : EnvOk C H σ ρ) (vs : List Nat) : EnvOk C H (wipe σ vs) (wipeR ρ vs) := ⟨by rw [wipeR_length, wipe_length]; exact h.len, fun i d e => by
  obtain ⟨e1, e2⟩ := wipeR_at e
  obtain ⟨v, e3, r⟩ := h.at_ i d e1
  exact ⟨v, wipe_at e2 e3, r⟩⟩
theorem setsS_length : ∀ (l : List (Nat × V)) (σ : L2.St), (setsS σ l).length = σ.length
  | [], _ => rfl
  | (k, v) :: l, σ => by
    show (setsS (σ.set k (some v)) l).length = _
    rw [setsS_length l, List.length_set]
theorem setsS_at {i : Nat} : ∀ (l : List (Nat × V)) (σ : L2.St), (∀ p ∈ l, p.1 ≠ i) → (setsS σ l)[i]? = σ[i]?
  | [], _, _ => rfl
  | (k, v) :: l, σ, h => by
    show (setsS (σ.set k (some v)) l)[i]? = _
    rw [setsS_at l _ fun p hp => h p (List.mem_cons_of_mem _ hp), List.getElem?_set_ne (h (k, v) (List.mem_cons_self ..))]
theorem wipe_sets {σ : L2.St} {vs : List Nat} {l : List (Nat × V)} (h : ∀ p ∈ l, p.1 ∈ vs) : wipe (setsS (wipe σ vs) l) vs = wipe σ vs := by
  apply List.ext_getElem?
  intro i
  by_cases hi : i ∈ vs
  · by_cases hl : i < σ.length
    · rw [wipe_out hi (by rw [setsS_length, wipe_length]; exact hl), wipe_out hi hl]
    · rw [List.getElem?_eq_none (by rw [wipe_length, setsS_length, wipe_length]; omega), List.getElem?_eq_none (by rw [wipe_length]; omega)]
  · have e : (setsS (wipe σ vs) l)[i]? = (wipe σ vs)[i]? := setsS_at l _ fun p hp z => hi (z ▸ h p hp)
    cases q : (wipe σ vs)[i]? with
    | none =>
      rw [q] at e
      have h1 := List.getElem?_eq_none_iff.mp q
      rw [List.getElem?_eq_none (by rw [wipe_length, setsS_length]; exact h1)]
    | some x =>
      rw [q] at e
      exact wipe_at hi e
theorem Got.keys {C : Cz} {H : Hp} : ∀ {vs : List (Nat × V)} {l : List (Nat × PyData)}, Got C H vs l → ∀ {ks : List Nat}, (∀ p ∈ l, p.1 ∈ ks) → ∀ p ∈ vs, p.1 ∈ ks
  | _, _, .nil, _, _ => fun p hp => absurd hp List.not_mem_nil
  | _, _, .cons (k := k) (d := d) r t, ks, h => fun p hp => by
    rcases List.mem_cons.mp hp with e | hp
    · subst e
      exact h (k, d) (List.mem_cons_self ..)
    · exact t.keys (fun p hp => h p (List.mem_cons_of_mem _ hp)) p hp
def lcGo (ks : List Nat) (dec : Dec) (tt : P0T) (te : P0) (ρ : Rho) (Q : PyData → Prop) : List PyData → List PyData → Prop
  | [], acc => Q (.list acc)
  | d :: ds, acc => ∃ l, dec d = some l ∧ (∀ p ∈ l, p.1 ∈ ks) ∧ tt (setsR ρ l) fun b => if b = true then te (setsR ρ l) fun y => acc.length < sizeLine ∧ lcGo ks dec tt te ρ Q ds (acc ++ [y]) else lcGo ks dec tt te ρ Q ds acc
@[simp] def vLc (ks : List Nat) (ti : P0A) (dec : Dec) (tt : P0T) (te : P0) : P0 := fun ρ Q => ti ρ fun ds => lcGo ks dec tt te (wipeR ρ ks) Q ds []
/-- the tests of a comprehension -/
structure QTs (X : Cx) (C : Cz) (ifs : List Expr) (t : P0T) : Prop where
  pts : PTs X ifs (lfT C t)
  mono : ∀ ρ Q Q', (∀ d, Q d → Q' d) → t ρ Q → t ρ Q'
theorem PTs.weak {X : Cx} {e : List Expr} {t t' : TT} (h : PTs X e t) (w : ∀ σ H Q, t' σ H Q → t σ H Q) : PTs X e t' := ⟨fun pins s σ H Q I q => h.run pins s σ H Q I (w σ H Q q)⟩
@[simp] def wYes : P0T := fun _ Q => Q true
theorem qts_nil {X : Cx} {C : Cz} : QTs X C [] wYes := ⟨PTs.weak pts_nil fun σ H Q ⟨ρ, he, j, q⟩ => q H Kx.refl j, fun _ _ _ w q => w _ q⟩
theorem qts_one {X : Cx} {C : Cz} {c : Expr} {t : P0T} (h : QT X C c t) : QTs X C [c] t := ⟨pts_one h.pt, h.mono⟩
theorem lcGo_mono {ks : List Nat} {dec : Dec} {tt : P0T} {te : P0} (hm : ∀ ρ Q Q', (∀ d, Q d → Q' d) → tt ρ Q → tt ρ Q') (hm2 : ∀ ρ Q Q', (∀ d, Q d → Q' d) → te ρ Q → te ρ Q') {ρ : Rho} {Q Q' : PyData → Prop} (w : ∀ d, Q d → Q' d) :
    ∀ (ds acc : List PyData), lcGo ks dec tt te ρ Q ds acc → lcGo ks dec tt te ρ Q' ds acc
  | [], acc, h => w _ h
  | d :: ds, acc, ⟨l, e, c, h⟩ => ⟨l, e, c, hm _ _ _ (fun b q => by
      cases b with
      | true => exact hm2 _ _ _ (fun y q => ⟨q.1, lcGo_mono hm hm2 w ds _ q.2⟩) q
      | false => exact lcGo_mono hm hm2 w ds _ q) h⟩
theorem EnvOk.sub {C C' : Cz} {H : Hp} {σ : L2.St} {ρ : Rho} (hm : ∀ b, C'.M b → C.M b) (ht : C.tok = C'.tok) (h : EnvOk C H σ ρ) : EnvOk C' H σ ρ := ⟨h.len, fun i d e => by
  obtain ⟨v, e1, r⟩ := h.at_ i d e
  exact ⟨v, e1, r.sub hm ht⟩⟩
section
variable {X : Cx} {C : Cz} {pos : Pos}
/-- one list that is being made -/
def own1 (D : Addr) (acc : List V) : Own := fun i => if i = 0 then some (D, .lst acc) else none
theorem own1_eq {D b : Addr} {acc : List V} {vs : HO} {i : Nat} (h : own1 D acc i = some (b, vs)) : b = D ∧ vs = .lst acc := by
  unfold own1 at h
  by_cases hi : i = 0
  · rw [if_pos hi] at h
    cases h
    exact ⟨rfl, rfl⟩
  · rw [if_neg hi] at h
    cases h
theorem own1_m {D b : Addr} {acc : List V} (h : (C.ext (own1 D acc)).M b) : (C.plus D).M b := h.elim .inl fun ⟨_, _, e⟩ => .inr (own1_eq e).1
theorem own1_n {D b : Addr} {acc : List V} (h : (C.plus D).M b) : (C.ext (own1 D acc)).M b := h.elim .inl fun e => .inr ⟨0, .lst acc, by rw [e]; rfl⟩
theorem own1_d {D : Addr} {acc : List V} (h : ¬ C.M D) : Dis C (own1 D acc) := fun i b vs e => by
  rw [(own1_eq e).1]
  exact h
def lfx (C : Cz) (t : P0) : TE := fun σ H Q => ∃ C2, Ext C C2 ∧ lf C2 t σ H Q
def lfTx (C : Cz) (t : P0T) : TT := fun σ H Q => ∃ C2, Ext C C2 ∧ lfT C2 t σ H Q
theorem PE.ex {e : Expr} {t : P0} (h : ∀ C2, Ext C C2 → QE X C2 e t) : PE X e (lfx C t) := ⟨fun pins s σ H Q I ⟨C2, x, q⟩ => (h C2 x).pe.run pins s σ H Q I q⟩
theorem PTs.ex {e : List Expr} {t : P0T} (h : ∀ C2, Ext C C2 → QTs X C2 e t) : PTs X e (lfTx C t) := ⟨fun pins s σ H Q I ⟨C2, x, q⟩ => (h C2 x).pts.run pins s σ H Q I q⟩
/-- what a comprehension comes to, its list new -/
theorem lc_core {tg : Expr} {ks : List Nat} {dec : Dec} {tt : P0T} {te : P0} {J : It} {G : TG} {σ : L2.St} {ρ : Rho} {H1 : Hp} {Qd : Hp → Prop} {ds : List PyData} {D : Addr}
    (hm : ∀ ρ Q Q', (∀ d, Q d → Q' d) → tt ρ Q → tt ρ Q') (hm2 : ∀ ρ Q Q', (∀ d, Q d → Q' d) → te ρ Q → te ρ Q')
    (hg : ∀ C2 H σ x d l Q, DqT tg C2 H x d → dec d = some l → (∀ vs, Got C2 H vs l → Q (setsS σ vs) H) → G x σ H Q) (he : EnvOk C H1 σ ρ) (j : C.J H1) (it : IsIt tg C H1 J ds) (nD : H1 D = none) (q : lcGo ks dec tt te (wipeR ρ ks) (fun d => ∀ ys vs H', d = .list ys → Kx C H1 H' → C.J H' → H' D = some (.lst vs) → DqAll (C.plus D) H' vs ys → Qd H') ds []) :
    ∃ W : Nat → Nat → Hp → Prop, (∃ m, W 0 m (upd H1 D (.lst []))) ∧ ∀ i m H, W i m H → (J.stop i H ∧ Qd H) ∨ (J.go i H ∧ ∃ Nx : Hp → Prop, (∀ H', Nx H' → ∃ m', m' < m ∧ W (i + 1) m' H') ∧ ∀ x H', J.yld i H x H' → G x (wipe σ ks) H' fun σ2 H2 => wipe σ2 ks = wipe σ ks ∧ lfTx C tt σ2 H2 fun b H3 =>
      if b = true then lfx C te σ2 H3 fun y H4 => ∃ acc, H4 D = some (.lst acc) ∧ acc.length < sizeLine ∧ Nx (upd H4 D (.lst (acc ++ [y]))) else Nx H3) := by
  have mD : ¬ C.M D := freshM C j nD
  have st0 : EnvOk (C.plus D) H1 σ ρ := ⟨he.len, fun i d e => by
    obtain ⟨v, e1, r⟩ := he.at_ i d e
    exact ⟨v, e1, r.clear nD⟩⟩
  refine ⟨fun i m H => m = ds.length - i ∧ i ≤ ds.length ∧ ∃ (acc : List V) (ys : List PyData), Kx C H1 H ∧ C.J H ∧ H D = some (.lst acc) ∧ DqAll (C.plus D) H acc ys ∧ EnvOk (C.plus D) H (wipe σ ks) (wipeR ρ ks) ∧
    lcGo ks dec tt te (wipeR ρ ks) (fun d => ∀ ys vs H', d = .list ys → Kx C H1 H' → C.J H' → H' D = some (.lst vs) → DqAll (C.plus D) H' vs ys → Qd H') (ds.drop i) ys, ⟨ds.length, by omega, Nat.zero_le _, [], [], kxSame (same_upd nD), C.same _ _ (same_upd nD) j, upd_same, .nil, (st0.wipe ks).keep (kxSame (same_upd nD)), q⟩, ?_⟩
  rintro i m H ⟨rfl, hi, acc, ys, kx, jH, hD, hA, hE, go⟩
  obtain ⟨fin, step⟩ := it i H kx
  by_cases hlt : i < ds.length
  · have hd : ds[i]? = some ds[i] := List.getElem?_eq_getElem hlt
    obtain ⟨g1, g2⟩ := step _ hd
    rw [← List.getElem_cons_drop hlt] at go
    obtain ⟨l, e, c, go⟩ := go
    refine .inr ⟨g1, fun H => ∃ (acc : List V) (ys : List PyData), Kx C H1 H ∧ C.J H ∧ H D = some (.lst acc) ∧ DqAll (C.plus D) H acc ys ∧ EnvOk (C.plus D) H (wipe σ ks) (wipeR ρ ks) ∧
      lcGo ks dec tt te (wipeR ρ ks) (fun d => ∀ ys vs H', d = .list ys → Kx C H1 H' → C.J H' → H' D = some (.lst vs) → DqAll (C.plus D) H' vs ys → Qd H') (ds.drop (i + 1)) ys, fun H' h => ⟨_, by omega, rfl, hlt, h⟩, fun x H' hy => ?_⟩
    obtain ⟨s1, r⟩ := g2 x H' hy
    have k1 : Kx C H H' := kxSame s1
    have j1 := C.same _ _ s1 jH
    have hD1 := s1 _ _ hD
    have fr : Far C (C.ext (own1 D acc)) H1 := ⟨rfl, fun b o eb m z => (own1_m z).elim m (ne_of_none eb nD)⟩
    have ce : Ext C (C.ext (own1 D acc)) := extE (own1_d mD)
    refine hg (C.ext (own1 D acc)) H' _ x _ l _ (r _ fr) e fun vs hv => ⟨wipe_sets (hv.keys c), ?_⟩
    have hE1 := hE.keep (Kx.plus k1)
    have hE2 : EnvOk (C.ext (own1 D acc)) H' (wipe σ ks) (wipeR ρ ks) := EnvOk.sub (C := C.plus D) (fun _ m => own1_m m) rfl hE1
    have jx : (C.ext (own1 D acc)).J H' := ⟨j1, fun i b us z => by
      obtain ⟨rfl, rfl⟩ := own1_eq z
      exact hD1⟩
    have back : ∀ {A B : Hp}, A D = some (.lst acc) → Kx (C.ext (own1 D acc)) A B → (C.ext (own1 D acc)).J B → Kx C A B := fun hA k jb => ⟨k.1, fun b o m eb => by
      by_cases hb : b = D
      · subst hb
        rw [hA] at eb
        cases eb
        exact jb.2 0 b (.lst acc) rfl
      · exact k.2 b o (fun z => (own1_m z).elim m hb) eb⟩
    refine ⟨_, ce, setsR (wipeR ρ ks) l, EnvOk.sets _ _ _ _ hE2 hv, jx, hm _ _ _ (fun b q H3 k3 j3 => ?_) go⟩
    have k3' : Kx C H' H3 := back hD1 k3 j3
    have hD3 : H3 D = some (.lst acc) := j3.2 0 D (.lst acc) rfl
    cases b with
    | true =>
      refine ⟨_, ce, setsR (wipeR ρ ks) l, (EnvOk.sets _ _ _ _ hE2 hv).keep k3, j3, hm2 _ _ _ (fun y q v H4 k4 j4 r4 => ?_) q⟩
      have k4' : Kx C H3 H4 := back hD3 k4 j4
      have k14 : Kx C H H4 := k1.trans (k3'.trans k4')
      have hD4 : H4 D = some (.lst acc) := j4.2 0 D (.lst acc) rfl
      have kD : Kx (C.plus D) H4 (upd H4 D (.lst (acc ++ [v]))) := ⟨fun b xs eb => eb.upd hD4 fzLst, fun b o m eb => by rw [upd_ne (fun z => m (.inr z))]; exact eb⟩
      have al : acc.length = ys.length := hA.length
      refine ⟨acc, hD4, by rw [al]; exact q.1, acc ++ [v], ys ++ [y], ?_, C.st H4 _ kD.1 (fun b o (m : C.M b) eb => by rw [upd_ne (show b ≠ D from fun z => mD (by rw [← z]; exact m))]; exact eb) j4.1, upd_same, ?_, (hE.keep (Kx.plus k14)).keep kD, q.2⟩
      · refine ⟨fun b xs eb => ?_, fun b o m eb => ?_⟩
        · exact ((kx.trans k14).1 b xs eb).upd hD4 fzLst
        · rw [upd_ne (ne_of_none eb nD)]
          exact (kx.trans k14).2 b o m eb
      · exact ((hA.keep (Kx.plus k14)).app (.cons (Dq.sub (C := C.ext (own1 D acc)) (C' := C.plus D) (fun _ m => own1_n m) rfl r4) .nil)).keep kD
    | false =>
      have k13 : Kx C H H3 := k1.trans k3'
      exact ⟨acc, ys, kx.trans k13, j3.1, hD3, hA.keep (Kx.plus k13), hE.keep (Kx.plus k13), q⟩
  · have e : i = ds.length := by omega
    subst e
    rw [List.drop_length] at go
    exact .inl ⟨fin rfl, go ys acc H rfl kx jH hD hA⟩
theorem qe_lc {elt tg iter : Expr} {ifs : List Expr} {scope : Scope} {own : List (Str × Nat)} {ti : P0A} {dec : Dec} {G : TG} {tt : P0T} {te : P0} (hc : X.calm = true) (hN : X.N.Nodup) (hi : QI X C tg iter ti) (ok : BlkOk X.N X.env.scope scope own)
    (hg : ∀ (C2 : Cz) (s : Shared) (H : Hp) (Cc : Addr) (cl : List (Str × Addr)) (fp : List Addr), QG (X.blk s H scope (compEnvC scope cl Cc X.env) fp) X.K C2 tg G dec) (ht : ∀ C2, Ext C C2 → ∀ (s : Shared) (H : Hp) (Cc : Addr) (cl : List (Str × Addr)) (fp : List Addr), QTs (X.blk s H scope (compEnvC scope cl Cc X.env) fp) C2 ifs tt)
    (he : ∀ C2, Ext C C2 → ∀ (s : Shared) (H : Hp) (Cc : Addr) (cl : List (Str × Addr)) (fp : List Addr), QE (X.blk s H scope (compEnvC scope cl Cc X.env) fp) C2 elt te) (hs : ∀ x, foldedSetIterable iter X.env x = pure x := by intro _; rfl) :
    QE X C (.ListComp elt [⟨tg, iter, ifs, 0⟩] scope pos) (vLc (own.map (·.2)) ti dec tt te) := by
  have am : ∀ ρ Q Q', (∀ d, Q d → Q' d) → tt ρ Q → tt ρ Q' := (ht C Ext.refl X.s_0 (fun _ => none) 0 [] []).mono
  have bm : ∀ ρ Q Q', (∀ d, Q d → Q' d) → te ρ Q → te ρ Q' := (he C Ext.refl X.s_0 (fun _ => none) 0 [] []).mono
  have gm := fun C2 => (hg C2 X.s_0 (fun _ => none) 0 [] []).go
  refine ⟨PE.weak (pe_lc hc hN hi.pi ok (fun s H c cl fp => (hg C s H c cl fp).pg) (fun s H c cl fp => PTs.ex fun C2 x => ht C2 x s H c cl fp) (fun s H c cl fp => PE.ex fun C2 x => he C2 x s H c cl fp) hs) fun σ H Q h => ?_, fun ρ Q Q' w h => hi.mono _ _ _ (fun ds q => lcGo_mono am bm w ds _ q) h⟩
  obtain ⟨ρ, hE, j, h⟩ := h
  refine ⟨ρ, hE, j, hi.mono _ _ _ (fun ds q J H1 k1 j1 it => ?_) h⟩
  intro D nD
  refine lc_core am bm gm (hE.keep k1) j1 it nD (lcGo_mono am bm (fun d q ys vs H' e k' j' hD r => ?_) _ _ q)
  subst e
  exact q (.ref D) H' (k1.trans k') j' (.lst (freshM C j1 nD) hD (DqAll.sub (C := C.plus D) (C' := C) (fun _ m => Or.inl m) rfl r))
/-! own lists -/
def putW (w : Own) (k : Nat) (x : Addr × HO) : Own := fun i => if i = k then some x else w i
theorem putW_same {w : Own} {k : Nat} {x : Addr × HO} : putW w k x k = some x := if_pos rfl
theorem putW_ne {w : Own} {k i : Nat} {x : Addr × HO} (h : i ≠ k) : putW w k x i = w i := if_neg h
section
variable {Ow : List Nat} {H0 H : Hp} {w0 w : Own} {σ : L2.St} {ρ : Rho}
/-- an own list gets other items -/
theorem SOk.put (h : SOk C Ow H0 w0 H σ ρ w) {k : Nat} {b : Addr} {vs us : HO} {es : PyData} (hw : w k = some (b, vs)) (r : DqO (C.ext w) H us es) : SOk C Ow H0 w0 (upd H b us) σ (ρ.set k (some es)) (putW w k (b, us)) := by
  obtain ⟨hk, hm, hs, hb, ds, hd, hr⟩ := h.dom k b vs hw
  have eM : ∀ c, (C.ext (putW w k (b, us))).M c → (C.ext w).M c := fun c m => by
    rcases m with m | ⟨i, xs, e⟩
    · exact .inl m
    · by_cases hi : i = k
      · subst hi
        rw [putW_same] at e
        cases e
        exact .inr ⟨i, vs, hw⟩
      · rw [putW_ne hi] at e
        exact .inr ⟨i, xs, e⟩
  have kD : Kx (C.ext w) H (upd H b us) := ⟨fun c xs e => e.upd hb (hr.notFz xs), fun c o m e => by rw [upd_ne (fun z => m (.inr ⟨k, vs, by rw [z]; exact hw⟩))]; exact e⟩
  have kl : k < ρ.length := by
    by_cases z : k < ρ.length
    · exact z
    · rw [List.getElem?_eq_none (by omega)] at hd
      cases hd
  refine { len := by simp [h.len], j := C.st H _ kD.1 (fun c o (m : C.M c) e => by rw [upd_ne (show c ≠ b from fun z => hm (by rw [← z]; exact m))]; exact e) h.j, k := ⟨fun c xs e => kD.1 c xs (h.k.1 c xs e), fun c o m n e => ?_⟩, inj := fun i j c xs ys e1 e2 => ?_, dom := fun i c xs e => ?_, all := fun i hi he => ?_, at_ := fun i d hi he => ?_ }
  · obtain ⟨e1, n1⟩ := h.k.2 c o m n e
    have ne : c ≠ b := fun z => n1 k vs (by rw [z]; exact hw)
    refine ⟨by rw [upd_ne ne]; exact e1, fun i xs z => ?_⟩
    by_cases hi : i = k
    · subst hi
      rw [putW_same] at z
      cases z
      exact ne rfl
    · rw [putW_ne hi] at z
      exact n1 i xs z
  · by_cases hi : i = k
    · by_cases hj : j = k
      · rw [hi, hj]
      · subst hi
        rw [putW_same] at e1
        rw [putW_ne hj] at e2
        cases e1
        exact h.inj _ _ _ _ _ hw e2
    · rw [putW_ne hi] at e1
      by_cases hj : j = k
      · subst hj
        rw [putW_same] at e2
        cases e2
        exact h.inj _ _ _ _ _ e1 hw
      · rw [putW_ne hj] at e2
        exact h.inj _ _ _ _ _ e1 e2
  · by_cases hi : i = k
    · subst hi
      rw [putW_same] at e
      cases e
      exact ⟨hk, hm, hs, upd_same, es, List.getElem?_set_self kl, (r.keep kD).sub eM rfl⟩
    · rw [putW_ne hi] at e
      obtain ⟨a1, a2, a4, a5, ds2, a6, a7⟩ := h.dom i c xs e
      have ne : c ≠ b := fun z => hi (h.inj i k b xs vs (by rw [← z]; exact e) hw)
      exact ⟨a1, a2, a4, by rw [upd_ne ne]; exact a5, ds2, by rw [List.getElem?_set_ne (Ne.symm hi)]; exact a6, (a7.keep kD).sub eM rfl⟩
  · by_cases hi2 : i = k
    · subst hi2
      exact ⟨_, putW_same⟩
    · obtain ⟨d, he⟩ := he
      rw [List.getElem?_set_ne (Ne.symm hi2)] at he
      obtain ⟨x, hx⟩ := h.all i hi ⟨d, he⟩
      exact ⟨x, by rw [putW_ne hi2]; exact hx⟩
  · have ne : k ≠ i := fun z => hi (by rw [← z]; exact hk)
    rw [List.getElem?_set_ne ne] at he
    obtain ⟨v, e1, q⟩ := h.at_ i d hi he
    exact ⟨v, e1, (q.keep kD).sub eM rfl⟩
/-- a new own list -/
theorem SOk.own (h : SOk C Ow H0 w0 H σ ρ w) {k : Nat} {p : Addr} {vs : HO} {ds : PyData} (hl : k < ρ.length) (hk : k ∈ Ow) (np : H p = none) (r : DqO (C.ext w) H vs ds) : SOk C Ow H0 w0 (upd H p vs) (σ.set k (some (.ref p))) (ρ.set k (some ds)) (putW w k (p, vs)) := by
  have hm := freshM C h.j np
  have sm := same_upd (o := vs) np
  have kD : Kx (C.ext w) H (upd H p vs) := kxSame sm
  have eM : ∀ c, (C.ext (putW w k (p, vs))).M c → ((C.ext w).plus p).M c := fun c m => by
    rcases m with m | ⟨i, xs, e⟩
    · exact .inl (.inl m)
    · by_cases hi : i = k
      · rw [hi, putW_same] at e
        cases e
        exact .inr rfl
      · rw [putW_ne hi] at e
        exact .inl (.inr ⟨i, xs, e⟩)
  have cl : ∀ {v : V} {d : PyData}, Dq (C.ext w) H v d → Dq (C.ext (putW w k (p, vs))) (upd H p vs) v d := fun {v d} q => Dq.sub (C := (C.ext w).plus p) (C' := C.ext (putW w k (p, vs))) eM rfl ((q.clear np).keep (Kx.plus kD))
  have cls : ∀ {v : HO} {d : PyData}, DqO (C.ext w) H v d → DqO (C.ext (putW w k (p, vs))) (upd H p vs) v d := fun {v d} q => DqO.sub (C := (C.ext w).plus p) (C' := C.ext (putW w k (p, vs))) eM rfl ((q.clear np).keep (Kx.plus kD))
  have np2 : ∀ i xs, w i ≠ some (p, xs) := fun i xs e => by
    rw [(h.dom i p xs e).2.2.2.1] at np
    cases np
  refine { len := by simp [h.len], j := C.same _ _ sm h.j, k := ⟨fun c xs e => (h.k.1 c xs e).updN np, fun c o m n e => ?_⟩, inj := fun i j c xs ys e1 e2 => ?_, dom := fun i c xs e => ?_, all := fun i hi he => ?_, at_ := fun i d hi he => ?_ }
  · obtain ⟨e1, n1⟩ := h.k.2 c o m n e
    refine ⟨sm _ _ e1, fun i xs z => ?_⟩
    by_cases hi : i = k
    · rw [hi, putW_same] at z
      cases z
      rw [e1] at np
      cases np
    · rw [putW_ne hi] at z
      exact n1 i xs z
  · by_cases hi : i = k
    · by_cases hj : j = k
      · rw [hi, hj]
      · rw [hi, putW_same] at e1
        rw [putW_ne hj] at e2
        cases e1
        exact absurd e2 (np2 j _)
    · rw [putW_ne hi] at e1
      by_cases hj : j = k
      · rw [hj, putW_same] at e2
        cases e2
        exact absurd e1 (np2 i _)
      · rw [putW_ne hj] at e2
        exact h.inj _ _ _ _ _ e1 e2
  · by_cases hi : i = k
    · rw [hi, putW_same] at e
      cases e
      rw [hi]
      exact ⟨hk, hm, List.getElem?_set_self (by rw [← h.len]; exact hl), upd_same, ds, List.getElem?_set_self hl, cls r⟩
    · rw [putW_ne hi] at e
      obtain ⟨a1, a2, a4, a5, ds2, a6, a7⟩ := h.dom i c xs e
      exact ⟨a1, a2, by rw [List.getElem?_set_ne (Ne.symm hi)]; exact a4, sm _ _ a5, ds2, by rw [List.getElem?_set_ne (Ne.symm hi)]; exact a6, cls a7⟩
  · by_cases hi2 : i = k
    · exact ⟨_, by rw [hi2, putW_same]⟩
    · obtain ⟨d, he⟩ := he
      rw [List.getElem?_set_ne (Ne.symm hi2)] at he
      obtain ⟨x, hx⟩ := h.all i hi ⟨d, he⟩
      exact ⟨x, by rw [putW_ne hi2]; exact hx⟩
  · have ne : k ≠ i := fun z => hi (by rw [← z]; exact hk)
    rw [List.getElem?_set_ne ne] at he
    obtain ⟨v, e1, q⟩ := h.at_ i d hi he
    exact ⟨v, by rw [List.getElem?_set_ne ne]; exact e1, cl q⟩
end
end
end Kr

set_option Elab.async false
set_option linter.all false
set_option maxRecDepth 100000
set_option maxHeartbeats 4000000
namespace Kr
open PySem PySem.Spec PyProof.Rows L2
section
variable {C : Cz} {Ow : List Nat} {H0 H : Hp} {w0 w : Own} {σ : L2.St} {ρ : Rho}
end
/-! a list that is new -/
def lfF (C : Cz) (t : P0A) : TE := fun σ H Q => ∃ ρ, EnvOk C H σ ρ ∧ C.J H ∧ t ρ fun ds => ∀ p vs H1, Kx C H H1 → C.J H1 → H1 p = none → DqAll C H1 vs ds → Q (.ref p) (upd H1 p (.lst vs))
structure QF (X : Cx) (C : Cz) (e : Expr) (t : P0A) : Prop where
  pe : PE X e (lfF C t)
  mono : ∀ ρ Q Q', (∀ d, Q d → Q' d) → t ρ Q → t ρ Q'
section
variable {X : Cx} {C : Cz} {Ow : List Nat} {pos : Pos} {a : Expr} {ta : P0} {tl : P0A}
theorem qf_lst {es : List Expr} (h : QA X C es tl) : QF X C (.List es pos) (fun ρ Q => tl ρ fun ds => ds.length ≤ sizeLine ∧ Q ds) := by
  refine ⟨PE.weak (pe_lst h.pa) fun σ H Q q => ?_, fun ρ Q Q' w q => h.mono _ _ _ (fun ds q => ⟨q.1, w _ q.2⟩) q⟩
  obtain ⟨ρ, he, j, q⟩ := q
  exact ⟨ρ, he, j, h.mono ρ _ _ (fun ds q vs H1 k1 j1 r1 => ⟨by rw [r1.length]; exact q.1, fun p np => q.2 p vs H1 k1 j1 np r1⟩) q⟩
/-- a new list is plain data -/
theorem QF.qe (h : QF X C a tl) : QE X C a (fun ρ Q => tl ρ fun ds => Q (.list ds)) := by
  refine ⟨PE.weak h.pe fun σ H Q q => ?_, fun ρ Q Q' w q => h.mono _ _ _ (fun ds q => w _ q) q⟩
  obtain ⟨ρ, he, j, q⟩ := q
  refine ⟨ρ, he, j, h.mono _ _ _ (fun ds q p vs H1 k1 j1 np r => ?_) q⟩
  have s := same_upd (o := .lst vs) np
  exact q _ _ (k1.trans (kxSame s)) (C.same _ _ s j1) (.lst (freshM C j1 np) upd_same (r.keep (kxSame s)))
@[simp] def sOwn (Ow : List Nat) (k : Nat) (t : P0A) : P0S := fun D ρ => t (hide Ow ρ) fun ds => k < ρ.length ∧ D.nx (ρ.set k (some (.list ds)))
theorem qs_own {k : Nat} {x : Str} {pos' : Pos} (hk : k ∈ Ow) (hN : X.N.Nodup) (hi : X.N[k]? = some x) (hx : Loc X.env.scope x) (h : ∀ C2, Ext C C2 → QF X C2 a tl) (hs : swapsWith a (some (.Name x pos')) pos.line X.env = pure false := by rfl) (hf : X.fn x = true ∨ X.env.scope.names.lookup x = some .local := by first | exact .inl rfl | exact .inr rfl | assumption) :
    QS X C Ow (.Assign [.Name x pos'] a pos) (sOwn Ow k tl) := by
  refine ⟨fun H0 w0 => ⟨fun pins sh σ H D I q => ?_⟩, fun ρ D D' q l => (h C Ext.refl).mono _ _ _ (fun ds q => ⟨q.1, l.1 _ q.2⟩) q⟩
  obtain ⟨ρ, w, s, q⟩ := q
  obtain ⟨he, hj⟩ := s.envX
  refine (ps_set hN hi hx (h _ (extE s.dis)).pe hs hf).run pins sh σ H D I ?_
  refine ⟨hide Ow ρ, he, hj, (h _ (extE s.dis)).mono _ _ _ (fun ds q p vs H1 k1 j1 np r => ?_) q⟩
  exact q.2 _ _ _ ((s.keep (s.keepX k1 j1) j1.1).own q.1 hk np (.lst r))
/-! x = e, e reading none of the own lists -/
@[simp] def sSetX (Ow : List Nat) (k : Nat) (t : P0) : P0S := fun D ρ => t (hide Ow ρ) fun d => D.nx (ρ.set k (some d))
theorem qs_setX {k : Nat} {x : Str} {pos' : Pos} (hk : k ∉ Ow) (hN : X.N.Nodup) (hi : X.N[k]? = some x) (hx : Loc X.env.scope x) (h : ∀ C2, Ext C C2 → QE X C2 a ta) (hs : swapsWith a (some (.Name x pos')) pos.line X.env = pure false := by rfl) (hf : X.fn x = true ∨ X.env.scope.names.lookup x = some .local := by first | exact .inl rfl | exact .inr rfl | assumption) :
    QS X C Ow (.Assign [.Name x pos'] a pos) (sSetX Ow k ta) := by
  refine ⟨fun H0 w0 => ⟨fun pins sh σ H D I q => ?_⟩, fun ρ D D' q l => (h C Ext.refl).mono _ _ _ (fun d q => l.1 _ q) q⟩
  obtain ⟨ρ, w, s, q⟩ := q
  obtain ⟨he, hj⟩ := s.envX
  refine (ps_set hN hi hx (h _ (extE s.dis)).pe hs hf).run pins sh σ H D I ?_
  exact ⟨hide Ow ρ, he, hj, (h _ (extE s.dis)).mono _ _ _ (fun d q v H' k1 j r => q _ H' w ((s.keep (s.keepX k1 j) j.1).setX hk r)) q⟩
@[simp] def sAsgX (Ow : List Nat) (dec : Dec) (t : P0) : P0S := fun D ρ => t (hide Ow ρ) fun d => ∃ l, dec d = some l ∧ (∀ p ∈ l, p.1 ∉ Ow) ∧ D.nx (setsR ρ l)
theorem qs_asgX {tg : Expr} {dec : Dec} {G : TG} (h : ∀ C2, Ext C C2 → QE X C2 a ta) (hg : ∀ C2, QG X X.K C2 tg G dec) (hs : swapsWithSole [tg] a pos.line X.env = pure false := by rfl) (hw : swappedStores [tg] a X.env = pure none := by rfl) (h1 : (assignEach [tg] X.env).map (·.2) = [assign tg X.env] := by rfl) : QS X C Ow (.Assign [tg] a pos) (sAsgX Ow dec ta) := by
  refine ⟨fun H0 w0 => ⟨fun pins sh σ H D I q => ?_⟩, fun ρ D D' q l => (h C Ext.refl).mono _ _ _ (fun d ⟨m, e, c1, q⟩ => ⟨m, e, c1, l.1 _ q⟩) q⟩
  obtain ⟨ρ, w, s, q⟩ := q
  obtain ⟨he, hj⟩ := s.envX
  refine (ps_asg (h _ (extE s.dis)).pe (hg C).pg hs hw h1).run pins sh σ H D I ?_
  refine ⟨hide Ow ρ, he, hj, (h _ (extE s.dis)).mono _ _ _ (fun d ⟨l, e, c1, q⟩ v H' k1 j r => ?_) q⟩
  exact (hg (C.ext w)).go H' σ v d l _ (.inl r) e fun vs hv => q _ H' w (SOk.setsX _ _ _ _ (s.keep (s.keepX k1 j) j.1) c1 hv)
@[simp] theorem hide_nil (ρ : Rho) : hide [] ρ = ρ := by
  unfold hide
  apply List.ext_getElem?
  intro i
  rw [List.getElem?_mapIdx]
  cases ρ[i]? <;> simp
/-! x.append(e) -/
@[simp] def sApp (Ow : List Nat) (k : Nat) (t : P0) : P0S := fun D ρ => k ∈ Ow ∧ ∃ ds, ρ[k]? = some (some (.list ds)) ∧ ds.length < sizeLine ∧ t (hide Ow ρ) fun d => D.nx (ρ.set k (some (.list (ds ++ [d]))))
theorem SOk.slot {H0 H : Hp} {w0 w : Own} {σ : L2.St} {ρ : Rho} (s : SOk C Ow H0 w0 H σ ρ w) {k : Nat} {ds : List PyData} (hk : k ∈ Ow) (e : ρ[k]? = some (some (.list ds))) : ∃ b vs, w k = some (b, .lst vs) ∧ σ[k]? = some (some (.ref b)) ∧ H b = some (.lst vs) ∧ DqAll (C.ext w) H vs ds := by
  obtain ⟨⟨b, vs⟩, hw⟩ := s.all k hk ⟨_, e⟩
  obtain ⟨_, _, a4, a5, ds2, a6, a7⟩ := s.dom k b vs hw
  rw [a6] at e
  cases e
  cases a7 with
  | lst r => exact ⟨b, _, hw, a4, a5, r⟩
theorem qs_append {k : Nat} {call : Expr} (hp : ∀ te, PE X a te → PE X call (tBM X.K "list" rAppend (tVar k) (tCons te tNil))) (h : ∀ C2, Ext C C2 → QE X C2 a ta) (hs : swapsWith call none pos.line X.env = pure false := by rfl) : QS X C Ow (.Expr call pos) (sApp Ow k ta) := by
  refine ⟨fun H0 w0 => ⟨fun pins sh σ H D I q => ?_⟩, fun ρ D D' ⟨hk, ds, e, z, q⟩ l => ⟨hk, ds, e, z, (h C Ext.refl).mono _ _ _ (fun d q => l.1 _ q) q⟩⟩
  obtain ⟨ρ, w, s, hk, ds, e, z, q⟩ := q
  obtain ⟨b, vs, hw, e1, e2, r⟩ := s.slot hk e
  obtain ⟨he, hj⟩ := s.envX
  refine (ps_expr (hp _ (h _ (extE s.dis)).pe) hs).run pins sh σ H D I ?_
  refine ⟨.ref b, e1, .inl ⟨rfl, vs, .inl (.inl e2)⟩, hide Ow ρ, he, hj, (h _ (extE s.dis)).mono _ _ _ (fun d q v H' k1 j1 r1 => ?_) q⟩
  have s1 := s.keep (s.keepX k1 j1) j1.1
  obtain ⟨b', vs', hw', e1', e2', r'⟩ := s1.slot hk e
  rw [hw] at hw'
  cases hw'
  exact ⟨b, vs, v, rfl, rfl, e2', by rw [r'.length]; exact z, q _ _ _ (s1.put hw (.lst (r'.app (.cons r1 .nil))))⟩
/-! x.extend(e), of a list or a tuple -/
@[simp] def itemsD : PyData → Option (List PyData)
  | .list ds => some ds
  | .tuple ds => some ds
  | _ => none
@[simp] def sExt (Ow : List Nat) (k : Nat) (t : P0) : P0S := fun D ρ => k ∈ Ow ∧ ∃ ds, ρ[k]? = some (some (.list ds)) ∧ t (hide Ow ρ) fun d => ∃ es, d = .tuple es ∧ ds.length + es.length ≤ sizeLine ∧ D.nx (ρ.set k (some (.list (ds ++ es))))
theorem qs_extT {k : Nat} {call : Expr} (hp : ∀ te, PE X a te → PE X call (tBM X.K "list" (fun x vs H Q => ∃ l b xs zs, x = .ref l ∧ vs = [.ref b] ∧ H l = some (.lst xs) ∧ SqT X.K H b zs ∧ xs.length + zs.length ≤ sizeLine ∧ Q .non (upd H l (.lst (xs ++ zs)))) (tVar k) (tCons te tNil))) (h : ∀ C2, Ext C C2 → QE X C2 a ta) (hs : swapsWith call none pos.line X.env = pure false := by rfl) : QS X C Ow (.Expr call pos) (sExt Ow k ta) := by
  refine ⟨fun H0 w0 => ⟨fun pins sh σ H D I q => ?_⟩, fun ρ D D' ⟨hk, ds, e, q⟩ l => ⟨hk, ds, e, (h C Ext.refl).mono _ _ _ (fun d ⟨es, e1, c1, q⟩ => ⟨es, e1, c1, l.1 _ q⟩) q⟩⟩
  obtain ⟨ρ, w, s, hk, ds, e, q⟩ := q
  obtain ⟨b, vs, hw, e1, e2, r⟩ := s.slot hk e
  obtain ⟨he, hj⟩ := s.envX
  refine (ps_expr (hp _ (h _ (extE s.dis)).pe) hs).run pins sh σ H D I ?_
  refine ⟨.ref b, e1, .inl ⟨rfl, vs, .inl (.inl e2)⟩, hide Ow ρ, he, hj, (h _ (extE s.dis)).mono _ _ _ (fun d ⟨es, ed, c1, q⟩ v H' k1 j1 r1 => ?_) q⟩
  subst ed
  have s1 := s.keep (s.keepX k1 j1) j1.1
  obtain ⟨b', vs', hw', e1', e2', r'⟩ := s1.slot hk e
  rw [hw] at hw'
  cases hw'
  cases r1 with
  | @tup c zs _ hH hr => exact ⟨b, c, vs, zs, rfl, rfl, e2', hH.sq, by rw [r'.length, hr.length]; exact c1, q _ _ _ (s1.put hw (.lst (r'.app hr)))⟩
@[simp] def sExtL (Ow : List Nat) (k : Nat) (t : P0) : P0S := fun D ρ => k ∈ Ow ∧ ∃ ds, ρ[k]? = some (some (.list ds)) ∧ t (hide Ow ρ) fun d => ∃ es, d = .list es ∧ ds.length + es.length ≤ sizeLine ∧ D.nx (ρ.set k (some (.list (ds ++ es))))
theorem qs_extL {k : Nat} {call : Expr} (hp : ∀ te, PE X a te → PE X call (tBM X.K "list" rExtend (tVar k) (tCons te tNil))) (h : ∀ C2, Ext C C2 → QE X C2 a ta) (hs : swapsWith call none pos.line X.env = pure false := by rfl) : QS X C Ow (.Expr call pos) (sExtL Ow k ta) := by
  refine ⟨fun H0 w0 => ⟨fun pins sh σ H D I q => ?_⟩, fun ρ D D' ⟨hk, ds, e, q⟩ l => ⟨hk, ds, e, (h C Ext.refl).mono _ _ _ (fun d ⟨es, e1, c1, q⟩ => ⟨es, e1, c1, l.1 _ q⟩) q⟩⟩
  obtain ⟨ρ, w, s, hk, ds, e, q⟩ := q
  obtain ⟨b, vs, hw, e1, e2, r⟩ := s.slot hk e
  obtain ⟨he, hj⟩ := s.envX
  refine (ps_expr (hp _ (h _ (extE s.dis)).pe) hs).run pins sh σ H D I ?_
  refine ⟨.ref b, e1, .inl ⟨rfl, vs, .inl (.inl e2)⟩, hide Ow ρ, he, hj, (h _ (extE s.dis)).mono _ _ _ (fun d ⟨es, ed, c1, q⟩ v H' k1 j1 r1 => ?_) q⟩
  subst ed
  have s1 := s.keep (s.keepX k1 j1) j1.1
  obtain ⟨b', vs', hw', e1', e2', r'⟩ := s1.slot hk e
  rw [hw] at hw'
  cases hw'
  cases r1 with
  | @lst c zs _ n1 hH hr => exact ⟨b, c, vs, zs, rfl, rfl, e2', hH, by rw [r'.length, hr.length]; exact c1, q _ _ _ (s1.put hw (.lst (r'.app hr)))⟩
/-! target = x.pop() -/
@[simp] def sPop (Ow : List Nat) (k : Nat) (dec : Dec) : P0S := fun D ρ => k ∈ Ow ∧ ∃ ds d l, ρ[k]? = some (some (.list (ds ++ [d]))) ∧ dec d = some l ∧ (∀ p ∈ l, p.1 ∉ Ow) ∧ D.nx (setsR (ρ.set k (some (.list ds))) l)
theorem dq_last {w : Own} {H : Hp} : ∀ {vs : List V} {ds : List PyData} {d : PyData}, DqAll (C.ext w) H vs (ds ++ [d]) → ∃ v us, vs = us ++ [v] ∧ Dq (C.ext w) H v d ∧ DqAll (C.ext w) H us ds
  | _, [], _, .cons (v := v) h .nil => ⟨v, [], rfl, h, .nil⟩
  | _, e :: ds, d, .cons (v := u) h t => by
    obtain ⟨v, us, e1, r1, r2⟩ := dq_last t
    exact ⟨v, u :: us, by rw [e1]; rfl, r1, .cons h r2⟩
theorem qs_pop {k : Nat} {call tg : Expr} {G : TG} {dec : Dec} (hp : PE X call (tBM0 X.K "list" rPop (tVar k))) (hg : ∀ C2, QG X X.K C2 tg G dec) (hs : swapsWithSole [tg] call pos.line X.env = pure false := by rfl) (hw : swappedStores [tg] call X.env = pure none := by rfl) (h1 : (assignEach [tg] X.env).map (·.2) = [assign tg X.env] := by rfl) :
    QS X C Ow (.Assign [tg] call pos) (sPop Ow k dec) := by
  refine ⟨fun H0 w0 => PS.weak (ps_asg hp (hg C).pg hs hw h1) fun D σ H q => ?_, fun ρ D D' ⟨hk, ds, d, m, e, e2, c, q⟩ l => ⟨hk, ds, d, m, e, e2, c, l.1 _ q⟩⟩
  obtain ⟨ρ, w, s, hk, ds, d, l, e, e3, c, q⟩ := q
  obtain ⟨b, vs, hw, e1, e2, r⟩ := s.slot hk e
  obtain ⟨v, us, rfl, r1, r2⟩ := dq_last r
  refine ⟨.ref b, e1, .inl ⟨rfl, _, .inl (.inl e2)⟩, b, _, v, rfl, rfl, e2, by simp, ?_⟩
  rw [List.dropLast_concat]
  have s1 := s.put hw (.lst r2)
  have r3 : Dq (C.ext (putW w k (b, .lst us))) (upd H b (.lst us)) v d := by
    have kD : Kx (C.ext w) H (upd H b (.lst us)) := ⟨fun c xs ec => ec.upd e2 fzLst, fun c o m ec => by rw [upd_ne (fun z => m (.inr ⟨k, .lst (us ++ [v]), by rw [z]; exact hw⟩))]; exact ec⟩
    refine Dq.sub (C := C.ext w) (C' := C.ext (putW w k (b, .lst us))) (fun c m => ?_) rfl (r1.keep kD)
    rcases m with m | ⟨i, xs, ei⟩
    · exact .inl m
    · by_cases hi : i = k
      · rw [hi, putW_same] at ei
        cases ei
        exact .inr ⟨k, _, hw⟩
      · rw [putW_ne hi] at ei
        exact .inr ⟨i, xs, ei⟩
  exact (hg _).go _ σ v d l _ (.inl r3) e3 fun ws hv => q _ _ _ (SOk.setsX _ _ _ _ s1 c hv)
/-! a def -/
@[simp] def startR (N : List Str) (ds : List PyData) : Rho := ds.map some ++ List.replicate (N.length - ds.length) none
end
section
variable {P : Program} {w : World} {K : PySem.W.Frag} {mg : Str → Option Value} {base : Heap}
theorem start_at {C : Cz} {H : Hp} {N : List Str} : ∀ {vs : List V} {ds : List PyData}, DqAll C H vs ds → ∀ (n : Nat) (i : Nat) (d : PyData), (ds.map some ++ List.replicate n (none : Option PyData))[i]? = some (some d) → i < ds.length ∧ ∃ v, (vs.map some ++ List.replicate n (none : Option V))[i]? = some (some v) ∧ Dq C H v d
  | _, _, .nil, n, i, d, e => by
    simp only [List.map_nil, List.nil_append] at e
    by_cases hi : i < n
    · rw [List.getElem?_replicate_of_lt hi] at e
      cases e
    · rw [List.getElem?_eq_none (by simp; omega)] at e
      cases e
  | _, _, .cons (v := v) h t, n, 0, d, e => by
    simp at e
    subst e
    exact ⟨by simp, v, rfl, h⟩
  | _, _, .cons (v := v) h t, n, i + 1, d, e => by
    obtain ⟨h1, u, h2, h3⟩ := start_at (N := N) t n i d (by simpa using e)
    exact ⟨by simp; omega, u, by simpa using h2, h3⟩
theorem defQ {x qual : Str} {st : Stmt} {f : Addr} {fd : FuncData} {N ps : List Str} {k : Nat} {G : Cz → Prop} {pre : List PyData → Prop} {res : List PyData → PyData → Prop} (Ow : List Nat) (F : Fun K x qual st f fd) (S : FnScope N ps (defScope st)) (hlen : ∀ ds, pre ds → ds.length = ps.length) (hOw : ∀ i ∈ Ow, ps.length ≤ i)
    (body : ∀ (C : Cz), G C → ∀ (cdv : Value) (A : Around) (outer : List Env) (s : Shared) (H : Hp) (E : XK), Room k (A.deeper (envOfC qual (defScope st) s.heap.objs.size f cdv)) →
      ∃ ts, QSs (cxOf CX0 P w K mg base N qual (defScope st) f cdv A outer s H E).nox C Ow (defBody st) ts ∧ ∀ ds, pre ds → ts { nx := fun _ => res ds .none, rt := res ds } (startR N ds)) :
    FnOk P w K mg base CX0 (k + 1) f fd ps (spQ G pre res) := by
  refine F.ok S (fun vs H Q E h => ?_) (fun cdv A outer s H vs Q E hr h => ?_)
  · obtain ⟨C, ds, _, r, _, hp, _⟩ := h
    rw [r.length]
    exact hlen ds hp
  · obtain ⟨C, ds, hG, r, j, hp, hq⟩ := h
    obtain ⟨ts, hs, pure⟩ := body C hG cdv A outer s H E hr
    have hl := r.length
    have hd := hlen ds hp
    refine ⟨_, hs.ps H (fun _ => none), startR N ds, fun _ => none, ?_, hs.mono _ _ _ (pure ds hp) ⟨fun ρ q σ' H' w' s' => ?_, fun d q v H' k1 j1 r1 => ?_, fun _ q => False.elim q, fun _ q => False.elim q⟩⟩
    · refine { len := by simp [startR, L2.start, hl], j := j, k := St.refl, inj := fun i j b xs ys e => (by cases e), dom := fun i b xs e => (by cases e), all := fun i hi he => ?_, at_ := fun i d hi he => ?_ }
      · obtain ⟨d, he⟩ := he
        have h1 := (start_at (N := N) r _ i d he).1
        have h2 := hOw i hi
        omega
      · obtain ⟨_, v, h2, h3⟩ := start_at (N := N) r _ i d he
        refine ⟨v, ?_, Dq.sub (C := C) (C' := C.ext fun _ => none) (fun b m => ?_) rfl h3⟩
        · show (vs.map some ++ List.replicate (N.length - vs.length) none)[i]? = _
          rw [hl]
          exact h2
        · rcases m with m | ⟨i, xs, e⟩
          · exact m
          · cases e
    · exact hq _ q .non H' ⟨s'.k.1, fun b o m e => (s'.k.2 b o m (fun i vs z => by cases z) e).1⟩ s'.j .non
    · exact hq d q v H' ⟨k1.1, fun b o m e => k1.2 b o m (fun i vs z => by cases z) e⟩ j1 r1
end
end Kr

set_option Elab.async false
set_option linter.all false
set_option maxRecDepth 100000
set_option maxHeartbeats 4000000
namespace Kr
open PySem PySem.Spec PyProof.Rows L2
section
variable {X : Cx} {C : Cz}
/-! ints -/
theorem oq_int {f : Value → Value → Sem Value} {c : Int → Int → Prop} {g : Int → Int → V} (h : Int → Int → PyData) (ho : OpR X f (rI c g)) (hg : ∀ H i j, Dq C H (g i j) (h i j)) : OQ X C f (fun d1 d2 Q => ∃ i j, d1 = .int i ∧ d2 = .int j ∧ c i j ∧ Q (h i j)) := by
  refine ⟨fun pins s σ H x y v u Q I rx ry q => ?_, fun x y Q Q' w ⟨i, j, e1, e2, c, q⟩ => ⟨i, j, e1, e2, c, w _ q⟩⟩
  obtain ⟨d1, d2, r1, r2, jj, i, j, rfl, rfl, cc, q⟩ := q
  cases r1
  cases r2
  exact ho pins s σ H _ _ v u Q I rx ry ⟨i, j, rfl, rfl, cc, q _ H Kx.refl jj (hg H i j)⟩
theorem oq_int0 {f : Value → Value → Sem Value} {g : Int → Int → V} (h : Int → Int → PyData) (ho : OpR X f (rI0 g)) (hg : ∀ H i j, Dq C H (g i j) (h i j)) : OQ X C f (fun d1 d2 Q => ∃ i j, d1 = .int i ∧ d2 = .int j ∧ Q (h i j)) := by
  refine ⟨fun pins s σ H x y v u Q I rx ry q => ?_, fun x y Q Q' w ⟨i, j, e1, e2, q⟩ => ⟨i, j, e1, e2, w _ q⟩⟩
  obtain ⟨d1, d2, r1, r2, jj, i, j, rfl, rfl, q⟩ := q
  cases r1
  cases r2
  exact ho pins s σ H _ _ v u Q I rx ry ⟨i, j, rfl, rfl, q _ H Kx.refl jj (hg H i j)⟩
@[simp] def rMul : R0 := fun d1 d2 Q => ∃ i j, d1 = .int i ∧ d2 = .int j ∧ CMul i j ∧ Q (.int (i * j))
@[simp] def rMod : R0 := fun d1 d2 Q => ∃ i j, d1 = .int i ∧ d2 = .int j ∧ 0 < j ∧ Q (.int (i % j))
@[simp] def rDiv : R0 := fun d1 d2 Q => ∃ i j, d1 = .int i ∧ d2 = .int j ∧ CDiv i j ∧ Q (.int (i / j))
@[simp] def rPow : R0 := fun d1 d2 Q => ∃ i j, d1 = .int i ∧ d2 = .int j ∧ CPow i j ∧ Q (.int (i ^ j.toNat))
@[simp] def rCmp (p : Int → Int → Bool) : R0 := fun d1 d2 Q => ∃ i j, d1 = .int i ∧ d2 = .int j ∧ Q (.bool (p i j))
theorem oq_mul : OQ X C (binaryOp .Mult) rMul := oq_int _ op_mul fun _ _ _ => .int _
theorem oq_mod : OQ X C (binaryOp .Mod) rMod := oq_int _ op_mod fun _ _ _ => .int _
theorem oq_div : OQ X C (binaryOp .FloorDiv) rDiv := oq_int _ op_fdiv fun _ _ _ => .int _
theorem oq_pow : OQ X C (binaryOp .Pow) rPow := oq_int _ op_pow fun _ _ _ => .int _
theorem oq_lt : OQ X C (compareOp .Lt) (rCmp fun i j => decide (i < j)) := oq_int0 _ op_lt fun _ _ _ => .bl _
theorem oq_le : OQ X C (compareOp .LtE) (rCmp fun i j => decide (i ≤ j)) := oq_int0 _ op_le fun _ _ _ => .bl _
theorem oq_gt : OQ X C (compareOp .Gt) (rCmp fun i j => decide (j < i)) := oq_int0 _ op_gt fun _ _ _ => .bl _
theorem oq_ge : OQ X C (compareOp .GtE) (rCmp fun i j => decide (j ≤ i)) := oq_int0 _ op_ge fun _ _ _ => .bl _
/-- numbers and truths -/
@[simp] def numD : PyData → Option Int
  | .int i => some i
  | .bool b => some (if b then 1 else 0)
  | _ => none
@[simp] def rSub : R0 := fun d1 d2 Q => ∃ i j, numD d1 = some i ∧ numD d2 = some j ∧ (isB d1 && isB d2) = false ∧ Q (.int (i - j))
where isB : PyData → Bool
  | .bool _ => true
  | _ => false
theorem oq_sub : OQ X C (binaryOp .Sub) rSub := by
  refine ⟨fun pins s σ H x y v u Q I rx ry q => ?_, fun x y Q Q' w ⟨i, j, e1, e2, c, q⟩ => ⟨i, j, e1, e2, c, w _ q⟩⟩
  obtain ⟨d1, d2, r1, r2, jj, i, j, e1, e2, c, q⟩ := q
  cases r1 with
  | int a =>
    cases e1
    cases r2 with
    | int b =>
      cases e2
      exact op_sub pins s σ H _ _ v u Q I rx ry ⟨_, _, rfl, rfl, q _ H Kx.refl jj (.int _)⟩
    | bl b =>
      cases e2
      obtain ⟨t, rfl⟩ := rx
      cases ry
      exact IntBool.sub_int_bool ⟨.int _, H, I.tok _, ⟨_, rfl⟩, q _ H Kx.refl jj (.int _)⟩
    | _ => cases e2
  | bl a =>
    cases e1
    cases r2 with
    | int b =>
      cases e2
      cases rx
      obtain ⟨t, rfl⟩ := ry
      exact IntBool.sub_bool_int ⟨.int _, H, I.tok _, ⟨_, rfl⟩, q _ H Kx.refl jj (.int _)⟩
    | bl b => cases c
    | _ => cases e2
  | _ => cases e1
/-! + -/
@[simp] def rAdd : R0 := fun d1 d2 Q => match d1, d2 with
  | .int i, .int j => Q (.int (i + j))
  | .bool a, .int j => Q (.int ((if a = true then (1 : Int) else 0) + j))
  | .str a, .str b => a.length + b.length ≤ sizeLine ∧ Q (.str (a ++ b))
  | .list xs, .list ys => xs.length + ys.length ≤ sizeLine ∧ Q (.list (xs ++ ys))
  | .tuple xs, .tuple ys => xs.length + ys.length ≤ sizeLine ∧ Q (.tuple (xs ++ ys))
  | _, _ => False
theorem rAdd_mono (x y : PyData) (Q Q' : PyData → Prop) (w : ∀ d, Q d → Q' d) (h : rAdd x y Q) : rAdd x y Q' := by
  cases x <;> cases y <;> first | exact h.elim | exact ⟨h.1, w _ h.2⟩ | exact w _ h
theorem op_catS : OpR X (binaryOp .Add) (fun x y H Q => ∃ l b xs zs, x = .ref l ∧ y = .ref b ∧ H l = some (.lst xs) ∧ H b = some (.lst zs) ∧ xs.length + zs.length ≤ sizeLine ∧ ∀ p, H p = none → p ≠ sysModules → Q (.ref p) (upd H p (.lst (xs ++ zs)))) :=
  fun pins s σ H x y v u Q I rx ry ⟨l, b, xs, zs, ex, ey, h1, h2, hz, q⟩ => by
    subst ex ey
    obtain rfl : v = Value.ref l := rx
    obtain rfl : u = Value.ref b := ry
    obtain ⟨_, i1, n1, r1, l1, o1⟩ := I.lstM h1
    obtain ⟨_, i2, n2, r2, l2, o2⟩ := I.lstM h2
    have hs : i1.toArray.size + i2.toArray.size ≤ sizeLine := by
      rw [List.size_toArray, List.size_toArray]
      omega
    refine PySem.P.add_list o1 o2 ?_ hs
    rw [show i1.toArray ++ i2.toArray = (i1 ++ i2).toArray by simp]
    exact ⟨.ref _, _, I.lnew (t' := s.toks) (r1.append r2) (by rw [List.length_append]; exact hz), rfl, q _ I.fresh (Nat.ne_of_gt I.big)⟩
theorem oq_add : OQ X C (binaryOp .Add) rAdd := by
  refine ⟨fun pins s σ H x y v u Q I rx ry q => ?_, rAdd_mono⟩
  obtain ⟨d1, d2, r1, r2, jj, q⟩ := q
  cases r1 with
  | int a =>
    cases r2 with
    | int b => exact op_add pins s σ H _ _ v u Q I rx ry ⟨_, _, rfl, rfl, q _ H Kx.refl jj (.int _)⟩
    | _ => exact q.elim
  | bl a =>
    cases r2 with
    | int b =>
      cases rx
      obtain ⟨t, rfl⟩ := ry
      exact IntBool.add_bool_int ⟨.int _, H, I.tok _, ⟨_, rfl⟩, q _ H Kx.refl jj (.int _)⟩
    | _ => exact q.elim
  | str a =>
    cases r2 with
    | str b => exact op_add_str pins s σ H _ _ v u Q I rx ry ⟨_, _, rfl, rfl, q.1, q.2 _ H Kx.refl jj (.str _)⟩
    | _ => exact q.elim
  | @lst l xs ds m1 h1 a1 =>
    cases r2 with
    | @lst b ys es m2 h2 a2 =>
      refine op_catS pins s σ H _ _ v u Q I rx ry ⟨l, b, xs, ys, rfl, rfl, h1, h2, by rw [a1.length, a2.length]; exact q.1, fun p np hs => ?_⟩
      have sm := same_upd (o := .lst (xs ++ ys)) np
      exact q.2 _ _ (kxSame sm) (C.same _ _ sm jj) (.lst (freshM C jj np) upd_same ((a1.app a2).keep (kxSame sm)))
    | _ => exact q.elim
  | @tup a xs ds h1 a1 =>
    cases r2 with
    | @tup b ys es h2 a2 =>
      cases rx
      cases ry
      have l1 := a1.length
      have l2 := a2.length
      obtain ⟨i1, v1, p1, z1⟩ := I.tuple h1.sq
      obtain ⟨i2, v2, p2, z2⟩ := I.tuple h2.sq
      by_cases hx : xs = []
      · subst hx
        cases v1
        cases a1
        exact L2.cat_tup0 p1 p2 ⟨.ref b, H, I, rfl, q.2 _ H Kx.refl jj (.tup h2 a2)⟩
      have hlen : (xs ++ ys).length ≤ sizeLine := by
        rw [List.length_append, l1, l2]
        exact q.1
      refine HT.cat_tup p1 p2 (fun z => hx (v1.nil_iff.mp z)) (fun z => ?_) (fun _ => ?_) ?_
      · have ey := v2.nil_iff.mp z
        subst ey
        cases a2
        have q2 := q.2
        rw [List.append_nil] at q2
        exact ⟨.ref a, H, I, rfl, q2 _ H Kx.refl jj (.tup h1 a1)⟩
      · have at_ : (s.heap.push { cls := .type "tuple", data := .seq (i1 ++ i2).toArray }).get? s.heap.objs.size = some { cls := .type "tuple", data := .seq (i1 ++ i2).toArray } := Heap.get?_push_size _ rfl
        have sm := same_upd (o := .frz { cls := .type "tuple", data := .seq (i1 ++ i2).toArray } (.tup (xs ++ ys))) (I.hok.fresh (Nat.le_refl s.heap.objs.size))
        exact ⟨.ref s.heap.objs.size, _, I.laid (t' := s.toks) (fun b ob q => Heap.get?_push_of_some _ q) (Nat.le_refl _) (show ObjOk X.prog X.w _ _ _ (.frz _ (.tup (xs ++ ys))) from ⟨at_, hlen, _, v1.append v2, IsTup.new _ _⟩), rfl, q.2 _ _ (kxSame sm) (C.same _ _ sm jj) (.tup (tp_upd rfl) ((a1.app a2).keep (kxSame sm)))⟩
      · rw [← v1.length, ← v2.length, l1, l2]
        exact q.1
    | _ => exact q.elim
  | _ => exact q.elim
/-! texts compared -/
@[simp] def rLeS : R0 := fun d1 d2 Q => ∃ i j, d1 = .str i ∧ d2 = .str j ∧ Q (.bool (!decide (j.cps.toList < i.cps.toList)))
theorem oq_leS : OQ X C (compareOp .LtE) rLeS := by
  refine ⟨fun pins s σ H x y v u Q I rx ry q => ?_, fun x y Q Q' w ⟨i, j, e1, e2, q⟩ => ⟨i, j, e1, e2, w _ q⟩⟩
  obtain ⟨d1, d2, r1, r2, jj, i, j, rfl, rfl, q⟩ := q
  cases r1
  cases r2
  exact op_le_str pins s σ H _ _ v u Q I rx ry ⟨i, j, rfl, rfl, q _ H Kx.refl jj (.bl _)⟩
@[simp] def rLtS : R0 := fun d1 d2 Q => ∃ i j, d1 = .str i ∧ d2 = .str j ∧ Q (.bool (decide (i.cps.toList < j.cps.toList)))
theorem oq_ltS : OQ X C (compareOp .Lt) rLtS := by
  refine ⟨fun pins s σ H x y v u Q I rx ry q => ?_, fun x y Q Q' w ⟨i, j, e1, e2, q⟩ => ⟨i, j, e1, e2, w _ q⟩⟩
  obtain ⟨d1, d2, r1, r2, jj, i, j, rfl, rfl, q⟩ := q
  cases r1
  cases r2
  exact op_lt_str pins s σ H _ _ v u Q I rx ry ⟨i, j, rfl, rfl, q _ H Kx.refl jj (.bl _)⟩
/-! == -/
mutual
theorem Dq.dp {K : PySem.W.Frag} {H : Hp} : ∀ {v : V} {t : PyData}, t.canLay0 = true → Dq C H v t → Dp K H v t
  | _, _, _, .non => .non
  | _, _, _, .bl b => .bl b
  | _, _, _, .int i => .int i
  | _, _, _, .str x => .str x
  | _, _, e, .lst _ h r => .lst (.inl (.inl h)) (DqAll.dp (by simpa [PyData.canLay0] using e) r)
  | _, _, e, .tup h r => .tup h.sq (DqAll.dp (by simpa [PyData.canLay0] using e) r)
  | _, _, e, .dct _ _ _ => by simp [PyData.canLay0] at e
  | _, _, e, .tok _ => by simp [PyData.canLay0, tokD] at e
  | _, _, e, .obj _ _ _ _ => by simp [PyData.canLay0, objD] at e
theorem DqAll.dp {K : PySem.W.Frag} {H : Hp} : ∀ {vs : List V} {ts : List PyData}, PyData.canLayAll0 ts = true → DqAll C H vs ts → DpAll K H vs ts
  | _, _, _, .nil => .nil
  | _, _, e, .cons h r => by
    have e' : (PyData.canLay0 _ && PyData.canLayAll0 _) = true := e
    rw [Bool.and_eq_true] at e'
    exact .cons (Dq.dp e'.1 h) (DqAll.dp e'.2 r)
end
def shp (d : PyData) : Bool := SeqAt.shaped d
@[simp] def rEq : R0 := fun d1 d2 Q => shp d1 = true ∧ shp d2 = true ∧ Q (.bool (PyData.eqv d1 d2))
@[simp] def rNe : R0 := fun d1 d2 Q => shp d1 = true ∧ shp d2 = true ∧ Q (.bool (!PyData.eqv d1 d2))
theorem oq_eq (hu : X.A.units + 64 < cLine) : OQ X C (compareOp .Eq) rEq :=
  ⟨fun pins s σ H x y v u Q I rx ry ⟨d1, d2, r1, r2, jj, s1, s2, q⟩ => op_eqD hu pins s σ H _ _ v u Q I rx ry ⟨d1, d2, r1.dp (SeqAt.canLay_of_shaped s1), r2.dp (SeqAt.canLay_of_shaped s2), s1, s2, q _ H Kx.refl jj (.bl _)⟩,
    fun x y Q Q' w ⟨a, b, q⟩ => ⟨a, b, w _ q⟩⟩
theorem oq_ne (hu : X.A.units + 64 < cLine) : OQ X C (compareOp .NotEq) rNe :=
  ⟨fun pins s σ H x y v u Q I rx ry ⟨d1, d2, r1, r2, jj, s1, s2, q⟩ => op_neD hu pins s σ H _ _ v u Q I rx ry ⟨d1, d2, r1.dp (SeqAt.canLay_of_shaped s1), r2.dp (SeqAt.canLay_of_shaped s2), s1, s2, q _ H Kx.refl jj (.bl _)⟩,
    fun x y Q Q' w ⟨a, b, q⟩ => ⟨a, b, w _ q⟩⟩
/-! subscripts -/
@[simp] def ixD (d : PyData) (i : Int) : Option PyData := match d with
  | .list ds => atI ds i
  | .tuple ds => atI ds i
  | .str z => if z.length ≤ sizeLine then (atI z.cps.toList i).map fun c => .str ⟨#[c]⟩ else none
  | _ => none
theorem DqAll.atI {H : Hp} {vs : List V} {ds : List PyData} {i : Int} {d : PyData} (r : DqAll C H vs ds) (e : L2.atI ds i = some d) : ∃ v, L2.atI vs i = some v ∧ Dq C H v d := by
  unfold L2.atI at e ⊢
  rw [r.length]
  cases h : ixN ds.length i with
  | none =>
    rw [h] at e
    cases e
  | some j =>
    rw [h] at e
    obtain ⟨v, e1, q⟩ := r.get (show ds[j]? = some d from e)
    exact ⟨v, e1, q⟩
@[simp] def rIx : R0 := fun d1 d2 Q => ∃ i d, d2 = .int i ∧ ixD d1 i = some d ∧ Q d
@[simp] def vIx (ta tb : P0) : P0 := vOp rIx ta tb
theorem iq_ix : IxR X (lO C rIx) := by
  intro value slice pins s σ H x y v u Q I rx ry q hsub
  obtain ⟨d1, d2, r1, r2, jj, i, d, rfl, e, q⟩ := q
  cases r2
  cases r1 with
  | lst _ h r =>
    obtain ⟨v1, e1, rv⟩ := r.atI e
    exact ix_list value slice pins s σ H _ _ v u Q I rx ry ⟨_, _, i, v1, rfl, rfl, .inl (.inl h), e1, q _ H Kx.refl jj rv⟩ hsub
  | tup h r =>
    obtain ⟨v1, e1, rv⟩ := r.atI e
    exact ix_tup value slice pins s σ H _ _ v u Q I rx ry ⟨_, _, i, v1, rfl, rfl, h.sq, e1, q _ H Kx.refl jj rv⟩ hsub
  | str z =>
    have e' : (if z.length ≤ sizeLine then (L2.atI z.cps.toList i).map fun c => PyData.str ⟨#[c]⟩ else none) = some d := e
    by_cases hz : z.length ≤ sizeLine
    · rw [if_pos hz] at e'
      obtain ⟨c, e1, rfl⟩ := Option.map_eq_some_iff.mp e'
      exact ix_str value slice pins s σ H _ _ v u Q I rx ry ⟨z, i, c, rfl, rfl, hz, e1, q _ H Kx.refl jj (.str _)⟩ hsub
    · rw [if_neg hz] at e'
      cases e'
  | _ => cases e
theorem qe_ix {a b : Expr} {ta tb : P0} {pos : Pos} (ha : QE X C a ta) (hb : QE X C b tb) (hs : PlainIx b) : QE X C (.Subscript a b pos) (vIx ta tb) := by
  have mo : ∀ x y Q Q', (∀ d, Q d → Q' d) → rIx x y Q → rIx x y Q' := fun x y Q Q' w ⟨i, d, e1, e2, q⟩ => ⟨i, d, e1, e2, w _ q⟩
  refine ⟨PE.weak (pe_ix (iq_ix (C := C)) ha.pe hb.pe hs) fun σ H Q h => ?_, fun ρ Q Q' w h => ha.mono _ _ _ (fun d1 h => hb.mono _ _ _ (fun d2 h => mo _ _ _ _ w h) h) h⟩
  obtain ⟨ρ, he, j, h⟩ := h
  refine ⟨ρ, he, j, ha.mono _ _ _ (fun d1 h1 v H1 k1 j1 r1 => ?_) h⟩
  refine ⟨ρ, he.keep k1, j1, hb.mono _ _ _ (fun d2 h2 w H2 k2 j2 r2 => ?_) h1⟩
  exact ⟨d1, d2, r1.keep k2, r2, j2, mo _ _ _ _ (fun d q => q.up (k1.trans k2)) h2⟩
end
end Kr

set_option Elab.async false
set_option linter.all false
set_option maxRecDepth 100000
set_option maxHeartbeats 4000000
namespace Kr
open PySem PySem.Spec PyProof.Rows L2
/-! slices -/
def cutG {α : Type} (xs : List α) (lo hi : Option Int) : List α := (xs.drop (HT.sIx xs.length 0 lo)).take (HT.sIx xs.length xs.length hi - HT.sIx xs.length 0 lo)
abbrev P0O := Rho → (Option Int → Prop) → Prop
section
variable {X : Cx} {C : Cz} {a b c : Expr} {ta tb : P0} {tA : P0T} {pos : Pos}
theorem DqAll.cut {H : Hp} {vs : List V} {ds : List PyData} (r : DqAll C H vs ds) (lo hi : Option Int) : DqAll C H (cutV vs lo hi) (cutG ds lo hi) := by
  unfold cutV cutG
  rw [r.length]
  exact (r.drop _).take _
structure QO (X : Cx) (C : Cz) (e : Option Expr) (t : P0O) : Prop where
  po : ∃ T, PO X e T ∧ ∀ σ H Q, (∃ ρ, EnvOk C H σ ρ ∧ C.J H ∧ t ρ fun o => ∀ H', Kx C H H' → C.J H' → Q o H') → T σ H Q
  mono : ∀ ρ Q Q', (∀ d, Q d → Q' d) → t ρ Q → t ρ Q'
theorem qo_none : QO X C none (fun _ Q => Q none) := ⟨⟨_, po_none, fun σ H Q ⟨ρ, he, j, q⟩ => q H Kx.refl j⟩, fun _ _ _ w q => w _ q⟩
theorem qo_some (h : QE X C a ta) : QO X C (some a) (fun ρ Q => ta ρ fun d => ∃ i, d = .int i ∧ Q (some i)) := by
  refine ⟨⟨_, po_some h.pe, fun σ H Q ⟨ρ, he, j, q⟩ => ⟨ρ, he, j, h.mono _ _ _ (fun d ⟨i, e, q⟩ v H' k j' r => ?_) q⟩⟩, fun ρ Q Q' w q => h.mono _ _ _ (fun d ⟨i, e, q⟩ => ⟨i, e, w _ q⟩) q⟩
  subst e
  cases r
  exact ⟨i, rfl, q H' k j'⟩
@[simp] def slD (d : PyData) (lo hi : Option Int) : Option PyData := match d with
  | .tuple ds => some (.tuple (cutG ds lo hi))
  | .list ds => some (.list (cutG ds lo hi))
  | .str z => if z.length ≤ sizeLine then some (.str (cutS z lo hi)) else none
  | _ => none
theorem cut_all {α : Type} {xs : List α} {lo hi : Option Int} (h : HT.sIx xs.length 0 lo = 0 ∧ HT.sIx xs.length xs.length hi = xs.length) : cutG xs lo hi = xs := by
  unfold cutG
  rw [h.1, h.2, List.drop_zero, Nat.sub_zero, List.take_length]
theorem sq_sl : SlR X (fun x lo hi H Q => ∃ d e, Dq C H x d ∧ C.J H ∧ slD d lo hi = some e ∧ Kn C H Q e) := by
  intro pins s σ H x v vl vu lo hi sl Q I rx hs pl pu q
  obtain ⟨d, e, r, j, he, q⟩ := q
  cases r with
  | @tup a xs ds h r =>
    cases he
    cases rx
    obtain ⟨its, rv, ht, hz⟩ := I.tuple h.sq
    have hlen : its.toArray.size = xs.length := by
      rw [List.size_toArray]
      exact rv.length.symm
    refine ⟨"tuple", _, PyProof.Rows.slot_tuple_getitem.lookup, ht.typeIs, ?_⟩
    by_cases hw : HT.sIx xs.length 0 lo = 0 ∧ HT.sIx xs.length xs.length hi = xs.length
    · have hc : cutG ds lo hi = ds := cut_all (by rw [← r.length]; exact hw)
      rw [hc] at q
      exact L2.getItem_tuple_whole ht hs pl pu (by rw [hlen]; exact hw) ⟨.ref a, H, I, rfl, q _ H Kx.refl j (.tup h r)⟩
    · refine HT.getItem_tuple_cut ht hs pl pu (by rw [hlen]; exact hw) ?_ (by rw [hlen]; exact hz)
      rw [hlen]
      have sm : ∀ o : Obj, Same H (upd H s.heap.objs.size (.frz o (.tup (cutV xs lo hi)))) := fun o => same_upd (I.hok.fresh (Nat.le_refl s.heap.objs.size))
      exact ⟨.ref s.heap.objs.size, _, I.laid (t' := s.toks) (fun b ob q => Heap.get?_push_of_some _ q) (Nat.le_refl _) (show ObjOk X.prog X.w _ _ _ (.frz _ (.tup (cutV xs lo hi))) from ⟨Heap.get?_push_size _ rfl, Nat.le_trans (cutV_length xs lo hi) hz, _, (rv.drop (HT.sIx xs.length 0 lo)).take (HT.sIx xs.length xs.length hi - HT.sIx xs.length 0 lo), IsTup.new _ _⟩), rfl, q _ _ (kxSame (sm _)) (C.same _ _ (sm _) j) (.tup (tp_upd rfl) ((r.cut lo hi).keep (kxSame (sm _))))⟩
  | @lst a xs ds m1 h r =>
    cases he
    refine sl_list pins s σ H _ v vl vu lo hi sl Q I rx hs pl pu ⟨a, xs, rfl, .inl (.inl h), fun p np => ?_⟩
    have sm := same_upd (o := .lst (cutV xs lo hi)) np
    exact q _ _ (kxSame sm) (C.same _ _ sm j) (.lst (freshM C j np) upd_same ((r.cut lo hi).keep (kxSame sm)))
  | str z =>
    have he' : (if z.length ≤ sizeLine then some (PyData.str (cutS z lo hi)) else none) = some e := he
    by_cases hz : z.length ≤ sizeLine
    · rw [if_pos hz] at he'
      cases he'
      exact sl_str pins s σ H _ v vl vu lo hi sl Q I rx hs pl pu ⟨z, rfl, hz, q _ H Kx.refl j (.str _)⟩
    · rw [if_neg hz] at he'
      cases he'
  | _ => cases he
@[simp] def vSl (ta : P0) (tl th : P0O) : P0 := fun ρ Q => ta ρ fun d => tl ρ fun lo => th ρ fun hi => ∃ e, slD d lo hi = some e ∧ Q e
theorem qe_slice {lo hi : Option Expr} {tl th : P0O} {p2 : Pos} (ha : QE X C a ta) (hl : QO X C lo tl) (hh : QO X C hi th) : QE X C (.Subscript a (.Slice lo hi none p2) pos) (vSl ta tl th) := by
  obtain ⟨Tl, pl, gl⟩ := hl.po
  obtain ⟨Th, ph, gh⟩ := hh.po
  refine ⟨PE.weak (pe_slice (sq_sl (C := C)) ha.pe pl ph) fun σ H Q h => ?_, fun ρ Q Q' w h => ha.mono _ _ _ (fun d h => hl.mono _ _ _ (fun lo h => hh.mono _ _ _ (fun hi ⟨e, z, q⟩ => ⟨e, z, w _ q⟩) h) h) h⟩
  obtain ⟨ρ, he, j, h⟩ := h
  refine ⟨ρ, he, j, ha.mono _ _ _ (fun d h1 v H1 k1 j1 r1 => ?_) h⟩
  refine gl σ H1 _ ⟨ρ, he.keep k1, j1, hl.mono _ _ _ (fun lo h2 H2 k2 j2 => ?_) h1⟩
  refine gh σ H2 _ ⟨ρ, (he.keep k1).keep k2, j2, hh.mono _ _ _ (fun hi h3 H3 k3 j3 => ?_) h2⟩
  obtain ⟨e, z, q⟩ := h3
  exact ⟨d, e, (r1.keep k2).keep k3, j3, z, q.up (k1.trans (k2.trans k3))⟩
/-! isinstance -/
@[simp] def tyD : PyData → String
  | .none => "NoneType"
  | .bool _ => "bool"
  | .int _ => "int"
  | .str _ => "str"
  | .list _ => "list"
  | .tuple _ => "tuple"
  | .dict _ => "dict"
def isTok : PyData → Bool
  | .dict ((.none, _) :: _) => true
  | _ => false
theorem Dq.tyx {K : PySem.W.Frag} {H : Hp} {v : V} {t : PyData} (ht : isTok t = false) (h : Dq C H v t) : TyX K H v (.type (tyD t)) := by
  cases h with
  | non => exact .base .non
  | bl b => exact .base (.bl b)
  | int i => exact .base (.int i)
  | str x => exact .base (.str x)
  | lst _ h _ => exact .base (.lst h)
  | tup h _ => exact h.elim fun o e => .fTuple e.1
  | dct _ h _ =>
    rcases h with h | ⟨o, h⟩
    · exact .base (.dK h)
    · exact .fDict h
  | tok h => cases ht
  | obj _ _ _ _ => cases ht
@[simp] def isiD (T : String) (d : PyData) : Bool := tyD d == T || (T == "int" && tyD d == "bool")
theorem kits (T : String) (hT : T = "int" ∨ T = "bool" ∨ T = "tuple" ∨ T = "str" ∨ T = "list" ∨ T = "dict") (d : PyData) : kitB (tyD d) T = some (isiD T d) := by
  rcases hT with rfl | rfl | rfl | rfl | rfl | rfl <;> cases d <;> (show kitB _ _ = _) <;> (simp only [isiD, tyD]; decide +kernel)
@[simp] def vIsi (T : String) (ta : P0) : P0 := fun ρ Q => ta ρ fun d => isTok d = false ∧ Q (.bool (isiD T d))
theorem qe_isi (T : String) {x : Str} {p p2 : Pos} (hT : T = "int" ∨ T = "bool" ∨ T = "tuple" ∨ T = "str" ∨ T = "list" ∨ T = "dict") (hc : ∀ (tv : TE), PE X a tv → PE X (.Call (.Name "isinstance" p) [a, .Name x p2] [] pos) (tCB (rIsi X.K) (tCons tv (tCons (tC (.ty T)) tNil)))) (ha : QE X C a ta) : QE X C (.Call (.Name "isinstance" p) [a, .Name x p2] [] pos) (vIsi T ta) := by
  refine ⟨PE.weak (hc _ ha.pe) fun σ H Q h => ?_, fun ρ Q Q' w h => ha.mono _ _ _ (fun d q => ⟨q.1, w _ q.2⟩) h⟩
  obtain ⟨ρ, he, j, h⟩ := h
  exact ⟨ρ, he, j, ha.mono _ _ _ (fun d q v H1 k1 j1 r1 => ⟨v, .ty T, _, _, _, rfl, .ty _, r1.tyx q.1, kit_ty (kits T hT d), q.2 _ H1 k1 j1 (.bl _)⟩) h⟩
/-! len, list, tuple, all, any -/
@[simp] def lenD : PyData → Option Nat
  | .list ds => some ds.length
  | .tuple ds => some ds.length
  | .str z => if z.length ≤ sizeLine then some z.length else none
  | _ => none
@[simp] def fLen : Fr := fun ds Q => ∃ d n, ds = [d] ∧ lenD d = some n ∧ Q (.int n)
theorem cq_len : CQ X C (.builtin "len") fLen := by
  refine ⟨fun pins s σ H xs us Q I r q => ?_, fun x Q Q' w ⟨d, n, e1, e2, q⟩ => ⟨d, n, e1, e2, w _ q⟩⟩
  obtain ⟨ds, hr, j, d, n, rfl, e, q⟩ := q
  cases hr with
  | cons h t =>
    cases t
    cases h with
    | lst _ h1 r1 =>
      cases e
      exact call_len_seq pins s σ H _ us Q I r ⟨_, _, rfl, .inl (.inl (.inl h1)), by rw [r1.length]; exact q _ H Kx.refl j (.int _)⟩
    | tup h1 r1 =>
      cases e
      exact call_len_seq pins s σ H _ us Q I r ⟨_, _, rfl, .inr h1.sq, by rw [r1.length]; exact q _ H Kx.refl j (.int _)⟩
    | str z =>
      have e' : (if z.length ≤ sizeLine then some z.length else none) = some n := e
      by_cases hz : z.length ≤ sizeLine
      · rw [if_pos hz] at e'
        cases e'
        exact call_len_str pins s σ H _ us Q I r ⟨z, rfl, hz, q _ H Kx.refl j (.int _)⟩
      · rw [if_neg hz] at e'
        cases e'
    | _ => cases e
@[simp] def fTuple : Fr := fun ds Q => ∃ d es, ds = [d] ∧ itemsD d = some es ∧ Q (.tuple es)
theorem cq_tuple : CQ X C (.type "tuple") fTuple := by
  refine ⟨fun pins s σ H xs us Q I r q => ?_, fun x Q Q' w ⟨d, n, e1, e2, q⟩ => ⟨d, n, e1, e2, w _ q⟩⟩
  obtain ⟨ds, hr, j, d, es, rfl, e, q⟩ := q
  cases hr with
  | cons h t =>
    cases t
    cases h with
    | @lst a xs _ _ h1 r1 =>
      cases e
      obtain ⟨u, rfl, rx⟩ := vals1 r
      cases rx
      obtain ⟨its, rv, pl, hz⟩ := I.list (.inl (.inl h1))
      have hlen := rv.length
      refine call_tuple_list pl.isList (fun h' kp => ?_) (by simp only [List.size_toArray] <;> omega)
      have I1 : Inv X pins σ H { s with heap := h' } := I.kept (t' := s.toks) kp
      have sm : ∀ o : Obj, Same H (upd H h'.objs.size (.frz o (.tup xs))) := fun o => same_upd (I1.hok.fresh (Nat.le_refl h'.objs.size))
      exact ⟨.ref h'.objs.size, _, I1.laid (t' := s.toks) (fun b o e => Heap.get?_push_of_some _ e) (Nat.le_refl _) (show ObjOk X.prog X.w _ _ _ (.frz _ (.tup xs)) from ⟨Heap.get?_push_size _ rfl, hz, its, rv, IsTup.new _ _⟩), rfl, q _ _ (kxSame (sm _)) (C.same _ _ (sm _) j) (.tup (tp_upd rfl) (r1.keep (kxSame (sm _))))⟩
    | @tup a xs _ h1 r1 =>
      cases e
      exact call_tuple_of pins s σ H _ us Q I r ⟨a, xs, rfl, .inr ⟨h1.sq, q _ H Kx.refl j (.tup h1 r1)⟩⟩
    | _ => cases e
@[simp] def fAll (f : List Bool → Bool) : Fr := fun ds Q => ∃ bs, ds = [.list (bs.map .bool)] ∧ Q (.bool (f bs))
theorem dq_bls {H : Hp} : ∀ {vs : List V} {bs : List Bool}, DqAll C H vs (bs.map .bool) → vs = bs.map V.bl
  | _, [], .nil => rfl
  | _, b :: bs, .cons h t => by
    cases h
    rw [dq_bls t]
    rfl
theorem cq_all (hc : X.calm = true) : CQ X C (.builtin "all") (fAll fun bs => bs.all id) := by
  refine ⟨fun pins s σ H xs us Q I r q => ?_, fun x Q Q' w ⟨bs, e1, q⟩ => ⟨bs, e1, w _ q⟩⟩
  obtain ⟨ds, hr, j, bs, rfl, q⟩ := q
  cases hr with
  | cons h t =>
    cases t
    cases h with
    | lst _ h1 r1 => exact cr_all hc pins s σ H _ us Q I r ⟨_, bs, rfl, .inl (.inl (by rw [← dq_bls r1]; exact h1)), q _ H Kx.refl j (.bl _)⟩
theorem cq_any (hc : X.calm = true) : CQ X C (.builtin "any") (fAll fun bs => bs.any id) := by
  refine ⟨fun pins s σ H xs us Q I r q => ?_, fun x Q Q' w ⟨bs, e1, q⟩ => ⟨bs, e1, w _ q⟩⟩
  obtain ⟨ds, hr, j, bs, rfl, q⟩ := q
  cases hr with
  | cons h t =>
    cases t
    cases h with
    | lst _ h1 r1 => exact cr_any hc pins s σ H _ us Q I r ⟨_, bs, rfl, .inl (.inl (by rw [← dq_bls r1]; exact h1)), q _ H Kx.refl j (.bl _)⟩
/-! list(t), at no place of the machine's own -/
theorem call_list_ofS : CallR X (.type "list") (fun xs H Q => ∃ p ys, xs = [.ref p] ∧ SqT X.K H p ys ∧ ∀ l, H l = none → l ≠ sysModules → Q (.ref l) (upd H l (.lst ys))) := by
  intro pins s σ H xs us Q I r h
  obtain ⟨p, ys, rfl, hq, q⟩ := h
  obtain ⟨u, rfl, rx⟩ := vals1 r
  cases rx
  obtain ⟨its, r', pl, hz⟩ := I.tuple hq
  have hlen := r'.length
  obtain ⟨o, ho, hc, n, hd⟩ := pl
  exact call_list_seq p (.inr rfl) ho hc hd (fun h' c' kp e => ⟨.ref s.heap.objs.size, _, I.laid (t' := s.toks) kp (Nat.le_refl _) (show ObjOk X.prog X.w _ h' _ (.lst ys) from ⟨hz, its, c', r', e⟩), rfl, q _ (I.hok.fresh (Nat.le_refl _)) (Nat.ne_of_gt I.big)⟩) (by simp only [List.size_toArray] <;> omega)
@[simp] def fListT : Fr := fun ds Q => ∃ es, ds = [.tuple es] ∧ Q (.list es)
theorem cq_listT : CQ X C (.type "list") fListT := by
  refine ⟨fun pins s σ H xs us Q I r q => ?_, fun x Q Q' w ⟨es, e1, q⟩ => ⟨es, e1, w _ q⟩⟩
  obtain ⟨ds, hr, j, es, rfl, q⟩ := q
  cases hr with
  | cons h t =>
    cases t
    cases h with
    | @tup a xs _ h1 r1 =>
      refine call_list_ofS pins s σ H _ us Q I r ⟨a, xs, rfl, h1.sq, fun l nl hs => ?_⟩
      have sm := same_upd (o := .lst xs) nl
      exact q _ _ (kxSame sm) (C.same _ _ sm j) (.lst (freshM C j nl) upd_same (r1.keep (kxSame sm)))
/-! is None -/
@[simp] def isNoneD : PyData → Bool
  | .none => true
  | _ => false
theorem dq_non {H : Hp} {v : V} {d : PyData} (r : Dq C H v d) : decide (v = .non) = isNoneD d := by
  cases r <;> first | rfl | exact decide_eq_false (fun z => by cases z)
@[simp] def vIsN (ta : P0) : P0 := fun ρ Q => ta ρ fun d => Q (.bool (isNoneD d))
@[simp] def vNotN (ta : P0) : P0 := fun ρ Q => ta ρ fun d => Q (.bool (!isNoneD d))
theorem qe_isN {j pos' } (ha : QE X C a ta) : QE X C (.Compare a [.Is] [.Constant .none j pos'] pos) (vIsN ta) :=
  ⟨PE.weak (pe_cmp (pc_isN ha.pe)) fun σ H Q ⟨ρ, he, jj, h⟩ => ⟨ρ, he, jj, ha.mono _ _ _ (fun d q v H1 k1 j1 r1 => by show Q (.bl (decide (v = .non))) H1; rw [dq_non r1]; exact q _ H1 k1 j1 (.bl _)) h⟩, fun ρ Q Q' w h => ha.mono _ _ _ (fun d q => w _ q) h⟩
theorem qe_notN {j pos' } (ha : QE X C a ta) : QE X C (.Compare a [.IsNot] [.Constant .none j pos'] pos) (vNotN ta) :=
  ⟨PE.weak (pe_cmp (pc_notN ha.pe)) fun σ H Q ⟨ρ, he, jj, h⟩ => ⟨ρ, he, jj, ha.mono _ _ _ (fun d q v H1 k1 j1 r1 => by show Q (.bl (!decide (v = .non))) H1; rw [dq_non r1]; exact q _ H1 k1 j1 (.bl _)) h⟩, fun ρ Q Q' w h => ha.mono _ _ _ (fun d q => w _ q) h⟩
theorem qt_isN {j pos' } (ha : QE X C a ta) : QT X C (.Compare a [.Is] [.Constant .none j pos'] pos) (fun ρ Q => ta ρ fun d => Q (isNoneD d)) :=
  ⟨PT.weak (pt_cmp (pc_isN ha.pe)) fun σ H Q ⟨ρ, he, jj, h⟩ => ⟨ρ, he, jj, ha.mono _ _ _ (fun d q v H1 k1 j1 r1 => ⟨_, rfl, by rw [dq_non r1]; exact q H1 k1 j1⟩) h⟩, fun ρ Q Q' w h => ha.mono _ _ _ (fun d q => w _ q) h⟩
theorem qt_notN {j pos' } (ha : QE X C a ta) : QT X C (.Compare a [.IsNot] [.Constant .none j pos'] pos) (fun ρ Q => ta ρ fun d => Q (!isNoneD d)) :=
  ⟨PT.weak (pt_cmp (pc_notN ha.pe)) fun σ H Q ⟨ρ, he, jj, h⟩ => ⟨ρ, he, jj, ha.mono _ _ _ (fun d q v H1 k1 j1 r1 => ⟨_, rfl, by rw [dq_non r1]; exact q H1 k1 j1⟩) h⟩, fun ρ Q Q' w h => ha.mono _ _ _ (fun d q => w _ q) h⟩
/-! truth of a list, a tuple -/
@[simp] def truD : PyData → Option Bool
  | .list ds => some (!ds.isEmpty)
  | .tuple ds => some (!ds.isEmpty)
  | _ => none
theorem qt_tru (ha : QE X C a ta) (he : ∀ whole, isTrue a X.env whole = (do let v ← whole; standAt a.pos; holding [v] (truthy v)) := by intro _; rfl) : QT X C a (fun ρ Q => ta ρ fun d => ∃ k, truD d = some k ∧ Q k) := by
  refine ⟨PT.weak (pt_truth ha.pe he) fun σ H Q ⟨ρ, hE, jj, h⟩ => ⟨ρ, hE, jj, ha.mono _ _ _ (fun d ⟨k, e, q⟩ v H1 k1 j1 r1 => ?_) h⟩, fun ρ Q Q' w h => ha.mono _ _ _ (fun d ⟨k, e, q⟩ => ⟨k, e, w _ q⟩) h⟩
  cases r1 with
  | @lst a xs ds _ h1 r =>
    cases e
    refine ⟨_, .inl ⟨xs, .inl (.inl h1), ?_⟩, q H1 k1 j1⟩
    cases r <;> rfl
  | @tup a xs ds h1 r =>
    cases e
    refine ⟨_, .inr (.inl ⟨xs, h1.sq, ?_⟩), q H1 k1 j1⟩
    cases r <;> rfl
  | _ => cases e
/-! a < b < c -/
@[simp] def vChain (r r' : R0) (ta tb tc : P0) : P0 := fun ρ Q => ta ρ fun d1 => tb ρ fun d2 => r d1 d2 fun k => ∃ z, k = .bool z ∧ if z = true then tc ρ fun d3 => r' d2 d3 Q else Q (.bool false)
theorem qe_chain {op op' : CmpOp} {r r' : R0} {tc : P0} (ho : OQ X C (compareOp op) r) (ho' : OQ X C (compareOp op') r') (ha : QE X C a ta) (hb : QE X C b tb) (hc : QE X C c tc)
    (hp : ∀ {ta tb tc : TE} {r r' : R2}, OpR X (compareOp op) r → OpR X (compareOp op') r' → PE X a ta → PE X b tb → PE X c tc → PE X (.Compare a [op, op'] [b, c] pos) (tChain r r' ta tb tc)) : QE X C (.Compare a [op, op'] [b, c] pos) (vChain r r' ta tb tc) := by
  refine ⟨PE.weak (hp ho.op ho'.op ha.pe hb.pe hc.pe) fun σ H Q h => ?_, fun ρ Q Q' w h => ha.mono _ _ _ (fun d1 h => hb.mono _ _ _ (fun d2 h => ho.mono _ _ _ _ (fun k ⟨z, e, q⟩ => ⟨z, e, ?_⟩) h) h) h⟩
  · obtain ⟨ρ, he, j, h⟩ := h
    refine ⟨ρ, he, j, ha.mono _ _ _ (fun d1 h1 v H1 k1 j1 r1 => ?_) h⟩
    refine ⟨ρ, he.keep k1, j1, hb.mono _ _ _ (fun d2 h2 u H2 k2 j2 r2 => ?_) h1⟩
    refine ⟨d1, d2, r1.keep k2, r2, j2, ho.mono _ _ _ _ (fun k ⟨z, e, q⟩ x H3 k3 j3 r3 => ?_) h2⟩
    subst e
    refine ⟨z, dq_bl r3, ?_⟩
    have k13 := k1.trans (k2.trans k3)
    cases z with
    | true => exact ⟨ρ, he.keep k13, j3, hc.mono _ _ _ (fun d3 h4 y H4 k4 j4 r4 => ⟨d2, d3, (r2.keep k3).keep k4, r4, j4, ho'.mono _ _ _ _ (fun d q => q.up (k13.trans k4)) h4⟩) q⟩
    | false => exact q _ H3 k13 j3 (.bl false)
  · cases z with
    | true => exact hc.mono _ _ _ (fun d3 h => ho'.mono _ _ _ _ w h) q
    | false => exact w _ q
end
end Kr

set_option Elab.async false
set_option linter.all false
set_option maxRecDepth 100000
set_option maxHeartbeats 4000000
namespace Kr
open PySem PySem.Spec PyProof.Rows L2
open AutoSeq1 (wpAny_loadPart')
section
variable (a b : Addr) (x : Str) (u : Tok) (o : Obj) (items : Array Value) (n : Nat) (dd : Option Addr) (sl : Array (Option Value)) (es : Array DictEntry) (ep : Nat) (dd2 : Option Addr) (sl2 : Array (Option Value))
theorem dq_eq1 : Meets (Builtin.«dict.__eq__» ⟨[.ref a, .str x u], []⟩) (fun _ R s => s.heap.get? a = some { cls := .type "dict", dict := dd, data := .dict es ep, slots := sl } ∧ R (.ok (.ret .notImplemented)) s) :=
  .of_wp fun prog w A R s h => by obtain ⟨hp, g, d, tk, os⟩ := s; obtain ⟨hl, h⟩ := h; have f1 := F.sub_str_dict; wp_walk using wpAny_loadPart' hl; exact ⟨_, rfl, h⟩
theorem dq_eq2 : Meets (Builtin.«str.__eq__» ⟨[.str x u, .ref a], []⟩) (fun _ R s => s.heap.get? a = some { cls := .type "dict", dict := dd, data := .dict es ep, slots := sl } ∧ R (.ok (.ret .notImplemented)) s) :=
  .of_wp fun prog w A R s h => by obtain ⟨hp, g, d, tk, os⟩ := s; obtain ⟨hl, h⟩ := h; have f1 := F.sub_dict_str; wp_walk using wpAny_loadPart' hl; exact ⟨_, rfl, h⟩
theorem dq_ne1 : Meets (Builtin.«dict.__ne__» ⟨[.ref a, .str x u], []⟩) (fun _ R s => s.heap.get? a = some { cls := .type "dict", dict := dd, data := .dict es ep, slots := sl } ∧ R (.ok (.ret .notImplemented)) s) :=
  .of_wp fun prog w A R s h => by obtain ⟨hp, g, d, tk, os⟩ := s; obtain ⟨hl, h⟩ := h; have f1 := F.sub_str_dict; wp_walk using wpAny_loadPart' hl; exact ⟨_, rfl, h⟩
theorem dq_ne2 : Meets (Builtin.«str.__ne__» ⟨[.str x u, .ref a], []⟩) (fun _ R s => s.heap.get? a = some { cls := .type "dict", dict := dd, data := .dict es ep, slots := sl } ∧ R (.ok (.ret .notImplemented)) s) :=
  .of_wp fun prog w A R s h => by obtain ⟨hp, g, d, tk, os⟩ := s; obtain ⟨hl, h⟩ := h; have f1 := F.sub_dict_str; wp_walk using wpAny_loadPart' hl; exact ⟨_, rfl, h⟩
theorem dq_eq3 : Meets (Builtin.«dict.__eq__» ⟨[.ref a, .ref b], []⟩) (fun _ R s => s.heap.get? a = some { cls := .type "dict", dict := dd, data := .dict es ep, slots := sl } ∧ s.heap.get? b = some { cls := .type "tuple", dict := dd2, data := .seq items n, slots := sl2 } ∧ R (.ok (.ret .notImplemented)) s) :=
  .of_wp fun prog w A R s h => by obtain ⟨hp, g, d, tk, os⟩ := s; obtain ⟨hl, hl2, h⟩ := h; have f1 := F.sub_tuple_dict; wp_walk using wpAny_loadPart' hl, wpAny_loadPart' hl2; exact ⟨_, rfl, h⟩
theorem dq_eq4 : Meets (Builtin.«tuple.__eq__» ⟨[.ref b, .ref a], []⟩) (fun _ R s => s.heap.get? a = some { cls := .type "dict", dict := dd, data := .dict es ep, slots := sl } ∧ s.heap.get? b = some { cls := .type "tuple", dict := dd2, data := .seq items n, slots := sl2 } ∧ R (.ok (.ret .notImplemented)) s) :=
  .of_wp fun prog w A R s h => by obtain ⟨hp, g, d, tk, os⟩ := s; obtain ⟨hl, hl2, h⟩ := h; have f1 := F.sub_dict_tuple; wp_walk using wpAny_loadPart' hl, wpAny_loadPart' hl2; exact ⟨_, rfl, h⟩
theorem dq_ne3 : Meets (Builtin.«dict.__ne__» ⟨[.ref a, .ref b], []⟩) (fun _ R s => s.heap.get? a = some { cls := .type "dict", dict := dd, data := .dict es ep, slots := sl } ∧ s.heap.get? b = some { cls := .type "tuple", dict := dd2, data := .seq items n, slots := sl2 } ∧ R (.ok (.ret .notImplemented)) s) :=
  .of_wp fun prog w A R s h => by obtain ⟨hp, g, d, tk, os⟩ := s; obtain ⟨hl, hl2, h⟩ := h; have f1 := F.sub_tuple_dict; wp_walk using wpAny_loadPart' hl, wpAny_loadPart' hl2; exact ⟨_, rfl, h⟩
theorem dq_ne4 : Meets (Builtin.«tuple.__ne__» ⟨[.ref b, .ref a], []⟩) (fun _ R s => s.heap.get? a = some { cls := .type "dict", dict := dd, data := .dict es ep, slots := sl } ∧ s.heap.get? b = some { cls := .type "tuple", dict := dd2, data := .seq items n, slots := sl2 } ∧ R (.ok (.ret .notImplemented)) s) :=
  .of_wp fun prog w A R s h => by obtain ⟨hp, g, d, tk, os⟩ := s; obtain ⟨hl, hl2, h⟩ := h; have f1 := F.sub_dict_tuple; wp_walk using wpAny_loadPart' hl, wpAny_loadPart' hl2; exact ⟨_, rfl, h⟩
end
section
variable {A : Around} {s : Shared}
theorem rc_dict_str {P : Program} {w : World} {a : Addr} {vs : List (Key × Value)} (x : Str) (u : Tok) (hd : s.heap.DictOf (mixKind P w) a vs) (hu : A.units < cLine) : SeqAt.RcAt A s (.ref a) (.str x u) false := fun prog w E Q h => by
  obtain ⟨⟨cls, dd, data, sl⟩, es, ep, ho, hx, hdat, _⟩ := hd
  have hc : cls = .type "dict" := hx.1
  simp only at hdat
  subst hc hdat
  exact SeqAt.rc_eq_decline_or (k := false) ⟨_, ho, rfl⟩ (typeIs_str s x u) (by decide) F.sub_str_dict F.slot_dict_eq F.slot_str_eq_refl
    (fun _ hq => call_meets F.slot_dict_eq ⟨_, ho, rfl⟩ F.entry_dict_eq (F.args_dict_eq_2 _ _) (dq_eq1 a x u dd sl es ep) ⟨ho, hq⟩)
    (fun _ hq => call_meets F.slot_str_eq_refl (typeIs_str s x u) F.entry_str_eq (F.args_str_eq_2 _ _) (dq_eq2 a x u dd sl es ep) ⟨ho, hq⟩)
    (fun _ hq => wpAny_of_eq (rfl : isSame (.ref a) (.str x u) = pure false) hq) (.inr hu) h
theorem rcn_dict_str {P : Program} {w : World} {a : Addr} {vs : List (Key × Value)} (x : Str) (u : Tok) (hd : s.heap.DictOf (mixKind P w) a vs) (hu : A.units < cLine) : SeqAt.RcNeAt A s (.ref a) (.str x u) true := fun prog w E Q h => by
  obtain ⟨⟨cls, dd, data, sl⟩, es, ep, ho, hx, hdat, _⟩ := hd
  have hc : cls = .type "dict" := hx.1
  simp only at hdat
  subst hc hdat
  exact SeqAt.rc_ne_decline_or (k := false) ⟨_, ho, rfl⟩ (typeIs_str s x u) (by decide) F.sub_str_dict F.slot_dict_ne F.slot_str_ne_refl
    (fun _ hq => call_meets F.slot_dict_ne ⟨_, ho, rfl⟩ F.entry_dict_ne (F.args_dict_ne_2 _ _) (dq_ne1 a x u dd sl es ep) ⟨ho, hq⟩)
    (fun _ hq => call_meets F.slot_str_ne_refl (typeIs_str s x u) F.entry_str_ne (F.args_str_ne_2 _ _) (dq_ne2 a x u dd sl es ep) ⟨ho, hq⟩)
    (fun _ hq => wpAny_of_eq (rfl : isSame (.ref a) (.str x u) = pure false) hq) (.inr hu) h
theorem rc_dict_tup {P : Program} {w : World} {a b : Addr} {vs : List (Key × Value)} {items : Array Value} (hd : s.heap.DictOf (mixKind P w) a vs) (hb : s.heap.IsTuple b items) (hu : A.units < cLine) : SeqAt.RcAt A s (.ref a) (.ref b) false := fun prog w E Q h => by
  obtain ⟨⟨cls, dd, data, sl⟩, es, ep, ho, hx, hdat, _⟩ := hd
  obtain ⟨⟨cls2, dd2, data2, sl2⟩, ho2, hc2, n2, hd2⟩ := hb
  have hc : cls = .type "dict" := hx.1
  simp only at hdat hc2 hd2
  subst hc hdat hc2 hd2
  have hne : a ≠ b := fun e => by
    subst e
    rw [ho] at ho2
    simp at ho2
  exact SeqAt.rc_eq_decline_or (k := false) ⟨_, ho, rfl⟩ ⟨_, ho2, rfl⟩ (by decide) F.sub_tuple_dict F.slot_dict_eq F.slot_tuple_eq_refl
    (fun _ hq => call_meets F.slot_dict_eq ⟨_, ho, rfl⟩ F.entry_dict_eq (F.args_dict_eq_2 _ _) (dq_eq3 a b items n2 dd sl es ep dd2 sl2) ⟨ho, ho2, hq⟩)
    (fun _ hq => call_meets F.slot_tuple_eq_refl ⟨_, ho2, rfl⟩ F.entry_tuple_eq (F.args_tuple_eq_2 _ _) (dq_eq4 a b items n2 dd sl es ep dd2 sl2) ⟨ho, ho2, hq⟩)
    (fun _ hq => wpAny_isSame_ref_other hne ho ho2 (by simp) hq) (.inr hu) h
theorem rcn_dict_tup {P : Program} {w : World} {a b : Addr} {vs : List (Key × Value)} {items : Array Value} (hd : s.heap.DictOf (mixKind P w) a vs) (hb : s.heap.IsTuple b items) (hu : A.units < cLine) : SeqAt.RcNeAt A s (.ref a) (.ref b) true := fun prog w E Q h => by
  obtain ⟨⟨cls, dd, data, sl⟩, es, ep, ho, hx, hdat, _⟩ := hd
  obtain ⟨⟨cls2, dd2, data2, sl2⟩, ho2, hc2, n2, hd2⟩ := hb
  have hc : cls = .type "dict" := hx.1
  simp only at hdat hc2 hd2
  subst hc hdat hc2 hd2
  have hne : a ≠ b := fun e => by
    subst e
    rw [ho] at ho2
    simp at ho2
  exact SeqAt.rc_ne_decline_or (k := false) ⟨_, ho, rfl⟩ ⟨_, ho2, rfl⟩ (by decide) F.sub_tuple_dict F.slot_dict_ne F.slot_tuple_ne_refl
    (fun _ hq => call_meets F.slot_dict_ne ⟨_, ho, rfl⟩ F.entry_dict_ne (F.args_dict_ne_2 _ _) (dq_ne3 a b items n2 dd sl es ep dd2 sl2) ⟨ho, ho2, hq⟩)
    (fun _ hq => call_meets F.slot_tuple_ne_refl ⟨_, ho2, rfl⟩ F.entry_tuple_ne (F.args_tuple_ne_2 _ _) (dq_ne4 a b items n2 dd sl es ep dd2 sl2) ⟨ho, ho2, hq⟩)
    (fun _ hq => wpAny_isSame_ref_other hne ho ho2 (by simp) hq) (.inr hu) h
end
def eqA (d1 d2 : PyData) : Bool := !isTok d1 && ((shp d1 && shp d2) || (match d2 with | .str _ => true | .tuple [] => true | _ => false))
section
variable {X : Cx} {C : Cz}
theorem rc_any_str (hu : X.A.units + 64 < cLine) {pins : List (Addr × Obj)} {σ : L2.St} {H : Hp} {s : Shared} {x : V} {v : Value} {t : PyData} (z : Str) (tk : Tok) (I : Inv X pins σ H s) (rx : RelV x v) (hd : Dq C H x t) (ht : isTok t = false) : SeqAt.RcAt X.A s v (.str z tk) (PyData.eqv t (.str z)) ∧ SeqAt.RcNeAt X.A s v (.str z tk) (!PyData.eqv t (.str z)) := by
  have hu0 : X.A.units < cLine := by omega
  cases hd with
  | non =>
    cases rx
    exact ⟨SeqAt.RcAt.none_str z tk, SeqAt.RcNeAt.none_str z tk⟩
  | bl b =>
    cases rx
    exact ⟨SeqAt.RcAt.bool_str b z tk, SeqAt.RcNeAt.bool_str b z tk⟩
  | int i =>
    obtain ⟨t', rfl⟩ := rx
    exact ⟨SeqAt.RcAt.int_str i t' z tk, SeqAt.RcNeAt.int_str i t' z tk⟩
  | str x =>
    obtain ⟨t', rfl⟩ := rx
    exact ⟨SeqAt.RcAt.str_str x t' z tk, SeqAt.RcNeAt.str_str x t' z tk⟩
  | lst _ h _ =>
    cases rx
    obtain ⟨its, rv, p, hz⟩ := I.list (.inl (.inl h))
    exact ⟨SeqAt.RcAt.list_str z tk p.isList hu0, SeqAt.RcNeAt.list_str z tk p.isList hu0⟩
  | tup h _ =>
    cases rx
    obtain ⟨its, rv, p, hz⟩ := I.tuple h.sq
    obtain ⟨o, e, hc, n, hdd⟩ := p
    exact ⟨SeqAt.RcAt.tuple_str z tk ⟨o, e, hc, n, hdd⟩ hu0, SeqAt.RcNeAt.tuple_str z tk ⟨o, e, hc, n, hdd⟩ hu0⟩
  | dct _ h _ =>
    cases rx
    obtain ⟨_, _, vs, _, hdd⟩ := (show ObjOk X.prog X.w H s.heap _ (.dK _) from Rd.ok h I.hok)
    exact ⟨rc_dict_str z tk hdd hu0, rcn_dict_str z tk hdd hu0⟩
  | tok _ => cases ht
  | obj _ _ _ _ => cases ht
theorem eqv_nilL (xs : List PyData) : PyData.eqvAll xs [] = xs.isEmpty := by cases xs <;> rfl
theorem rc_any_nil (hu : X.A.units + 64 < cLine) {pins : List (Addr × Obj)} {σ : L2.St} {H : Hp} {s : Shared} {x : V} {v : Value} {t : PyData} {b : Addr} (hb : Tp H b []) (I : Inv X pins σ H s) (rx : RelV x v) (hd : Dq C H x t) (ht : isTok t = false) : SeqAt.RcAt X.A s v (.ref b) (PyData.eqv t (.tuple [])) ∧ SeqAt.RcNeAt X.A s v (.ref b) (!PyData.eqv t (.tuple [])) := by
  have hu0 : X.A.units < cLine := by omega
  obtain ⟨its0, rv0, p0, _⟩ := I.tuple hb.sq
  obtain ⟨o0, e0, hc0, n0, hdd0⟩ := p0
  have hi0 : its0 = [] := by
    cases rv0
    rfl
  subst hi0
  have hb0 : s.heap.IsTuple b #[] := ⟨o0, e0, hc0, n0, hdd0⟩
  cases hd with
  | non =>
    cases rx
    exact ⟨SeqAt.RcAt.none_tuple hb0 hu0, SeqAt.RcNeAt.none_tuple hb0 hu0⟩
  | bl k =>
    cases rx
    exact ⟨SeqAt.RcAt.bool_tuple k hb0 hu0, SeqAt.RcNeAt.bool_tuple k hb0 hu0⟩
  | int i =>
    obtain ⟨t', rfl⟩ := rx
    exact ⟨SeqAt.RcAt.int_tuple i t' hb0 hu0, SeqAt.RcNeAt.int_tuple i t' hb0 hu0⟩
  | str x =>
    obtain ⟨t', rfl⟩ := rx
    exact ⟨SeqAt.RcAt.str_tuple x t' hb0 hu0, SeqAt.RcNeAt.str_tuple x t' hb0 hu0⟩
  | lst _ h _ =>
    cases rx
    obtain ⟨its, rv, p, hz⟩ := I.list (.inl (.inl h))
    exact ⟨SeqAt.RcAt.list_tuple p.isList hb0 hu0, SeqAt.RcNeAt.list_tuple p.isList hb0 hu0⟩
  | @tup a xs ds h r =>
    cases rx
    obtain ⟨its, rv, p, hz⟩ := I.tuple h.sq
    obtain ⟨o, e, hc, n, hdd⟩ := p
    have h1 := SeqAt.RcAt.tuples (A := X.A) (e := fun _ => true) ⟨o, e, hc, n, hdd⟩ hb0 hu0 fun j _ h2 => absurd h2 (by simp)
    have h2 := SeqAt.RcNeAt.tuples (A := X.A) (e := fun _ => true) ⟨o, e, hc, n, hdd⟩ hb0 hu0 fun j _ h2 => absurd h2 (by simp)
    have ev : PyData.eqv (.tuple ds) (.tuple []) = ds.isEmpty := by
      unfold PyData.eqv
      exact eqv_nilL ds
    rw [ev]
    cases r with
    | nil =>
      cases rv
      exact ⟨h1, h2⟩
    | cons _ _ =>
      cases rv
      constructor
      · simpa using h1
      · simpa using h2
  | dct _ h _ =>
    cases rx
    obtain ⟨_, _, vs, _, hdd⟩ := (show ObjOk X.prog X.w H s.heap _ (.dK _) from Rd.ok h I.hok)
    exact ⟨rc_dict_tup hdd hb0 hu0, rcn_dict_tup hdd hb0 hu0⟩
  | tok _ => cases ht
  | obj _ _ _ _ => cases ht
@[simp] def rEqA : R0 := fun d1 d2 Q => eqA d1 d2 = true ∧ Q (.bool (PyData.eqv d1 d2))
@[simp] def rNeA : R0 := fun d1 d2 Q => eqA d1 d2 = true ∧ Q (.bool (!PyData.eqv d1 d2))
theorem eqA_cases {d1 d2 : PyData} (h : eqA d1 d2 = true) : isTok d1 = false ∧ ((shp d1 = true ∧ shp d2 = true) ∨ (∃ z, d2 = .str z) ∨ d2 = .tuple []) := by
  unfold eqA at h
  simp only [Bool.and_eq_true, Bool.not_eq_true', Bool.or_eq_true] at h
  refine ⟨h.1, ?_⟩
  rcases h.2 with h | h
  · exact .inl h
  · match d2, h with
    | .str z, _ => exact .inr (.inl ⟨z, rfl⟩)
    | .tuple [], _ => exact .inr (.inr rfl)
theorem oq_eqA (hu : X.A.units + 64 < cLine) : OQ X C (compareOp .Eq) rEqA := by
  refine ⟨fun pins s σ H x y v u Q I rx ry ⟨d1, d2, r1, r2, jj, c, q⟩ => ?_, fun x y Q Q' w ⟨a, q⟩ => ⟨a, w _ q⟩⟩
  obtain ⟨ht, ⟨s1, s2⟩ | ⟨z, rfl⟩ | rfl⟩ := eqA_cases c
  · exact (oq_eq hu).op pins s σ H _ _ v u Q I rx ry ⟨d1, d2, r1, r2, jj, s1, s2, q⟩
  · cases r2
    obtain ⟨tk, rfl⟩ := ry
    exact (rc_any_str hu z tk I rx r1 ht).1 X.prog X.w X.xe _ ⟨.bl _, H, I, rfl, q _ H Kx.refl jj (.bl _)⟩
  · cases r2 with
    | tup h r =>
      cases r
      cases ry
      exact (rc_any_nil hu h I rx r1 ht).1 X.prog X.w X.xe _ ⟨.bl _, H, I, rfl, q _ H Kx.refl jj (.bl _)⟩
theorem oq_neA (hu : X.A.units + 64 < cLine) : OQ X C (compareOp .NotEq) rNeA := by
  refine ⟨fun pins s σ H x y v u Q I rx ry ⟨d1, d2, r1, r2, jj, c, q⟩ => ?_, fun x y Q Q' w ⟨a, q⟩ => ⟨a, w _ q⟩⟩
  obtain ⟨ht, ⟨s1, s2⟩ | ⟨z, rfl⟩ | rfl⟩ := eqA_cases c
  · exact (oq_ne hu).op pins s σ H _ _ v u Q I rx ry ⟨d1, d2, r1, r2, jj, s1, s2, q⟩
  · cases r2
    obtain ⟨tk, rfl⟩ := ry
    exact (rc_any_str hu z tk I rx r1 ht).2 X.prog X.w X.xe _ ⟨.bl _, H, I, rfl, q _ H Kx.refl jj (.bl _)⟩
  · cases r2 with
    | tup h r =>
      cases r
      cases ry
      exact (rc_any_nil hu h I rx r1 ht).2 X.prog X.w X.xe _ ⟨.bl _, H, I, rfl, q _ H Kx.refl jj (.bl _)⟩
/-! list(reversed(t)) -/
theorem qf_lstRev {a e : Expr} {ta : P0} (hp : ∀ te, PE X a te → PE X e (tLstRev X.K te)) (h : QE X C a ta) : QF X C e (fun ρ Q => ta ρ fun d => ∃ es, d = .tuple es ∧ Q es.reverse) := by
  refine ⟨PE.weak (hp _ h.pe) fun σ H Q q => ?_, fun ρ Q Q' w q => h.mono _ _ _ (fun d ⟨es, e, q⟩ => ⟨es, e, w _ q⟩) q⟩
  obtain ⟨ρ, he, j, q⟩ := q
  refine ⟨ρ, he, j, h.mono ρ _ _ (fun d ⟨es, e, q⟩ v H1 k1 j1 r1 => ?_) q⟩
  subst e
  cases r1 with
  | @tup a xs _ h1 r => exact ⟨a, xs, rfl, h1.sq, fun p np hs => q p xs.reverse H1 k1 j1 np r.rev⟩
/-! over a text -/
theorem qi_str {tg a : Expr} {ta : P0} (h : QE X C a ta) : QI X C tg a (fun ρ Q => ta ρ fun d => ∃ z, d = .str z ∧ Q (z.cps.toList.map fun c => .str ⟨#[c]⟩)) := by
  refine ⟨PI.weak (pi_str h.pe) fun σ H R q => ?_, fun ρ Q Q' w q => h.mono _ _ _ (fun d ⟨ds, e, q⟩ => ⟨ds, e, w _ q⟩) q⟩
  obtain ⟨ρ, he, j, q⟩ := q
  refine ⟨ρ, he, j, h.mono _ _ _ (fun d ⟨z, e, q⟩ v H' k1 j1 r => ?_) q⟩
  subst e
  cases r with
  | str x =>
    refine ⟨z, rfl, q _ H' k1 j1 fun i H2 k2 => ?_⟩
    refine ⟨fun e => ?_, fun d e => ?_⟩
    · show z.cps.size ≤ i
      rw [e]
      simp
    · rw [List.getElem?_map] at e
      cases hc : z.cps.toList[i]? with
      | none =>
        rw [hc] at e
        cases e
      | some c =>
        rw [hc] at e
        cases e
        have hi : i < z.cps.size := by
          have := (List.getElem?_eq_some_iff.mp hc).1
          simpa using this
        refine ⟨hi, fun x H3 hy => ?_⟩
        obtain ⟨rfl, c', hc', rfl⟩ := hy
        have : c' = c := by
          rw [← Array.getElem?_toList, hc] at hc'
          exact (Option.some.inj hc').symm
        subst this
        exact ⟨Same.refl _, fun _ _ => .inl (.str _)⟩
end
@[simp] theorem shp_int (i : Int) : shp (.int i) = true := rfl
@[simp] theorem shp_bool (i : Bool) : shp (.bool i) = true := rfl
@[simp] theorem shp_none : shp .none = true := rfl
@[simp] theorem eqv_int (i j : Int) : PyData.eqv (.int i) (.int j) = (i == j) := by simp [PyData.eqv]
@[simp] theorem eqv_str (i j : Str) : PyData.eqv (.str i) (.str j) = (i == j) := by simp [PyData.eqv]
@[simp] theorem eqA_str (d : PyData) (z : Str) : eqA d (.str z) = !isTok d := by simp [eqA]
@[simp] theorem eqA_nil (d : PyData) : eqA d (.tuple []) = !isTok d := by simp [eqA]
section
end
end Kr

set_option Elab.async false
set_option linter.all false
set_option maxRecDepth 100000
set_option maxHeartbeats 4000000
namespace Kr
open PySem PySem.Spec PyProof.Rows L2
/-! dicts whose keys are numbers and texts -/
abbrev DL := List (Key × PyData)
def dD (l : DL) : PyData := .dict (l.map fun p => (keyD p.1, p.2))
def putG (l : DL) (k : Key) (v : PyData) : DL := if (l.any fun kv => decide (kv.1 = k)) = true then l.map (fun kv => if kv.1 = k then (kv.1, v) else kv) else l ++ [(k, v)]
def valG (l : DL) (k : Key) : Option PyData := (l.find? fun kv => decide (kv.1 = k)).map (·.2)
inductive DqL (C : Cz) (H : Hp) : List (Key × V) → DL → Prop
  | nil : DqL C H [] []
  | cons {k : Key} {v : V} {d : PyData} {kvs : List (Key × V)} {l : DL} : Dq C H v d → DqL C H kvs l → DqL C H ((k, v) :: kvs) ((k, d) :: l)
theorem keyD_inj : ∀ {a b : Key}, keyD a = keyD b → a = b
  | .inl _, .inl _, h => by cases h; rfl
  | .inr _, .inr _, h => by cases h; rfl
  | .inl _, .inr _, h => by cases h
  | .inr _, .inl _, h => by cases h
theorem DqL.kv {C : Cz} {H : Hp} : ∀ {kvs : List (Key × V)} {l : DL}, DqL C H kvs l → DqKv C H kvs (l.map fun p => (keyD p.1, p.2))
  | _, _, .nil => .nil
  | _, _, .cons h t => .cons h (DqL.kv t)
theorem DqKv.dl {C : Cz} {H : Hp} : ∀ {kvs : List (Key × V)} {l : DL}, DqKv C H kvs (l.map fun p => (keyD p.1, p.2)) → DqL C H kvs l
  | [], [], _ => .nil
  | (k, v) :: kvs, (k2, d) :: l, h => by
    generalize e : ((k2, d) :: l).map (fun p : Key × PyData => (keyD p.1, p.2)) = ps at h
    cases h with
    | cons h t =>
      simp only [List.map_cons, List.cons.injEq, Prod.mk.injEq] at e
      obtain ⟨⟨e1, e2⟩, e3⟩ := e
      have := keyD_inj e1
      subst this e2
      rw [← e3] at t
      exact .cons h (DqKv.dl t)
  | [], (_, _) :: _, h => by cases h
  | (_, _) :: _, [], h => by cases h
theorem DqL.keep {C : Cz} {H H' : Hp} (k : Kx C H H') : ∀ {kvs : List (Key × V)} {l : DL}, DqL C H kvs l → DqL C H' kvs l
  | _, _, .nil => .nil
  | _, _, .cons h t => .cons (h.keep k) (DqL.keep k t)
theorem DqL.keys {C : Cz} {H : Hp} : ∀ {kvs : List (Key × V)} {l : DL}, DqL C H kvs l → kvs.map (·.1) = l.map (·.1)
  | _, _, .nil => rfl
  | _, _, .cons h t => by rw [List.map_cons, List.map_cons, DqL.keys t]
theorem DqL.length {C : Cz} {H : Hp} {kvs : List (Key × V)} {l : DL} (h : DqL C H kvs l) : kvs.length = l.length := by
  have := congrArg List.length h.keys
  simpa using this
theorem DqL.any {C : Cz} {H : Hp} (k : Key) : ∀ {kvs : List (Key × V)} {l : DL}, DqL C H kvs l → (kvs.any fun kv => decide (kv.1 = k)) = l.any fun kv => decide (kv.1 = k)
  | _, _, .nil => rfl
  | _, _, .cons h t => by rw [List.any_cons, List.any_cons, DqL.any k t]
theorem DqL.app {C : Cz} {H : Hp} : ∀ {kvs us : List (Key × V)} {l m : DL}, DqL C H kvs l → DqL C H us m → DqL C H (kvs ++ us) (l ++ m)
  | _, _, _, _, .nil, h => h
  | _, _, _, _, .cons h t, r => .cons h (DqL.app t r)
theorem DqL.mapP {C : Cz} {H : Hp} {k : Key} {v : V} {d : PyData} (r : Dq C H v d) : ∀ {kvs : List (Key × V)} {l : DL}, DqL C H kvs l → DqL C H (kvs.map fun kv => if kv.1 = k then (kv.1, v) else kv) (l.map fun kv => if kv.1 = k then (kv.1, d) else kv)
  | _, _, .nil => .nil
  | _, _, .cons (k := j) (v := u) (d := e) h t => by
    rw [List.map_cons, List.map_cons]
    by_cases e : j = k
    · rw [if_pos e, if_pos e]
      exact .cons r (DqL.mapP r t)
    · rw [if_neg e, if_neg e]
      exact .cons h (DqL.mapP r t)
theorem DqL.put {C : Cz} {H : Hp} {kvs : List (Key × V)} {l : DL} {k : Key} {v : V} {d : PyData} (h : DqL C H kvs l) (r : Dq C H v d) : DqL C H (putK kvs k v) (putG l k d) := by
  unfold putK putG
  rw [h.any k]
  by_cases e : (l.any fun kv => decide (kv.1 = k)) = true
  · rw [if_pos e, if_pos e]
    exact h.mapP r
  · rw [if_neg e, if_neg e]
    exact h.app (.cons r .nil)
theorem DqL.val {C : Cz} {H : Hp} {k : Key} : ∀ {kvs : List (Key × V)} {l : DL}, DqL C H kvs l → (∀ d, valG l k = some d → ∃ v, valV kvs k = some v ∧ Dq C H v d) ∧ (valG l k = none → valV kvs k = none)
  | _, _, .nil => ⟨fun d e => (by cases e), fun _ => rfl⟩
  | _, _, .cons (k := j) (v := u) (d := x) (l := l) h t => by
    have ih := DqL.val (k := k) t
    by_cases e : j = k
    · have e1 : valG ((j, x) :: l) k = some x := by simp [valG, List.find?_cons, e]
      rw [e1, valV_pos e]
      exact ⟨fun d z => (by cases z; exact ⟨u, rfl, h⟩), fun z => (by cases z)⟩
    · have e1 : valG ((j, x) :: l) k = valG l k := by simp [valG, List.find?_cons, e]
      rw [e1, valV_neg e]
      exact ih
theorem dq_dct {C : Cz} {H : Hp} {v : V} {l : DL} (r : Dq C H v (dD l)) : ∃ a kvs, v = .ref a ∧ ¬ C.M a ∧ Rd H a (.dK kvs) ∧ DqL C H kvs l := by
  generalize e : dD l = t at r
  cases r with
  | @dct a kvs ps m h r =>
    have e' : l.map (fun p => (keyD p.1, p.2)) = ps := by
      unfold dD at e
      exact PyData.dict.inj e
    subst e'
    exact ⟨a, kvs, rfl, m, h, DqKv.dl r⟩
  | tok h =>
    exfalso
    unfold dD tokD at e
    have e' := PyData.dict.inj e
    cases l with
    | nil => cases e'
    | cons p l =>
      obtain ⟨k, d⟩ := p
      simp only [List.map_cons, List.cons.injEq, Prod.mk.injEq] at e'
      cases k <;> cases e'.1.1
  | obj _ _ _ _ =>
    exfalso
    unfold dD objD at e
    have e' := PyData.dict.inj e
    cases l with
    | nil => cases e'
    | cons p l =>
      obtain ⟨k, d⟩ := p
      simp only [List.map_cons, List.cons.injEq, Prod.mk.injEq] at e'
      cases k <;> cases e'.1.1
  | _ => cases e
/-! comprehensions of dicts -/
def dcGo (ks : List Nat) (dec : Dec) (tt : P0T) (tk te : P0) (ρ : Rho) (Q : PyData → Prop) : List PyData → DL → Prop
  | [], acc => Q (dD acc)
  | d :: ds, acc => ∃ l, dec d = some l ∧ (∀ p ∈ l, p.1 ∈ ks) ∧ tt (setsR ρ l) fun b => if b = true then tk (setsR ρ l) fun y => te (setsR ρ l) fun z => ∃ k, y = keyD k ∧ noL z = true ∧ acc.length < sizeLine ∧ dcGo ks dec tt tk te ρ Q ds (putG acc k z) else dcGo ks dec tt tk te ρ Q ds acc
@[simp] def vDc (ks : List Nat) (ti : P0A) (dec : Dec) (tt : P0T) (tk te : P0) : P0 := fun ρ Q => ti ρ fun ds => dcGo ks dec tt tk te (wipeR ρ ks) Q ds []
theorem dcGo_mono {ks : List Nat} {dec : Dec} {tt : P0T} {tk te : P0} (hm : ∀ ρ Q Q', (∀ d, Q d → Q' d) → tt ρ Q → tt ρ Q') (hk : ∀ ρ Q Q', (∀ d, Q d → Q' d) → tk ρ Q → tk ρ Q') (hm2 : ∀ ρ Q Q', (∀ d, Q d → Q' d) → te ρ Q → te ρ Q') {ρ : Rho} {Q Q' : PyData → Prop} (w : ∀ d, Q d → Q' d) :
    ∀ (ds : List PyData) (acc : DL), dcGo ks dec tt tk te ρ Q ds acc → dcGo ks dec tt tk te ρ Q' ds acc
  | [], acc, h => w _ h
  | d :: ds, acc, ⟨l, e, c, h⟩ => ⟨l, e, c, hm _ _ _ (fun b q => by
      cases b with
      | true => exact hk _ _ _ (fun y q => hm2 _ _ _ (fun z ⟨k, e1, e2, e3, q⟩ => ⟨k, e1, e2, e3, dcGo_mono hm hk hm2 w ds _ q⟩) q) q
      | false => exact dcGo_mono hm hk hm2 w ds _ q) h⟩
theorem dq_key {C : Cz} {H : Hp} {v : V} {k : Key} (r : Dq C H v (keyD k)) : v = kV k := by
  cases k with
  | inl i => cases r; rfl
  | inr x => cases r; rfl
section
variable {X : Cx} {C : Cz} {pos : Pos}
theorem qe_dc {kx vx tg iter : Expr} {ifs : List Expr} {scope : Scope} {own : List (Str × Nat)} {ti : P0A} {dec : Dec} {G : TG} {tt : P0T} {tk te : P0} (hc : X.calm = true) (hN : X.N.Nodup) (hi : QI X C tg iter ti) (ok : BlkOk X.N X.env.scope scope own)
    (hg : ∀ (s : Shared) (H : Hp) (Cc : Addr) (cl : List (Str × Addr)) (fp : List Addr), QG (X.blk s H scope (compEnvC scope cl Cc X.env) fp) X.K C tg G dec) (ht : ∀ (s : Shared) (H : Hp) (Cc : Addr) (cl : List (Str × Addr)) (fp : List Addr), QTs (X.blk s H scope (compEnvC scope cl Cc X.env) fp) C ifs tt)
    (hk : ∀ (s : Shared) (H : Hp) (Cc : Addr) (cl : List (Str × Addr)) (fp : List Addr), QE (X.blk s H scope (compEnvC scope cl Cc X.env) fp) C kx tk) (he : ∀ (s : Shared) (H : Hp) (Cc : Addr) (cl : List (Str × Addr)) (fp : List Addr), QE (X.blk s H scope (compEnvC scope cl Cc X.env) fp) C vx te) (hs : ∀ x, foldedSetIterable iter X.env x = pure x := by intro _; rfl) :
    QE X C (.DictComp kx vx [⟨tg, iter, ifs, 0⟩] scope pos) (vDc (own.map (·.2)) ti dec tt tk te) := by
  have am := (ht X.s_0 (fun _ => none) 0 [] []).mono
  have km := (hk X.s_0 (fun _ => none) 0 [] []).mono
  have bm := (he X.s_0 (fun _ => none) 0 [] []).mono
  have gm := (hg X.s_0 (fun _ => none) 0 [] []).go
  refine ⟨PE.weak (pe_dc hc hN hi.pi ok (fun s H c cl fp => (hg s H c cl fp).pg) (fun s H c cl fp => (ht s H c cl fp).pts) (fun s H c cl fp => (hk s H c cl fp).pe) (fun s H c cl fp => (he s H c cl fp).pe) hs) fun σ H Q h => ?_, fun ρ Q Q' w h => hi.mono _ _ _ (fun ds q => dcGo_mono am km bm w ds _ q) h⟩
  obtain ⟨ρ, hE, j, h⟩ := h
  refine ⟨ρ, hE, j, hi.mono _ _ _ (fun ds q J H1 k1 j1 it => ?_) h⟩
  intro D nD
  have he1 := hE.keep k1
  have mD : ¬ C.M D := freshM C j1 nD
  have st0 : EnvOk (C.plus D) H1 σ ρ := ⟨he1.len, fun i d e => by
    obtain ⟨v, e1, r⟩ := he1.at_ i d e
    exact ⟨v, e1, r.clear nD⟩⟩
  generalize hks : own.map (·.2) = ks at *
  refine ⟨fun i m H => m = ds.length - i ∧ i ≤ ds.length ∧ ∃ (acc : List (Key × V)) (ys : DL), Kx C H1 H ∧ C.J H ∧ H D = some (.dK acc) ∧ DqL (C.plus D) H acc ys ∧ (∀ p ∈ ys, noL p.2 = true) ∧ EnvOk (C.plus D) H (wipe σ ks) (wipeR ρ ks) ∧
    dcGo ks dec tt tk te (wipeR ρ ks) (Kn C _ Q) (ds.drop i) ys, ⟨ds.length, by omega, Nat.zero_le _, [], [], kxSame (same_upd nD), C.same _ _ (same_upd nD) j1, upd_same, .nil, by simp, (st0.wipe ks).keep (kxSame (same_upd nD)), q⟩, ?_⟩
  rintro i m H ⟨rfl, hi, acc, ys, kx, jH, hD, hA, hn, hEn, go⟩
  obtain ⟨fin, step⟩ := it i H kx
  by_cases hlt : i < ds.length
  · have hd : ds[i]? = some ds[i] := List.getElem?_eq_getElem hlt
    obtain ⟨g1, g2⟩ := step _ hd
    rw [← List.getElem_cons_drop hlt] at go
    obtain ⟨l, e, c, go⟩ := go
    refine .inr ⟨g1, fun H => ∃ (acc : List (Key × V)) (ys : DL), Kx C H1 H ∧ C.J H ∧ H D = some (.dK acc) ∧ DqL (C.plus D) H acc ys ∧ (∀ p ∈ ys, noL p.2 = true) ∧ EnvOk (C.plus D) H (wipe σ ks) (wipeR ρ ks) ∧
      dcGo ks dec tt tk te (wipeR ρ ks) (Kn C _ Q) (ds.drop (i + 1)) ys, fun H' h => ⟨_, by omega, rfl, hlt, h⟩, fun x H' hy => ?_⟩
    obtain ⟨s1, r⟩ := g2 x H' hy
    have k1' : Kx C H H' := kxSame s1
    have j1' := C.same _ _ s1 jH
    refine gm H' _ x _ l _ (r C ⟨rfl, fun _ _ _ m => m⟩) e fun vs hv => ⟨wipe_sets (hv.keys c), ?_⟩
    have hE1 := hEn.keep (Kx.plus k1')
    have hE2 : EnvOk C H' (wipe σ ks) (wipeR ρ ks) := EnvOk.sub (C := C.plus D) (C' := C) (fun _ m => Or.inl m) rfl hE1
    have hE3 := EnvOk.sets _ _ _ _ hE2 hv
    refine ⟨setsR (wipeR ρ ks) l, hE3, j1', am _ _ _ (fun b q H3 k3 j3 => ?_) go⟩
    cases b with
    | true =>
      refine ⟨setsR (wipeR ρ ks) l, hE3.keep k3, j3, km _ _ _ (fun y q vk H4 k4 j4 r4 => ?_) q⟩
      refine ⟨setsR (wipeR ρ ks) l, (hE3.keep k3).keep k4, j4, bm _ _ _ (fun z ⟨k, ey, nz, hl, q5⟩ v H5 k5 j5 r5 => ?_) q⟩
      subst ey
      have k15 : Kx C H H5 := k1'.trans (k3.trans (k4.trans k5))
      have hD5 := k15.2 D _ mD hD
      have kD : Kx (C.plus D) H5 (upd H5 D (.dK (putK acc k v))) := ⟨fun b xs eb => eb.upd hD5 fzDk, fun b o m eb => by rw [upd_ne (fun z => m (.inr z))]; exact eb⟩
      refine ⟨acc, k, dq_key r4, hD5, by rw [hA.length]; exact hl, putK acc k v, putG ys k z, ?_, C.st H5 _ kD.1 (fun b o (m : C.M b) eb => by rw [upd_ne (show b ≠ D from fun z => mD (by rw [← z]; exact m))]; exact eb) j5, upd_same, ?_, ?_, (hEn.keep (Kx.plus k15)).keep kD, q5⟩
      · refine ⟨fun b xs eb => ?_, fun b o m eb => ?_⟩
        · exact ((kx.trans k15).1 b xs eb).upd hD5 fzDk
        · rw [upd_ne (ne_of_none eb nD)]
          exact (kx.trans k15).2 b o m eb
      · exact ((hA.keep (Kx.plus k15)).put (r5.noL nz)).keep kD
      · intro p hp
        unfold putG at hp
        by_cases ea : (ys.any fun kv => decide (kv.1 = k)) = true
        · rw [if_pos ea] at hp
          obtain ⟨p0, hp0, rfl⟩ := List.mem_map.mp hp
          by_cases e2 : p0.1 = k
          · rw [if_pos e2]
            exact nz
          · rw [if_neg e2]
            exact hn p0 hp0
        · rw [if_neg ea] at hp
          rcases List.mem_append.mp hp with hp | hp
          · exact hn p hp
          · rw [List.mem_singleton.mp hp]
            exact nz
    | false =>
      have k13 : Kx C H H3 := k1'.trans k3
      exact ⟨acc, ys, kx.trans k13, j3, k13.2 D _ mD hD, hA.keep (Kx.plus k13), hn, hEn.keep (Kx.plus k13), q⟩
  · have e : i = ds.length := by omega
    subst e
    rw [List.drop_length] at go
    have sub : ∀ {kvs : List (Key × V)} {l : DL}, DqL (C.plus D) H kvs l → DqL C H kvs l := by
      intro kvs l h
      induction h with
      | nil => exact .nil
      | cons h _ ih => exact .cons (Dq.sub (C := C.plus D) (C' := C) (fun _ m => Or.inl m) rfl h) ih
    exact .inl ⟨fin rfl, go (.ref D) H (k1.trans kx) jH (.dct mD (.inl hD) (sub hA).kv)⟩
theorem dq_keys {H : Hp} : ∀ ks : List Key, DqAll C H (ks.map kV) (ks.map keyD)
  | [] => .nil
  | .inl i :: ks => .cons (.int i) (dq_keys ks)
  | .inr x :: ks => .cons (.str x) (dq_keys ks)
/-! tuple(d) -/
@[simp] def fTupD : Fr := fun ds Q => ∃ l : DL, ds = [dD l] ∧ Q (.tuple (l.map fun p => keyD p.1))
theorem cq_tupleD (hc : X.calm = true) : CQ X C (.type "tuple") fTupD := by
  refine ⟨fun pins s σ H xs us Q I r q => ?_, fun x Q Q' w ⟨l, e1, q⟩ => ⟨l, e1, w _ q⟩⟩
  obtain ⟨ds, hr, j, l, rfl, q⟩ := q
  cases hr with
  | cons h t =>
    cases t
    obtain ⟨a, kvs, rfl, m, hH, hl⟩ := dq_dct h
    refine call_tuple_dK hc pins s σ H _ us Q I r ⟨a, kvs, rfl, hH, fun p ob np nd => ?_⟩
    have sm := same_upd (o := .frz ob (.tup (kvs.map fun kv => kV kv.1))) np
    refine q _ _ (kxSame sm) (C.same _ _ sm j) (.tup (tp_upd nd) ?_)
    have e1 : (kvs.map fun kv => kV kv.1) = (kvs.map (·.1)).map kV := by rw [List.map_map]; rfl
    have e2 : (l.map fun p => keyD p.1) = (l.map (·.1)).map keyD := by rw [List.map_map]; rfl
    rw [e1, e2, hl.keys]
    exact dq_keys _
/-! d[k], d.get(k), d.get(k, x), k in d -/
variable {a b c : Expr} {ta tb tc : P0}
theorem dq_key2 {H : Hp} {d : PyData} {v : V} {k : Key} (e : d = keyD k) (r : Dq C H v d) : v = kV k := by
  subst e
  exact dq_key r
@[simp] def vDget (ta tb : P0) : P0 := fun ρ Q => ta ρ fun d1 => tb ρ fun d2 => ∃ (l : DL) (k : Key) (d : PyData), d1 = dD l ∧ d2 = keyD k ∧ valG l k = some d ∧ Q d
theorem qe_dget (hu : X.A.units + 1 < cLine) (ha : QE X C a ta) (hb : QE X C b tb) (hs : NoSl b) : QE X C (.Subscript a b pos) (vDget ta tb) := by
  refine ⟨PE.weak (pe_dget hu ha.pe hb.pe hs) fun σ H Q h => ?_, fun ρ Q Q' w h => ha.mono _ _ _ (fun d1 h => hb.mono _ _ _ (fun d2 ⟨l, k, d, e1, e2, e3, q⟩ => ⟨l, k, d, e1, e2, e3, w _ q⟩) h) h⟩
  obtain ⟨ρ, he, j, h⟩ := h
  refine ⟨ρ, he, j, ha.mono _ _ _ (fun d1 h1 v H1 k1 j1 r1 => ?_) h⟩
  refine ⟨ρ, he.keep k1, j1, hb.mono _ _ _ (fun d2 ⟨l, k, d, e1, e2, e3, q⟩ w H2 k2 j2 r2 => ?_) h1⟩
  subst e1
  obtain ⟨a', kvs, rfl, m, hH, hl⟩ := dq_dct (r1.keep k2)
  obtain ⟨x, ex, rx⟩ := hl.val.1 d e3
  rw [dq_key2 e2 r2]
  have g : DGet _ a' (kV k) (valV kvs k) := .inl ⟨kvs, k, hH, rfl, rfl⟩
  rw [ex] at g
  exact ⟨a', x, rfl, g, q _ H2 (k1.trans k2) j2 rx⟩
@[simp] def vDget2 (ta tb tc : P0) : P0 := fun ρ Q => ta ρ fun d1 => ∃ l : DL, d1 = dD l ∧ tb ρ fun d2 => tc ρ fun d3 => ∃ k : Key, d2 = keyD k ∧ Q ((valG l k).getD d3)
theorem qe_dget2 {apos cpos : Pos} (hu : X.A.units + 1 < cLine) (ha : QE X C a ta) (hb : QE X C b tb) (hc : QE X C c tc) (m : M2 X a "get" apos b c cpos) : QE X C (.Call (.Attribute a "get" apos) [b, c] [] cpos) (vDget2 ta tb tc) := by
  refine ⟨PE.weak (pe_dget2 hu ha.pe hb.pe hc.pe m) fun σ H Q h => ?_, fun ρ Q Q' w h => ha.mono _ _ _ (fun d1 ⟨l, e, h⟩ => ⟨l, e, hb.mono _ _ _ (fun d2 h => hc.mono _ _ _ (fun d3 ⟨k, e2, q⟩ => ⟨k, e2, w _ q⟩) h) h⟩) h⟩
  obtain ⟨ρ, he, j, h⟩ := h
  refine ⟨ρ, he, j, ha.mono _ _ _ (fun d1 ⟨l, e1, h1⟩ v H1 k1 j1 r1 => ?_) h⟩
  subst e1
  obtain ⟨a', kvs, rfl, m, hH, hl⟩ := dq_dct r1
  refine ⟨a', rfl, .inl ⟨kvs, hH⟩, ρ, he.keep k1, j1, hb.mono _ _ _ (fun d2 h2 u H2 k2 j2 r2 => ?_) h1⟩
  refine ⟨ρ, (he.keep k1).keep k2, j2, hc.mono _ _ _ (fun d3 ⟨k, e2, q⟩ z H3 k3 j3 r3 => ?_) h2⟩
  rw [dq_key2 e2 (r2.keep k3)]
  have hH3 := k3.rd m (k2.rd m hH)
  have hl3 := (hl.keep k2).keep k3
  have g : DGet _ a' (kV k) (valV kvs k) := .inl ⟨kvs, k, hH3, rfl, rfl⟩
  cases ev : valG l k with
  | none =>
    rw [hl3.val.2 ev] at g
    rw [ev] at q
    exact ⟨none, g, q _ H3 (k1.trans (k2.trans k3)) j3 r3⟩
  | some d =>
    obtain ⟨x, ex, rx⟩ := hl3.val.1 d ev
    rw [ex] at g
    rw [ev] at q
    exact ⟨some x, g, q _ H3 (k1.trans (k2.trans k3)) j3 rx⟩
end
end Kr

set_option Elab.async false
set_option linter.all false
set_option maxRecDepth 100000
set_option maxHeartbeats 4000000
namespace Kr
open PySem PySem.Spec PyProof.Rows L2
/-! enumerate(t), t a tuple -/
theorem enum1_new {v : Value} {o : Obj} {H : Heap → Prop} (B : Begins v o H) : Meets (Builtin.«enumerate.__new__» ⟨[.type "enumerate", v], []⟩) (fun _ R s => H s.heap ∧
    R (.ok (.ret (.ref (s.heap.push o).objs.size))) { s with heap := (s.heap.push o).push { cls := .type "enumerate", data := .fields #[.none, .bool false, .ref s.heap.objs.size, rawInt 0, .none, .none] } }) := .of_wp fun prog w A R s h => by
  obtain ⟨hp, g, d, tk, os⟩ := s
  have hsub := sub_enumerate
  have q1 : ∀ {A' : Around} {E : Value → Shared → Prop} {Q : Value → Shared → Prop}, Q (.ref hp.objs.size) ⟨hp.push o, g, d, tk, os⟩ → wpAny (model prog w) A' (pyIter v) Q E ⟨hp, g, d, tk, os⟩ := fun q => B.iter prog w _ _ ⟨hp, g, d, tk, os⟩ _ h.1 q
  wp_walk using q1
  refine wpAny_stack_any fun st => wpAny_pure ?_
  split
  · rename_i c _ _ _ _ _
    cases (c == Value.type "enumerate") <;> (wp_walk using q1; exact ⟨_, rfl, h.2⟩)
  · wp_walk using q1
    exact ⟨_, rfl, h.2⟩
theorem enum1_call {prog : Program} {w : World} {A : Around} {E : Value → Shared → Prop} {s : Shared} {v : Value} {o : Obj} {H : Heap → Prop} {Q : Value → Shared → Prop} (B : Begins v o H) (h1 : H s.heap)
    (h : ∀ h', IsEnum h' (s.heap.objs.size + 1) s.heap.objs.size 0 .none → h'.get? s.heap.objs.size = some o → (∀ b o, s.heap.get? b = some o → h'.get? b = some o) → Q (.ref (s.heap.objs.size + 1)) { s with heap := h' }) :
    wpAny (model prog w) A (call (.type "enumerate") [v]) Q E s := by
  refine callType_new F.called_enumerate (by decide) (F.typeCall_enumerate_1 _) (F.newCall_enumerate_1 _) (fun obj => F.args_object_init_2 obj _) F.entry_enumerate_new (enum1_new B) ⟨h1, ?_⟩
  have hz : (s.heap.push o).objs.size = s.heap.objs.size + 1 := Heap.size_push ..
  show _ ∧ _
  rw [hz]
  have he := Heap.get?_push_size (s.heap.push o) (o := { cls := .type "enumerate", data := .fields #[.none, .bool false, .ref s.heap.objs.size, rawInt 0, .none, .none] }) rfl
  rw [hz] at he
  exact ⟨⟨_, he, rfl⟩, h _ he (Heap.get?_push_of_some _ (Heap.get?_push_size _ B.free)) fun b o x => Heap.get?_push_of_some _ (Heap.get?_push_of_some _ x)⟩
def IteT (K : PySem.W.Frag) (a : Addr) : It :=
  ⟨fun i H => ∃ (xs : List V) (x : V), SqT K H a xs ∧ xs[i]? = some x, fun i H v H' => ∃ T x, v = .ref T ∧ H T = none ∧ H' = upd H T (.tup [.int (i : Nat), x]) ∧ ∀ xs, SqT K H a xs → xs[i]? = some x, fun i H => ∃ xs : List V, SqT K H a xs ∧ xs.length = i⟩
theorem tup_is {h : Heap} {t : Addr} {its : Array Value} (p : IsTup h t its) : h.IsTuple t its := by
  obtain ⟨o, e, c, n, d⟩ := p
  exact ⟨o, e, c, n, d⟩
theorem turn_enumT {P : Program} {w : World} {K : PySem.W.Frag} {elts : List Expr} {kk : Nat} {tpos : Pos} (a e it : Addr) :
    Turn P w K (.Tuple elts kk tpos) (IteT K a) [e, it] e (fun i h => (∃ old, IsEnum h e it ((i : Nat) : Int) old) ∧ h.IsTupleIter it a i ∧ e ≠ it ∧ a ≠ it ∧ a ≠ e) where
  mem := by simp
  obj := fun i h st b hb => by
    obtain ⟨⟨old, he⟩, ⟨o, ho, hc, hd⟩, _⟩ := st
    have e' : b = e ∨ b = it := by simpa using hb
    rcases e' with z | z
    · subst z
      exact ⟨_, he, fun v q => nomatch q⟩
    · subst z
      exact ⟨o, ho, fun v q => by rw [hd] at q; cases q⟩
  keep := fun i h h' st k => let ⟨⟨old, he⟩, hi, hne⟩ := st; ⟨⟨old, k e (by simp) _ he⟩, hi.at fun o q => k it (by simp) o q, hne⟩
  item := by
    intro X hP hw hK hc i pins s σ H E I hf st hg
    subst hP hw hK
    obtain ⟨⟨old, he⟩, hit, hne, ha1, ha2⟩ := st
    obtain ⟨xs, x, hq, hx⟩ := hg
    obtain ⟨its, rv, p, hz⟩ := I.tuple hq
    obtain ⟨u, hu, ru⟩ := rv.get hx
    have hel : e < s.heap.objs.size := Heap.lt_size he
    have hil : it < s.heap.objs.size := by obtain ⟨_, q, _⟩ := hit; exact Heap.lt_size q
    have hi : i < its.toArray.size := by
      have h1 : i < xs.length := (List.getElem?_eq_some_iff.mp hx).1
      have h2 := rv.length
      rw [List.size_toArray]
      omega
    have hD := Draws.tuple (prog := X.prog) (w := X.w) (A := X.A.in1) (I.ok.hd hc) it a ha1 its.toArray
    refine wpAny_pyNext_enum_itemD hD he ⟨hit, tup_is p⟩ hi hne (by simp only [List.mem_cons, List.not_mem_nil, or_false, not_or]; exact ⟨hne, ha2.symm⟩) fun y h' tk hy ho hst hT hsz hk => ?_
    obtain rfl : y = u := by
      have h1 : its.toArray[i]? = some u := by simpa using hu
      rw [h1] at hy
      exact (Option.some.inj hy).symm
    refine ⟨_, rfl, wpAny_letOwnedTupleGo_enum (s := { s with heap := h', toks := tk + 1 }) ho fun h'' he' sb => ?_⟩
    have hT2 : h''.get? s.heap.objs.size = some { cls := .type "tuple", data := .seq #[.int i tk, y] } := (sb.2 _ (Nat.ne_of_gt hel)).trans hT
    have new : ObjOk X.prog X.w (upd H s.heap.objs.size (.tup [.int (i : Nat), x])) h'' s.heap.objs.size (.tup [.int (i : Nat), x]) :=
      ⟨by show 2 ≤ sizeLine; decide, [.int i tk, y], .cons ⟨_, rfl⟩ (.cons ru .nil), ⟨_, hT2, rfl, _, rfl⟩⟩
    have I1 : Inv X pins σ (upd H s.heap.objs.size (.tup [.int (i : Nat), x])) { s with heap := h'', toks := tk + 1 } :=
      I.turnedNew (ch := [e, it]) (fun b ob hb q => (sb.2 b (fun z => hb (by simp [z]))).trans (hk b ob (fun z => hb (by simp [z])) (fun z => hb (by simp [z])) q)) hf (Nat.le_refl _) new
    refine ⟨.ref s.heap.objs.size, _, I1, rfl, ⟨_, x, rfl, I.hok.fresh (Nat.le_refl _), rfl, fun ys hy => by rw [I.tuple_inj hy hq]; exact hx⟩, ⟨⟨y, ?_⟩, hst.1.at fun o q => (sb.2 it (Ne.symm hne)).trans q, hne, ha1, ha2⟩, fun b hb => ?_⟩
    · have e1 : ((i + 1 : Nat) : Int) = (i : Int) + 1 := by omega
      rw [e1]
      exact he'
    · have e' : b = e ∨ b = it := by simpa using hb
      have hb' : b < s.heap.objs.size := by
        rcases e' with z | z
        · rw [z]; exact hel
        · rw [z]; exact hil
      rw [upd_ne (Nat.ne_of_lt hb')]
      exact (hf b hb).1
  done := by
    intro X hP hw hK hc i pins s σ H E I hf st hg
    subst hP hw hK
    obtain ⟨⟨old, he⟩, hit, hne, ha1, ha2⟩ := st
    obtain ⟨xs, hq, hx⟩ := hg
    obtain ⟨its, rv, p, hz⟩ := I.tuple hq
    obtain ⟨f0, f1, f2, f3, f4, f5⟩ := hf it (by simp)
    have hl := rv.length
    have hD := Draws.tuple (prog := X.prog) (w := X.w) (A := X.A.in1) (I.ok.hd hc) it a ha1 its.toArray
    have hn : its.toArray.size = i := by
      rw [List.size_toArray]
      omega
    refine wpAny_pyNext_enum_endD hD he (by rw [hn]; exact ⟨hit, tup_is p⟩) fun h' eb => ⟨rfl, I.turned (t' := s.toks) (fun b o hb q => eb b o hb q) f0 f1 f3 f4 f5⟩
  self := fun A i s Q E st h => let ⟨⟨_, he⟩, _⟩ := st; wpAny_pyIter_enum he h
def iEnumT (K : PySem.W.Frag) (ta : TA) : TI := fun σ H R => ta σ H fun vs H1 => ∃ a xs, vs = [.ref a] ∧ SqT K H1 a xs ∧ R (IteT K a) H1
theorem pi_enumT {X : Cx} {e : Expr} {ta : TA} {p pos tpos : Pos} {elts : List Expr} {kk : Nat} (hg : Gl X "enumerate") (hm : X.mg "enumerate" = none) (ha : PA X [e] ta) (hs : starEach [e] X.env = [(false, eval e X.env)] := by rfl) :
    PI X (.Tuple elts kk tpos) (.Call (.Name "enumerate" p) [e] [] pos) (iEnumT X.K ta) := by
  refine ⟨fun pins s σ H R I h => ?_⟩
  refine Call_ (ld_blt I hg hm boot_enumerate (PyProof.Rows.callWith_type1 (thn (ha.run pos pins s σ H _ I h) fun us s1 ⟨vs, H1, I1, r1, q1⟩ => ?_) hs rfl))
  obtain ⟨a, xs, rfl, hq, q⟩ := q1
  obtain ⟨u, rfl, r⟩ := vals1 r1
  obtain rfl : u = Value.ref a := r
  obtain ⟨its, rv, p', hz⟩ := I1.tuple hq
  have al := p'.lt
  refine enum1_call (begins_tuple a its.toArray) (tup_is p') fun h' he hit hk => wpAny_pyIter_enum he ?_
  have I2 : Inv X pins σ H1 { s1 with heap := h' } := I1.kept (t' := s1.toks) hk
  refine ⟨s1.heap.objs.size + 1, [s1.heap.objs.size + 1, s1.heap.objs.size], _, _, H1, rfl, I2, turn_enumT a (s1.heap.objs.size + 1) s1.heap.objs.size, ⟨⟨.none, he⟩, ⟨_, hit, rfl, rfl⟩, Nat.succ_ne_self _, Nat.ne_of_lt al, Nat.ne_of_lt (Nat.lt_succ_of_lt al)⟩, fun b hb => ?_, q⟩
  have hle : s1.heap.objs.size ≤ b := by
    have e' : b = s1.heap.objs.size + 1 ∨ b = s1.heap.objs.size := by simpa using hb
    rcases e' with z | z
    · rw [z]
      exact Nat.le_succ _
    · rw [z]
      exact Nat.le_refl _
  exact I1.fpOk hle (I1.hok.fresh hle)
/-! t[::-1], t a tuple -/
theorem fm_congr {α β : Type} {f g : α → Option β} : ∀ l : List α, (∀ k ∈ l, f k = g k) → l.filterMap f = l.filterMap g
  | [], _ => rfl
  | k :: r, h => by
    rw [List.filterMap_cons, List.filterMap_cons, h k (List.mem_cons_self ..), fm_congr r fun j hj => h j (List.mem_cons_of_mem _ hj)]
theorem rev_pick (xs : Array Value) : ((List.range xs.size).filterMap fun (k : Nat) => xs[((xs.size : Int) - 1 + (k : Int) * -1).toNat]?).toArray = xs.toList.reverse.toArray := by
  have e : (List.range xs.size).filterMap (fun (k : Nat) => xs[((xs.size : Int) - 1 + (k : Int) * -1).toNat]?) = (List.range xs.size).filterMap (fun k => xs[xs.size - 1 - k]?) := by
    refine fm_congr _ fun k hk => ?_
    have := List.mem_range.mp hk
    rw [show ((xs.size : Int) - 1 + (k : Int) * -1).toNat = xs.size - 1 - k by omega]
  rw [e, ← PySem.W.krv_all xs, ← List.filterMap_reverse, ← PySem.W.krv_range, List.filterMap_map]
  rfl
theorem rev_adjust (n : Nat) : Builtin.Slice.sliceAdjust none none (-1) (n : Int) = ((n : Int) - 1, -1) := by
  unfold Builtin.Slice.sliceAdjust
  simp
theorem rev_places (n : Nat) : Builtin.Slice.slicePlaces ((n : Int) - 1) (-1) (-1) = n := by
  unfold Builtin.Slice.slicePlaces
  simp
  try omega
theorem sliceApplied_rev {prog : Program} {w : World} {A : Around} {E : Value → Shared → Prop} {s : Shared} {sl : Addr} {tk : Tok} {n : Nat} {Q : Int × Int × Nat → Shared → Prop} (hs : s.heap.IsSliceOf sl .none .none (.int (-1) tk)) (h : Q ((n : Int) - 1, -1, n) s) :
    wpAny (model prog w) A (Builtin.Slice.sliceApplied (.ref sl) (pure (n : Int))) Q E s := by
  obtain ⟨os, hos, hcs, hds⟩ := id hs
  unfold Builtin.Slice.sliceApplied Builtin.Slice.sliceFields
  refine wpAny_bind (wpAny_bind (wpAny_field hos hds (x := .none) rfl (wpAny_bind (wpAny_field hos hds (x := .none) rfl (wpAny_bind (wpAny_field hos hds (x := .int (-1) tk) rfl (wpAny_pure ?_)))))))
  refine wpAny_bind (slicePart_int ?_)
  show wpAny _ _ (if ((-1 : Int) == 0) = true then _ else _) _ _ s
  rw [if_neg (by decide)]
  refine wpAny_bind (slicePart_none (wpAny_bind (slicePart_none (wpAny_bind (wpAny_pure ?_)))))
  show wpAny _ _ (match Builtin.Slice.sliceAdjust none none (-1) (n : Int) with | (lo, hi) => pure (lo, (-1 : Int), Builtin.Slice.slicePlaces lo hi (-1))) _ _ s
  rw [rev_adjust n]
  show wpAny _ _ (pure ((n : Int) - 1, (-1 : Int), Builtin.Slice.slicePlaces ((n : Int) - 1) (-1) (-1))) _ _ s
  rw [rev_places]
  exact wpAny_pure h
theorem getItem_tuple_rev {prog : Program} {w : World} {A : Around} {E : Value → Shared → Prop} {s : Shared} {t sl : Addr} {items : Array Value} {tk : Tok} {Q : Value → Shared → Prop} (ht : IsTup s.heap t items) (hs : s.heap.IsSliceOf sl .none .none (.int (-1) tk))
    (h : Q (.ref s.heap.objs.size) { s with heap := s.heap.push { cls := .type "tuple", data := .seq items.toList.reverse.toArray } }) (hsz : items.size ≤ sizeLine) : wpAny (model prog w) A (getItem (.ref t) (.ref sl)) Q E s := by
  have htake : sizeOk (.seq items.toList.reverse.toArray) := by
    show items.toList.reverse.toArray.size ≤ sizeLine
    rw [List.size_toArray, List.length_reverse, Array.length_toList]
    exact hsz
  obtain ⟨os, hos, hcs, hds⟩ := id hs
  have hTs : s.TypeIs (.ref sl) "slice" := ⟨os, hos, hcs⟩
  unfold getItem
  try with_reducible refine wpAny_holding ?_
  first | refine wpAny_bind (wpAny_pure ?_) | skip
  refine wpAny_bind (wpAny_sequenceKey ht.typeIs (by decide) ?_)
  refine wpAny_bind (wpAny_callSpecial?_slot (name := Str.ofString "__getitem__") ht.typeIs PyProof.Rows.slot_tuple_getitem (wpAny_call_entry PyProof.Rows.slot_tuple_getitem ht.typeIs PyProof.Rows.entry_tuple_getitem ?_ (PyProof.Rows.args_tuple_getitem _ _)))
  show wpAny _ _ (Builtin.Tuple.tupleItemsOf (.ref t) >>= _) _ _ s
  refine wpAny_bind (tupleItemsOf_ ht ?_)
  refine wpAny_bind (wpAny_typeOf hTs ?_)
  rw [if_pos (by decide)]
  refine wpAny_bind (sliceApplied_rev hs ?_)
  have hno : ¬ (((items.size : Int) - 1 == 0 && (-1 : Int) == 1 && items.size == items.size) = true) := by simp
  show wpAny _ _ (if ((items.size : Int) - 1 == 0 && (-1 : Int) == 1 && items.size == items.size) = true then _ else _) _ _ s
  rw [if_neg hno, rev_pick]
  first
    | exact wpAny_bind (m := Builtin.Tuple.tupleExact _) (wpAny_newObj_type (wpAny_pure ⟨_, rfl, wpAny_pure h⟩) htake)
    | exact wpAny_bind (wpAny_bind (m := Builtin.Tuple.tupleExact _) (wpAny_newObj_type (wpAny_pure ⟨_, rfl, wpAny_pure h⟩) htake))
def tRevT (K : PySem.W.Frag) (te : TE) : TE := fun σ H Q => te σ H fun x H1 => ∃ a xs, x = .ref a ∧ SqT K H1 a xs ∧ ∀ p o, H1 p = none → o.dict = none → Q (.ref p) (upd H1 p (.frz o (.tup xs.reverse)))
theorem pe_revT {X : Cx} {e : Expr} {te : TE} {k : Nat} {p1 p2 p3 pos : Pos} (he : PE X e te) : PE X (.Subscript e (.Slice none none (some (.UnaryOp .USub (.Constant (.int 1) k p1) p2)) p3) pos) (tRevT X.K te) := by
  refine ⟨fun pins s σ H Q I h => ?_⟩
  refine Subscript_ (thn (he.run pins s σ H _ I h) fun v s1 ⟨x, H1, I1, r1, q1⟩ => ?_)
  obtain ⟨a, xs, rfl, hx, q⟩ := q1
  cases r1
  have hst : PO X (some (.UnaryOp .USub (.Constant (.int 1) k p1) p2)) (tPart (tUn (rU fun i => .int (-i)) (tC (.int 1)))) := po_some (pe_un un_neg pe_int)
  refine wpAny_Slice (thn (po_none.run pins s1 σ H1 (fun o H2 => o = none ∧ H2 = H1) I1 ⟨rfl, rfl⟩) fun vl s2 ⟨l, H2, I2, pl, el, e2⟩ => ?_)
  subst el e2
  refine thn (po_none.run pins s2 σ H2 (fun o H3 => o = none ∧ H3 = H2) I2 ⟨rfl, rfl⟩) fun vu s3 ⟨u, H3, I3, pu, eu, e3⟩ => ?_
  subst eu e3
  refine thn (hst.run pins s3 σ H3 (fun o H4 => o = some (-1) ∧ H4 = H3) I3 ⟨1, rfl, -1, rfl, rfl, rfl⟩) fun vs s4 ⟨o, H4, I4, ps, eo, e4⟩ => ?_
  subst eo e4
  obtain rfl : vl = .none := by
    cases pl
    rfl
  obtain rfl : vu = .none := by
    cases pu
    rfl
  obtain ⟨tk, rfl⟩ : ∃ tk, vs = .int (-1) tk := by
    cases ps
    exact ⟨_, rfl⟩
  have I5 : Inv X pins σ H4 { s4 with heap := s4.heap.push { cls := .type "slice", data := .fields #[.none, .none, .int (-1) tk] } } := I4.kept (t' := s4.toks) fun b ob q => Heap.get?_push_of_some _ q
  obtain ⟨its, r, ht, hz⟩ := I5.tuple hx
  have hlen := r.length
  show wpAny (model X.prog X.w) X.A (subscriptTail e (.Slice none none (some (.UnaryOp .USub (.Constant (.int 1) k p1) p2)) p3) (.ref a) (.ref s4.heap.objs.size)) (EP X pins σ Q) X.xe { s4 with heap := s4.heap.push { cls := .type "slice", data := .fields #[.none, .none, .int (-1) tk] } }
  refine tail_any (ops := [.ref a, .ref s4.heap.objs.size]) ht.typeIs (PyProof.Rows.slot_tuple_getitem.lookup) ?_ (by with_unfolding_all rfl)
  refine getItem_tuple_rev ht (Heap.IsSliceOf.new _ .none .none (.int (-1) tk)) ?_ (by rw [List.size_toArray]; omega)
  exact ⟨.ref _, _, I5.laid (t' := s4.toks) (fun b ob q => Heap.get?_push_of_some _ q) (Nat.le_refl _) (show ObjOk X.prog X.w _ _ _ (.frz _ (.tup xs.reverse)) from ⟨Heap.get?_push_size _ rfl, by rw [List.length_reverse]; exact hz, _, r.reverse, IsTup.new _ _⟩), rfl, q _ _ (I5.hok.fresh (Nat.le_refl _)) rfl⟩
end Kr

set_option Elab.async false
set_option linter.all false
set_option maxRecDepth 100000
set_option maxHeartbeats 4000000
namespace Kr
open PySem PySem.Spec PyProof.Rows L2
/-! reversed(..), enumerate(..) in loops and comprehensions -/
section
variable {X : Cx} {C : Cz} {pos : Pos} {a : Expr} {ta : P0}
theorem rev_get {l : List PyData} {i : Nat} {d : PyData} (h : l.reverse[i]? = some d) : i < l.length ∧ l[l.length - 1 - i]? = some d := by
  have hi := (List.getElem?_eq_some_iff.mp h).1
  rw [List.length_reverse] at hi
  rw [List.getElem?_reverse hi] at h
  exact ⟨hi, h⟩
theorem qi_rev {tg : Expr} {p : Pos} (hg : Gl X "reversed") (hm : X.mg "reversed" = none) (h : QE X C a ta) (hs : starEach [a] X.env = (false, eval a X.env) :: starEach [] X.env := by rfl) :
    QI X C tg (.Call (.Name "reversed" p) [a] [] pos) (fun ρ Q => ta ρ fun d => ∃ ds, (d = .list ds ∨ d = .tuple ds) ∧ Q ds.reverse) := by
  refine ⟨PI.weak (RT.pi_revA hg hm h.pe hs) fun σ H R q => ?_, fun ρ Q Q' w q => h.mono _ _ _ (fun d ⟨ds, e, q⟩ => ⟨ds, e, w _ q⟩) q⟩
  obtain ⟨ρ, he, j, q⟩ := q
  refine ⟨ρ, he, j, h.mono _ _ _ (fun d ⟨ds, e, q⟩ v H' k1 j1 r => ?_) q⟩
  rcases e with rfl | rfl
  · cases r with
    | @lst a xs _ n1 hH hr =>
      refine ⟨a, xs, rfl, .inl ⟨.inl (.inl hH), q _ H' k1 j1 fun i H2 k2 => ?_⟩⟩
      have hH2 := k2.2 _ _ n1 hH
      have hl := hr.length
      refine ⟨fun e => ?_, fun d e => ?_⟩
      · rw [List.length_reverse] at e
        show xs.length ≤ i
        omega
      · obtain ⟨hi, e⟩ := rev_get e
        obtain ⟨x, hx, hd⟩ := hr.get e
        rw [← hl] at hi hx
        refine ⟨⟨hi, xs, x, .inl (.inl hH2), hx⟩, fun y H3 hy => ?_⟩
        obtain ⟨rfl, hy⟩ := hy
        have : y = x := Option.some.inj ((hy xs (.inl (.inl hH2))).symm.trans hx)
        subst this
        exact ⟨Same.refl _, fun C2 f => .inl (hd.carry k2 f)⟩
  · cases r with
    | @tup a xs _ hH hr =>
      refine ⟨a, xs, rfl, .inr ⟨hH.sq, q _ H' k1 j1 fun i H2 k2 => ?_⟩⟩
      have hH2 := k2.1 _ (.tup _) hH
      have hl := hr.length
      refine ⟨fun e => ?_, fun d e => ?_⟩
      · rw [List.length_reverse] at e
        show xs.length ≤ i
        omega
      · obtain ⟨hi, e⟩ := rev_get e
        obtain ⟨x, hx, hd⟩ := hr.get e
        rw [← hl] at hi hx
        refine ⟨⟨hi, xs, x, hH2.sq, hx⟩, fun y H3 hy => ?_⟩
        obtain ⟨rfl, hy⟩ := hy
        have : y = x := Option.some.inj ((hy xs hH2.sq).symm.trans hx)
        subst this
        exact ⟨Same.refl _, fun C2 f => .inl (hd.carry k2 f)⟩
def enumD (ds : List PyData) : List PyData := ds.mapIdx fun i d => .tuple [.int (i : Nat), d]
theorem qi_enum {p tpos : Pos} {elts : List Expr} {kk : Nat} (hg : Gl X "enumerate") (hm : X.mg "enumerate" = none) (h : QE X C a ta) (hs : starEach [a] X.env = [(false, eval a X.env)] := by rfl) (hs2 : starEach [a] X.env = (false, eval a X.env) :: starEach [] X.env := by rfl) :
    QI X C (.Tuple elts kk tpos) (.Call (.Name "enumerate" p) [a] [] pos) (fun ρ Q => ta ρ fun d => ∃ ds, d = .tuple ds ∧ Q (enumD ds)) := by
  refine ⟨PI.weak (pi_enumT hg hm (pa_cons h.pe pa_nil hs2) hs) fun σ H R q => ?_, fun ρ Q Q' w q => h.mono _ _ _ (fun d ⟨ds, e, q⟩ => ⟨ds, e, w _ q⟩) q⟩
  obtain ⟨ρ, he, j, q⟩ := q
  refine ⟨ρ, he, j, h.mono _ _ _ (fun d ⟨ds, e, q⟩ v H' k1 j1 r => ?_) q⟩
  subst e
  cases r with
  | @tup a xs _ hH hr =>
    refine ⟨a, xs, rfl, hH.sq, q _ H' k1 j1 fun i H2 k2 => ?_⟩
    have hH2 := k2.1 _ (.tup _) hH
    have hl := hr.length
    refine ⟨fun e => ⟨xs, hH2.sq, ?_⟩, fun d e => ?_⟩
    · unfold enumD at e
      rw [List.length_mapIdx] at e
      omega
    · unfold enumD at e
      rw [List.getElem?_mapIdx] at e
      cases ed : ds[i]? with
      | none =>
        rw [ed] at e
        cases e
      | some d0 =>
        rw [ed] at e
        cases e
        obtain ⟨x, hx, hd⟩ := hr.get ed
        refine ⟨⟨xs, x, hH2.sq, hx⟩, fun y H3 hy => ?_⟩
        obtain ⟨T, x', rfl, nT, rfl, hy⟩ := hy
        have : x' = x := Option.some.inj ((hy xs hH2.sq).symm.trans hx)
        subst this
        have sm : Same H2 (upd H2 T (.tup [.int (i : Nat), x'])) := same_upd nT
        exact ⟨sm, fun C2 f => .tw upd_same (.cons (.int _) (.cons (hd.carry (k2.trans (kxSame sm)) f) .nil))⟩
end
end Kr

set_option Elab.async false
set_option linter.all false
set_option maxRecDepth 100000
set_option maxHeartbeats 4000000
namespace Kr
open PySem PySem.Spec PyProof.Rows L2
/-! zip(.., ..) in loops and comprehensions; both lists, or both tuples -/
def zipD : List PyData → List PyData → List PyData
  | a :: as, b :: bs => .tuple [a, b] :: zipD as bs
  | _, _ => []
theorem zip_get : ∀ {as bs : List PyData} {i : Nat} {d : PyData}, (zipD as bs)[i]? = some d → ∃ a b, as[i]? = some a ∧ bs[i]? = some b ∧ d = .tuple [a, b]
  | [], _, i, d, h => by simp [zipD] at h
  | _ :: _, [], i, d, h => by simp [zipD] at h
  | a :: as, b :: bs, 0, d, h => ⟨a, b, rfl, rfl, by simpa [zipD] using h.symm⟩
  | a :: as, b :: bs, i + 1, d, h => by
    have h' : (zipD as bs)[i]? = some d := by simpa [zipD] using h
    simpa using zip_get h'
theorem zip_end : ∀ {as bs : List PyData}, as.length ≤ (zipD as bs).length ∨ bs.length ≤ (zipD as bs).length
  | [], _ => .inl (Nat.zero_le _)
  | _ :: _, [] => .inr (Nat.zero_le _)
  | a :: as, b :: bs => by
    show as.length + 1 ≤ (zipD as bs).length + 1 ∨ bs.length + 1 ≤ (zipD as bs).length + 1
    rcases zip_end (as := as) (bs := bs) with h | h
    · exact .inl (by omega)
    · exact .inr (by omega)
section
variable {X : Cx} {C : Cz} {pos : Pos} {a b : Expr} {ta tb : P0}
theorem qi_zip {p tpos : Pos} {elts : List Expr} {kk : Nat} {t : P0A} (hg : Gl X "zip") (hm : X.mg "zip" = none) (h : QA X C [a, b] t) (hs : starEach [a, b] X.env = (false, eval a X.env) :: starEach [b] X.env := by rfl) (hpl : (backTo pos (starEach [b] X.env)).any (·.1) = false := by rfl) :
    QI X C (.Tuple elts kk tpos) (.Call (.Name "zip" p) [a, b] [] pos) (fun ρ Q => t ρ fun ds => ∃ as bs, (ds = [.list as, .list bs] ∨ ds = [.tuple as, .tuple bs]) ∧ Q (zipD as bs)) := by
  refine ⟨PI.weak (RZ.pi_zipA hg hm h.pa hs hpl) fun σ H R q => ?_, fun ρ Q Q' w q => h.mono _ _ _ (fun d ⟨as, bs, e, q⟩ => ⟨as, bs, e, w _ q⟩) q⟩
  obtain ⟨ρ, he, j, q⟩ := q
  refine ⟨ρ, he, j, h.mono _ _ _ (fun d ⟨as, bs, e, q⟩ vs H' k1 j1 r => ?_) q⟩
  rcases e with rfl | rfl
  · cases r with
    | cons r1 r =>
      cases r with
      | cons r2 r =>
        cases r
        cases r1 with
        | @lst a1 xs _ n1 hH hr =>
          cases r2 with
          | @lst a2 ys _ n2 hH' hr' =>
            refine ⟨a1, a2, xs, ys, rfl, .inl ⟨.inl (.inl hH), .inl (.inl hH'), q _ H' k1 j1 fun i H2 k2 => ?_⟩⟩
            have g1 := k2.2 _ _ n1 hH
            have g2 := k2.2 _ _ n2 hH'
            refine ⟨fun e => ⟨xs, ys, .inl (.inl g1), .inl (.inl g2), ?_⟩, fun d e => ?_⟩
            · have := zip_end (as := as) (bs := bs)
              rw [hr.length, hr'.length]
              omega
            · obtain ⟨x0, y0, e1, e2, rfl⟩ := zip_get e
              obtain ⟨x, hx, dx⟩ := hr.get e1
              obtain ⟨y, hy, dy⟩ := hr'.get e2
              refine ⟨⟨xs, ys, x, y, .inl (.inl g1), .inl (.inl g2), hx, hy⟩, fun v H3 hv => ?_⟩
              obtain ⟨T, x', y', rfl, nT, rfl, h1, h2⟩ := hv
              have ex : x' = x := Option.some.inj ((h1 xs (.inl (.inl g1))).symm.trans hx)
              have ey : y' = y := Option.some.inj ((h2 ys (.inl (.inl g2))).symm.trans hy)
              subst ex ey
              have sm : Same H2 (upd H2 T (.tup [x', y'])) := same_upd nT
              exact ⟨sm, fun C2 f => .tw upd_same (.cons (dx.carry (k2.trans (kxSame sm)) f) (.cons (dy.carry (k2.trans (kxSame sm)) f) .nil))⟩
  · cases r with
    | cons r1 r =>
      cases r with
      | cons r2 r =>
        cases r
        cases r1 with
        | @tup a1 xs _ hH hr =>
          cases r2 with
          | @tup a2 ys _ hH' hr' =>
            refine ⟨a1, a2, xs, ys, rfl, .inr ⟨hH.sq, hH'.sq, q _ H' k1 j1 fun i H2 k2 => ?_⟩⟩
            have g1 := k2.1 _ (.tup _) hH
            have g2 := k2.1 _ (.tup _) hH'
            refine ⟨fun e => ⟨xs, ys, g1.sq, g2.sq, ?_⟩, fun d e => ?_⟩
            · have := zip_end (as := as) (bs := bs)
              rw [hr.length, hr'.length]
              omega
            · obtain ⟨x0, y0, e1, e2, rfl⟩ := zip_get e
              obtain ⟨x, hx, dx⟩ := hr.get e1
              obtain ⟨y, hy, dy⟩ := hr'.get e2
              refine ⟨⟨xs, ys, x, y, g1.sq, g2.sq, hx, hy⟩, fun v H3 hv => ?_⟩
              obtain ⟨T, x', y', rfl, nT, rfl, h1, h2⟩ := hv
              have ex : x' = x := Option.some.inj ((h1 xs g1.sq).symm.trans hx)
              have ey : y' = y := Option.some.inj ((h2 ys g2.sq).symm.trans hy)
              subst ex ey
              have sm : Same H2 (upd H2 T (.tup [x', y'])) := same_upd nT
              exact ⟨sm, fun C2 f => .tw upd_same (.cons (dx.carry (k2.trans (kxSame sm)) f) (.cons (dy.carry (k2.trans (kxSame sm)) f) .nil))⟩
/-! k in d, k not in d -/
@[simp] def vDin (neg : Bool) (ta tb : P0) : P0 := fun ρ Q => ta ρ fun d1 => tb ρ fun d2 => ∃ (l : DL) (k : Key), d1 = keyD k ∧ d2 = dD l ∧ Q (.bool (xor neg (valG l k).isSome))
theorem qe_din (hu : X.A.units + 1 < cLine) (ha : QE X C a ta) (hb : QE X C b tb) (hm : behindInMarks .In b = false := by rfl) : QE X C (.Compare a [.In] [b] pos) (vDin false ta tb) := by
  refine ⟨PE.weak (pe_cmp (pc_din hu ha.pe hb.pe) hm) fun σ H Q h => ?_, fun ρ Q Q' w h => ha.mono _ _ _ (fun d1 h => hb.mono _ _ _ (fun d2 ⟨l, k, e1, e2, q⟩ => ⟨l, k, e1, e2, w _ q⟩) h) h⟩
  obtain ⟨ρ, he, j, h⟩ := h
  refine ⟨ρ, he, j, ha.mono _ _ _ (fun d1 h1 v H1 k1 j1 r1 => ?_) h⟩
  refine ⟨ρ, he.keep k1, j1, hb.mono _ _ _ (fun d2 ⟨l, k, e1, e2, q⟩ w H2 k2 j2 r2 => ?_) h1⟩
  subst e2
  obtain ⟨a', kvs, rfl, m, hH, hl⟩ := dq_dct r2
  rw [dq_key2 e1 (r1.keep k2)]
  refine ⟨a', valV kvs k, rfl, (.inl ⟨kvs, k, hH, rfl, rfl⟩ : DGet _ a' (kV k) (valV kvs k)), ?_⟩
  have e : (valV kvs k).isSome = (valG l k).isSome := by
    cases ev : valG l k with
    | none => rw [hl.val.2 ev]; rfl
    | some d =>
      obtain ⟨x, ex, _⟩ := hl.val.1 d ev
      rw [ex]
      rfl
  rw [e]
  have q' := q (.bl (xor false (valG l k).isSome)) H2 (k1.trans k2) j2 (.bl _)
  rw [Bool.false_xor] at q'
  exact q'
theorem qe_dnotin (hu : X.A.units + 1 < cLine) (ha : QE X C a ta) (hb : QE X C b tb) (hm : behindInMarks .NotIn b = false := by rfl) : QE X C (.Compare a [.NotIn] [b] pos) (vDin true ta tb) := by
  refine ⟨PE.weak (pe_cmp (pc_dnotin hu ha.pe hb.pe) hm) fun σ H Q h => ?_, fun ρ Q Q' w h => ha.mono _ _ _ (fun d1 h => hb.mono _ _ _ (fun d2 ⟨l, k, e1, e2, q⟩ => ⟨l, k, e1, e2, w _ q⟩) h) h⟩
  obtain ⟨ρ, he, j, h⟩ := h
  refine ⟨ρ, he, j, ha.mono _ _ _ (fun d1 h1 v H1 k1 j1 r1 => ?_) h⟩
  refine ⟨ρ, he.keep k1, j1, hb.mono _ _ _ (fun d2 ⟨l, k, e1, e2, q⟩ w H2 k2 j2 r2 => ?_) h1⟩
  subst e2
  obtain ⟨a', kvs, rfl, m, hH, hl⟩ := dq_dct r2
  rw [dq_key2 e1 (r1.keep k2)]
  refine ⟨a', valV kvs k, rfl, (.inl ⟨kvs, k, hH, rfl, rfl⟩ : DGet _ a' (kV k) (valV kvs k)), ?_⟩
  have e : (valV kvs k).isSome = (valG l k).isSome := by
    cases ev : valG l k with
    | none => rw [hl.val.2 ev]; rfl
    | some d =>
      obtain ⟨x, ex, _⟩ := hl.val.1 d ev
      rw [ex]
      rfl
  rw [e]
  have q' := q (.bl (xor true (valG l k).isSome)) H2 (k1.trans k2) j2 (.bl _)
  rw [Bool.true_xor] at q'
  exact q'
end
end Kr

set_option Elab.async false
set_option linter.all false
set_option maxRecDepth 100000
set_option maxHeartbeats 2000000
namespace Kr
open PySem PySem.Spec PyProof.Rows L2
/-! list(reversed(x)), x a list or a tuple -/
section
variable {prog : Program} {w : World} {A : Around} {E : Value → Shared → Prop} {s : Shared}
theorem rl_nolen : typeLookup (.type "list_reverseiterator") "__len__" = pure none := by
  rw [typeLookup_type, builtinLookup_eq_fast] ; kernel_rfl
theorem rl_hint : typeLookup (.type "list_reverseiterator") "__length_hint__" = pure (some (.builtin "list_reverseiterator.__length_hint__")) := by
  rw [typeLookup_type, builtinLookup_eq_fast] ; kernel_rfl
theorem slot_rl_hint : Slot "list_reverseiterator" "__length_hint__" "list_reverseiterator.__length_hint__" := .of (owner := "list_reverseiterator") (n := "__length_hint__") rl_hint (by decide +kernel) (by decide +kernel)
  (by decide +kernel) (by first | exact .inl (by decide +kernel) | exact .inr (by decide +kernel)) (by rw [isSubtype_type]; kernel_rfl)
theorem entry_rl_hint : entryFor table "list_reverseiterator.__length_hint__" = some Builtin.«list_reverseiterator.__length_hint__» :=
  entryFor_of_tree (by kernel_rfl)
theorem args_rl_hint (a : Value) : argsOk "list_reverseiterator.__length_hint__" ⟨[a], []⟩ := by
  unfold argsOk; rw [signature?_of (id := "list_reverseiterator.__length_hint__") (n := ['_', '_', 't', 'n', 'i', 'h', '_', 'h', 't', 'g', 'n', 'e', 'l', '_', '_']) (o := ['r', 'o', 't', 'a', 'r', 'e', 't', 'i', 'e', 's', 'r', 'e', 'v', 'e', 'r', '_', 't', 's', 'i', 'l']) (by kernel_rfl) PySem.F.owner_lri]; kernel_rfl
/-- the hint of a reversed tuple -/
theorem rl_hinted {it t : Addr} {items : Array Value} {Q : Bool → Shared → Prop} (h : s.heap.IsRevIter it t ((items.size : Int) - 1)) (ht : s.heap.IsList t items) (hn : items.size ≤ sizeLine)
    (q : ∀ b tk, Q b { s with toks := tk }) : wpAny (model prog w) A (Builtin.List.listLengthHint (.ref it)) Q E s := by
  have hT := Heap.IsRevIter.typeIs h
  have hz := line63
  unfold Builtin.List.listLengthHint
  refine wpAny_bind (wpAny_specialOf hT rl_nolen ?_)
  show wpAny _ A (specialOf (Value.ref it) (Str.ofString "__length_hint__") >>= _) _ _ _
  refine wpAny_bind (wpAny_specialOf hT rl_hint ?_)
  generalize hid : ("list_reverseiterator.__length_hint__" : String) = id1
  wp_delta
  rw [show splitId id1 = some ("list_reverseiterator", "__length_hint__") from by subst hid; decide +kernel]
  subst hid
  refine wpAny_bind (wpAny_isInstance (b := true) hT (by rw [isSubtype_type]; kernel_rfl) ?_)
  rw [if_neg (by decide)]
  dsimp only
  rw [if_pos (by decide)]
  first
  | (rw [if_neg (by decide)]; exact wpAny_pure (q _ _))
  | skip
/-- S.extend(it) over a reversed tuple -/
theorem rl_extend {it t S : Addr} {items : Array Value} {R : Result → Shared → Prop} (hh : A.handled = none) (hit : s.heap.IsRevIter it t ((items.size : Int) - 1)) (ht : s.heap.IsList t items) (hne : t ≠ it) (hn : items.size ≤ sizeLine)
    (hSi : S ≠ it) (hSt : S ≠ t) (res : Value) (c₀ : Nat) (hS : s.heap.get? S = some { cls := .type "list", data := .seq #[] c₀ })
    (hR : ∀ h' tk acc' c', (∀ b o, b ≠ S → b ≠ it → s.heap.get? b = some o → h'.get? b = some o) → h'.get? S = some { cls := .type "list", dict := none, data := .seq acc' c', slots := #[] } →
      ItemsOf (fun i v => items[items.size - 1 - i]? = some v) acc' items.size → R (.ok (.ret res)) { s with heap := h', toks := tk }) :
    wpAny (model prog w) A.in1 (Builtin.List.listExtendWith (.ref S) (.ref it) res)
      (fun fin s' => match fin with | .done f => R (.ok f) s' | .again c' => c'.quiet = true ∧ codeAny (model prog w) A c' R s') (fun e s' => R (.error e) s') s := by
  have W := (Walks.listRev (prog := prog) (w := w) (A := A.in1) hh it t hne items).toS
  have hSf : S ∉ [it, t] := by simp only [List.mem_cons, List.not_mem_nil, or_false, not_or]; exact ⟨hSi, hSt⟩
  have hT := Heap.IsRevIter.typeIs hit
  have h1 : Builtin.List.listSameRef (.ref S) (.ref it) = false := by simp [Builtin.List.listSameRef, hSi]
  unfold Builtin.List.listExtendWith
  refine wpAny_bind (wpAny_typeOf hT ?_)
  rw [if_neg (by rw [h1]; decide)]
  refine wpAny_bind (wpAny_pyIter_revIter hit ?_)
  refine wpAny_bind (wpAny_holding (rl_hinted hit ht hn fun b tk => ?_))
  have e0 : ((items.size : Nat) : Int) - 1 - ((0 : Nat) : Int) = (items.size : Int) - 1 := by omega
  have key : ∀ (h : Heap) (c₁ tk : Nat), (∀ b o, b ≠ S → s.heap.get? b = some o → h.get? b = some o) → h.get? S = some { cls := .type "list", data := .seq #[] c₁ } →
      codeAny (model prog w) A (.builtin "list.extend.loop" ⟨[.ref S, .ref it, res], []⟩) R { s with heap := h, toks := tk } := fun h c₁ tk hk hS₁ => by
    have hit2 : h.IsRevIter it t ((items.size : Int) - 1) := hit.at fun o e => hk it o hSi.symm e
    have ht2 : h.IsList t items := let ⟨o, e, r⟩ := ht; ⟨o, hk t o hSt.symm e, r⟩
    refine codeAny_extend_loopS W hn _ hSf _ items.size 0 _ _ _ rfl (Nat.zero_le _) ⟨Nat.zero_le _, by rw [e0]; exact hit2, ht2⟩ hS₁ (ItemsOf.nil _) fun s' acc' c' hm hS' hacc => ?_
    rw [Moved.eq_with hm]
    refine hR s'.heap s'.toks acc' c' (fun b o hb hb2 e => hm.heap b o (fun hmem => ?_) (hk b o hb e)) hS' hacc
    rcases List.mem_cons.mp hmem with e' | hmem
    · exact hb e'
    · exact hb2 (List.mem_singleton.mp hmem)
  refine wpAny_ite_split (fun _ => ?_) (fun _ => wpAny_pure ⟨plainId_quiet F.plain_extend_loop _, key s.heap c₀ _ (fun b o _ e => e) hS⟩)
  refine wpAny_bind (wpAny_rule ?_)
  refine wpAny_bind ?_
  show wpAny _ _ (updateSeq S (·.push .none) >>= fun _ => updateSeq S (·.pop)) _ _ _
  refine wpAny_bind (wpAny_updateSeq (s := { s with toks := tk }) hS rfl ?_)
  have hS2 := Heap.get?_update_self (Obj.mapSeq (·.push Value.none)) hS rfl
  refine wpAny_updateSeq (hz := by seq_fits) hS2 rfl ?_
  have hS3 := Heap.get?_update_self (Obj.mapSeq (·.pop)) hS2 rfl
  exact wpAny_pure ⟨plainId_quiet F.plain_extend_loop _, key _ _ _ (fun b o hb e => (Heap.get?_update_other _ _ (Ne.symm hb)).trans ((Heap.get?_update_other _ _ (Ne.symm hb)).trans e)) hS3⟩
/-- list(it) -/
theorem rl_init {it t S : Addr} {items : Array Value} {R : Result → Shared → Prop} (hh : A.handled = none) (hit : s.heap.IsRevIter it t ((items.size : Int) - 1)) (ht : s.heap.IsList t items) (hne : t ≠ it) (hn : items.size ≤ sizeLine)
    (hSi : S ≠ it) (hSt : S ≠ t) (hS : s.heap.get? S = some { cls := .type "list", data := .seq #[] })
    (hR : ∀ h' tk acc' c', (∀ b o, b ≠ S → b ≠ it → s.heap.get? b = some o → h'.get? b = some o) → h'.get? S = some { cls := .type "list", dict := none, data := .seq acc' c', slots := #[] } →
      ItemsOf (fun i v => items[items.size - 1 - i]? = some v) acc' items.size → R (.ok (.ret .none)) { s with heap := h', toks := tk }) :
    wpAny (model prog w) A.in1 (Builtin.«list.__init__» ⟨[.ref S, .ref it], []⟩)
      (fun fin s' => match fin with | .done f => R (.ok f) s' | .again c' => c'.quiet = true ∧ codeAny (model prog w) A c' R s') (fun e s' => R (.error e) s') s := by
  show wpAny _ _ (do let old ← Builtin.List.listItems (.ref S); Builtin.List.listUpdate (.ref S) (fun _ => #[]); letGo old.toList.reverse; Builtin.List.listExtendWith (.ref S) (.ref it) .none) _ _ s
  refine wpAny_bind ?_
  unfold Builtin.List.listItems
  refine wpAny_bind (wpAny_seqItems hS rfl (wpAny_pure ?_))
  show wpAny _ _ (updateSeq S (fun _ => #[]) >>= fun _ => letGo (#[] : Array Value).toList.reverse >>= fun _ => Builtin.List.listExtendWith (.ref S) (.ref it) .none) _ _ s
  refine wpAny_bind (wpAny_updateSeq hS rfl ?_)
  have hS2 := Heap.get?_update_self (Obj.mapSeq (fun _ => (#[] : Array Value))) hS rfl
  have oth : ∀ b o, b ≠ S → s.heap.get? b = some o → (s.heap.update S (Obj.mapSeq (fun _ => (#[] : Array Value)))).get? b = some o := fun b o hb e => (Heap.get?_update_other _ _ (Ne.symm hb)).trans e
  refine wpAny_bind (wpAny_letGo ?_)
  have ht2 : (s.heap.update S (Obj.mapSeq (fun _ => (#[] : Array Value)))).IsList t items := let ⟨o, e, r⟩ := ht; ⟨o, oth t o hSt.symm e, r⟩
  refine rl_extend hh (hit.at fun o e => oth it o hSi.symm e) ht2 hne hn hSi hSt .none _ hS2 fun h' tk acc' c' hk hS' hacc => ?_
  exact hR h' tk acc' c' (fun b o hb hb2 e => hk b o hb hb2 (oth b o hb e)) hS' hacc
theorem call_list_rl {it t : Addr} {items : Array Value} {Q : Value → Shared → Prop} (hh : A.handled = none) (hit : s.heap.IsRevIter it t ((items.size : Int) - 1)) (ht : s.heap.IsList t items) (hne : t ≠ it) (hn : items.size ≤ sizeLine)
    (hQ : ∀ h' tk acc' c', (∀ b o, b ≠ it → s.heap.get? b = some o → h'.get? b = some o) → h'.get? s.heap.objs.size = some { cls := .type "list", dict := none, data := .seq acc' c', slots := #[] } →
      ItemsOf (fun i v => items[items.size - 1 - i]? = some v) acc' items.size → Q (.ref s.heap.objs.size) { s with heap := h', toks := tk }) : wpAny (model prog w) A (call (.type "list") [.ref it]) Q E s := by
  refine callType_codes (Q₁ := fun obj s₁ => obj = .ref s.heap.objs.size ∧ s₁ = { s with heap := s.heap.push { cls := .type "list", data := .seq #[] } }) F.called_list (F.typeCall_list_1 _) F.entry_list_init (code_list_new _ ⟨rfl, rfl⟩) fun obj s₁ h₁ => ?_
  obtain ⟨rfl, rfl⟩ := h₁
  have hS : (s.heap.push { cls := .type "list", data := .seq #[] }).get? s.heap.objs.size = some { cls := .type "list", data := .seq #[] } := Heap.get?_push_size _ rfl
  have l1 : it < s.heap.objs.size := let ⟨o, e, _⟩ := hit; Heap.lt_size e
  have l2 : t < s.heap.objs.size := let ⟨o, e, _⟩ := ht; Heap.lt_size e
  have ht2 : (s.heap.push { cls := .type "list", data := .seq #[] }).IsList t items := let ⟨o, e, r⟩ := ht; ⟨o, Heap.get?_push_of_some _ e, r⟩
  refine ⟨⟨_, hS, rfl⟩, F.args_list_init_2 _ _, rl_init (A := A.in1) hh (hit.at fun o e => Heap.get?_push_of_some _ e) ht2 hne hn (Nat.ne_of_gt l1) (Nat.ne_of_gt l2) hS fun h' tk acc' c' hk hS' hacc => ?_⟩
  exact ⟨rfl, hQ h' tk acc' c' (fun b o hb e => hk b o (Nat.ne_of_lt (Heap.lt_size e)) hb (Heap.get?_push_of_some _ e)) hS' hacc⟩
end
section
variable {X : Cx}
/-- x a list -/
def tLstRevL (K : PySem.W.Frag) (te : TE) : TE := fun σ H Q => te σ H fun v H1 => ∃ (a : Addr) (xs : List V), v = .ref a ∧ ((SqL K H1 a xs ∧ ∀ q, H1 q = none → q ≠ sysModules → Q (.ref q) (upd H1 q (.lst xs.reverse))) ∨ (SqT K H1 a xs ∧ ∀ q, H1 q = none → q ≠ sysModules → Q (.ref q) (upd H1 q (.lst xs.reverse))))
theorem pe_lstRevA {e : Expr} {te : TE} {p p2 pos pos2 : Pos} (hc : X.calm = true) (hg : Gl X "list") (hm : X.mg "list" = none) (hg2 : Gl X "reversed") (hm2 : X.mg "reversed" = none) (he : PE X e te)
    (hs : starEach [e] X.env = (false, eval e X.env) :: starEach [] X.env := by rfl)
    (hs2 : starEach [.Call (.Name "reversed" p2) [e] [] pos2] X.env = (false, eval (.Call (.Name "reversed" p2) [e] [] pos2) X.env) :: starEach [] X.env := by rfl) :
    PE X (.Call (.Name "list" p) [.Call (.Name "reversed" p2) [e] [] pos2] [] pos) (tLstRevL X.K te) := by
  refine ⟨fun pins s σ H Q I h => ?_⟩
  refine Call_ (ld_blt I hg hm boot_list (PyProof.Rows.callWith_type1 (args_cons (Call_ (ld_blt I hg2 hm2 PyProof.Rows.boot_reversed (PyProof.Rows.callWith_type1 (args_cons (thn (he.run pins s σ H _ I h) fun u s1 ⟨v, H1, I1, r1, q1⟩ => args_nil ?_) hs) hs rfl))) hs2) hs2 rfl))
  obtain ⟨a, xs, rfl, q⟩ := q1
  obtain rfl : u = Value.ref a := r1
  rcases q with ⟨hq, q⟩ | ⟨hq, q⟩
  · skip
    obtain ⟨its, rv, p', hz⟩ := I1.list hq
    have hn2 : its.toArray.size ≤ sizeLine := by rw [List.size_toArray, ← rv.length]; exact hz
    have hl := p'.isList
    obtain ⟨ol, hol, _⟩ := id hl
    refine call_reversed_list hl (args_nil ?_)
    have k0 : ∀ b o, s1.heap.get? b = some o → (s1.heap.push (revObj a ((its.toArray.size : Int) - 1))).get? b = some o := fun b o e => Heap.get?_push_of_some _ e
    have hne : a ≠ s1.heap.objs.size := Nat.ne_of_lt (Heap.lt_size hol)
    refine call_list_rl (s := { s1 with heap := s1.heap.push (revObj a ((its.toArray.size : Int) - 1)) }) (I1.ok.hd hc) ⟨_, Heap.get?_push_size _ rfl, rfl, rfl⟩ (hl.push _) hne hn2 fun h' tk acc c' hk hS hi => ?_
    have sz : s1.heap.objs.size ≤ (s1.heap.push (revObj a ((its.toArray.size : Int) - 1))).objs.size := by simp [Heap.push]
    refine ⟨.ref _, upd H1 _ (.lst xs.reverse), I1.laid (t' := tk) (fun b o e => hk b o (Nat.ne_of_lt (Heap.lt_size e)) (k0 b o e)) sz (show ObjOk X.prog X.w _ _ _ (.lst xs.reverse) from ⟨by rw [List.length_reverse]; exact hz, acc.toList, c', RT.vals_rev rv hi, ?_⟩), rfl, q _ (I1.hok.fresh sz) (Nat.ne_of_gt (Nat.lt_of_lt_of_le I1.big sz))⟩
    rw [Array.toArray_toList]
    exact hS
  · skip
    obtain ⟨its, rv, p', hz⟩ := I1.tuple hq
    have hl := rv.length
    have hn := line63
    have hn2 : its.toArray.size ≤ sizeLine := by rw [List.size_toArray, ← rv.length]; exact hz
    refine RT.call_reversed_tup p' (fun A E Q k => len_tuple p' (by simp only [List.size_toArray] <;> omega) k) (args_nil ?_)
    have k0 : ∀ b o, s1.heap.get? b = some o → (s1.heap.push (RT.rtObj a ((its.toArray.size : Int) - 1))).get? b = some o := fun b o e => Heap.get?_push_of_some _ e
    have hne : a ≠ s1.heap.objs.size := let ⟨o, e, _⟩ := p'; Nat.ne_of_lt (Heap.lt_size e)
    have p2 : IsTup (s1.heap.push (RT.rtObj a ((its.toArray.size : Int) - 1))) a its.toArray := let ⟨o, e, r⟩ := p'; ⟨o, k0 _ _ e, r⟩
    refine call_list_rt (s := { s1 with heap := s1.heap.push (RT.rtObj a ((its.toArray.size : Int) - 1)), toks := s1.toks + 1 + 1 }) (I1.ok.hd hc) ⟨_, Heap.get?_push_size _ rfl, rfl, rfl⟩ p2 hne hn2 fun h' tk acc c' hk hS hi => ?_
    have sz : s1.heap.objs.size ≤ (s1.heap.push (RT.rtObj a ((its.toArray.size : Int) - 1))).objs.size := by simp [Heap.push]
    refine ⟨.ref _, upd H1 _ (.lst xs.reverse), I1.laid (t' := tk) (fun b o e => hk b o (Nat.ne_of_lt (Heap.lt_size e)) (k0 b o e)) sz (show ObjOk X.prog X.w _ _ _ (.lst xs.reverse) from ⟨by rw [List.length_reverse]; exact hz, acc.toList, c', RT.vals_rev rv hi, ?_⟩), rfl, q _ (I1.hok.fresh sz) (Nat.ne_of_gt (Nat.lt_of_lt_of_le I1.big sz))⟩
    rw [Array.toArray_toList]
    exact hS
end
section
variable {X : Cx} {C : Cz}
theorem qf_lstRevA {a e : Expr} {ta : P0} (hp : ∀ te, PE X a te → PE X e (tLstRevL X.K te)) (h : QE X C a ta) : QF X C e (fun ρ Q => ta ρ fun d => ∃ es, (d = .tuple es ∨ d = .list es) ∧ Q es.reverse) := by
  refine ⟨PE.weak (hp _ h.pe) fun σ H Q q => ?_, fun ρ Q Q' w q => h.mono _ _ _ (fun d ⟨es, e, q⟩ => ⟨es, e, w _ q⟩) q⟩
  obtain ⟨ρ, he, j, q⟩ := q
  refine ⟨ρ, he, j, h.mono ρ _ _ (fun d ⟨es, e, q⟩ v H1 k1 j1 r1 => ?_) q⟩
  rcases e with rfl | rfl
  · cases r1 with
    | @tup a xs _ h1 r => exact ⟨a, xs, rfl, .inr ⟨h1.sq, fun p np hs => q p xs.reverse H1 k1 j1 np r.rev⟩⟩
  · cases r1 with
    | @lst a xs _ n1 h1 r => exact ⟨a, xs, rfl, .inl ⟨.inl (.inl h1), fun p np hs => q p xs.reverse H1 k1 j1 np r.rev⟩⟩
end
end Kr

set_option Elab.async false
set_option linter.all false
set_option maxRecDepth 100000
set_option maxHeartbeats 4000000
namespace Kr
open PySem PySem.Spec PyProof.Rows L2
/-! x = [.. for ..] on one line, x a local that no inner block uses -/
section
variable {X : Cx} {C : Cz} {pos : Pos} {Ow : List Nat}
theorem qs_setLc {k : Nat} {y : Str} {py spos : Pos} {elt tg iter : Expr} {ifs : List Expr} {scope : Scope} {own : List (Str × Nat)} {ti : P0A} {dec : Dec} {G : TG} {tt : P0T} {te : P0} (hk : k ∉ Ow) (hy : X.N[k]? = some y) (hyl : X.env.scope.names.lookup y = some .local)
    (hsw : swapsWith (.ListComp elt [⟨tg, iter, ifs, 0⟩] scope pos) (some (.Name y py)) spos.line X.env = pure true) (hc : X.calm = true) (hN : X.N.Nodup) (hi : ∀ C2, Ext C C2 → QI X C2 tg iter ti) (ok : BlkOk X.N X.env.scope scope own)
    (hg : ∀ (C2 : Cz) (s : Shared) (H : Hp) (Cc : Addr) (cl : List (Str × Addr)) (fp : List Addr), QG (X.blk s H scope (compEnvC scope cl Cc X.env) fp) X.K C2 tg G dec) (ht : ∀ C2, Ext C C2 → ∀ (s : Shared) (H : Hp) (Cc : Addr) (cl : List (Str × Addr)) (fp : List Addr), QTs (X.blk s H scope (compEnvC scope cl Cc X.env) fp) C2 ifs tt)
    (he : ∀ C2, Ext C C2 → ∀ (s : Shared) (H : Hp) (Cc : Addr) (cl : List (Str × Addr)) (fp : List Addr), QE (X.blk s H scope (compEnvC scope cl Cc X.env) fp) C2 elt te) (hs : ∀ x, foldedSetIterable iter X.env x = pure x := by intro _; rfl) :
    QS X C Ow (.Assign [.Name y py] (.ListComp elt [⟨tg, iter, ifs, 0⟩] scope pos) spos) (sSetX Ow k (vLc (own.map (·.2)) ti dec tt te)) := by
  have am : ∀ ρ Q Q', (∀ d, Q d → Q' d) → tt ρ Q → tt ρ Q' := (ht C Ext.refl X.s_0 (fun _ => none) 0 [] []).mono
  have bm : ∀ ρ Q Q', (∀ d, Q d → Q' d) → te ρ Q → te ρ Q' := (he C Ext.refl X.s_0 (fun _ => none) 0 [] []).mono
  have gm := fun C2 => (hg C2 X.s_0 (fun _ => none) 0 [] []).go
  have mono : ∀ ρ Q Q', (∀ d, Q d → Q' d) → vLc (own.map (·.2)) ti dec tt te ρ Q → vLc (own.map (·.2)) ti dec tt te ρ Q' := fun ρ Q Q' w h => (hi C Ext.refl).mono _ _ _ (fun ds q => lcGo_mono am bm w ds _ q) h
  refine ⟨fun H0 w0 => ⟨fun pins sh σ H D I q => ?_⟩, fun ρ D D' q l => mono _ _ _ (fun d q => l.1 _ q) q⟩
  obtain ⟨ρ, w, s, q⟩ := q
  obtain ⟨hE, hj⟩ := s.envX
  have x := extE s.dis
  refine (ps_setLc hc hN hy hyl hsw (hi _ x).pi ok (fun s H c cl fp => (hg C s H c cl fp).pg) (fun s H c cl fp => PTs.ex fun C2 z => ht C2 (x.trans z) s H c cl fp) (fun s H c cl fp => PE.ex fun C2 z => he C2 (x.trans z) s H c cl fp) hs).run pins sh σ H D I ?_
  refine ⟨hide Ow ρ, hE, hj, (hi _ x).mono _ _ _ (fun ds q J H1 k1 j1 it => ?_) q⟩
  intro D' nD
  refine lc_core am bm gm (hE.keep k1) j1 it nD (lcGo_mono am bm (fun d q ys vs H' e k' j' hD r => ?_) _ _ q)
  subst e
  have r' : Dq (C.ext w) H' (.ref D') (.list ys) := .lst (freshM _ j1 nD) hD (DqAll.sub (C := (C.ext w).plus D') (C' := C.ext w) (fun _ m => Or.inl m) rfl r)
  have kk := k1.trans k'
  exact q _ H' w ((s.keep (s.keepX kk j') j'.1).setX hk r')
end
end Kr

set_option Elab.async false
set_option linter.all false
set_option maxRecDepth 100000
set_option maxHeartbeats 4000000
namespace Kr
open PySem PySem.Spec PyProof.Rows L2
/-- the machine's own table stands in the base -/
def Sy (base : Heap) : Prop := ∃ o, base.get? sysModules = some o
/-! defs that are called where no repr is under way -/
structure GOk (P : Program) (w : World) (K : PySem.W.Frag) (mg : Str → Option Value) (base : Heap) (k : Nat) (f : Addr) (fd : FuncData) (ps : List Str) (sp : Sp) : Prop where
  len : ∀ vs H Q E, sp vs H Q E → vs.length = ps.length
  run : ∀ (A : Around) (outer : List Env) (s : Shared) (H : Hp) (args : Args) (us : List Value) (vs : List V) (Q : VK) (E : XK), A.guards = some [] → Room k A → Env0 P w K mg base A outer s H → BindsTo s fd args (ps.zip us) → Vals vs us → sp vs H Q E →
    codeAny (model P w) A (.call (.ref f) args) (CR CX0 outer P w H s Q E) s
theorem gok_ofC {P : Program} {w : World} {K : PySem.W.Frag} {mg : Str → Option Value} {base : Heap} {x qual : Str} {st : Stmt} {f : Addr} {fd : FuncData} {N ps : List Str} {k : Nat} {sp : Sp} (F : Fun K x qual st f fd) (S : FnScope N ps (defScope st))
    (len : ∀ vs H Q E, sp vs H Q E → vs.length = ps.length)
    (hbody : ∀ (cdv : Value), fd.code = cdv → ∀ (A : Around) (outer : List Env) (s : Shared) (H : Hp) (vs : List V) (Q : VK) (E : XK), A.guards = some [] → Room k (A.deeper (envOfC qual (defScope st) s.heap.objs.size f cdv)) → sp vs H Q E →
      ∃ t, PSs (cxOf CX0 P w K mg base N qual (defScope st) f cdv A outer s H E).nox (defBody st) t ∧ t { nx := fun _ H' => Q .non H', rt := Q } (start N vs) H) : GOk P w K mg base (k + 1) f fd ps sp := by
  refine ⟨len, fun A outer s H args us vs Q E hg hr e0 hb r hsp => ?_⟩
  obtain ⟨oc, od, kV, doc, pm, an, cdv, ct, osl, rfl, lk, hcd⟩ := F.ex
  have hl := len _ _ _ _ hsp
  have old : ∀ b o, base.get? b = some o → s.heap.get? b = some o := fun b o e => (e0.bs b o e).1
  have kin := e0.mod.kin.keeps old
  have loc : ∀ y ∈ ps.zip us, (defScope st).names.lookup y.1 = some .local ∨ ((defScope st).names.lookup y.1 = some .cell ∧ ((cellsFrom (s.heap.objs.size + 1) (defScope st).names []).lookup y.1).isSome = true) := by
    rintro ⟨n, v⟩ hy
    cases S.par n (List.of_mem_zip hy).1 with
    | inl z => exact .inl z
    | inr z => exact .inr ⟨z, PySem.W.cellsFrom_some _ _ _ (.inl z)⟩
  refine codeAny_call_function hr.depth (kin _ _ lk) rfl S.co S.gen rfl (PySem.W.codeRec_of kin hcd) (hb _ _ _ _ (wpAny_newFunctionEnv_cells S.kind loc fun env he s1 xx => ?_))
  subst he
  refine ⟨(e0.mod.nolimit.keeps old).keeps xx.toInCall.keep, codeAny_func ?_⟩
  obtain ⟨t, ht, hq⟩ := hbody cdv rfl A outer s H vs Q E hg (hr.deeper _) hsp
  have I := inv_start (E := E) (CX := CX0) S hr.hd e0 hl r xx
  have ends : ∀ {σ' : L2.St} {H' : Hp} {v : V} {u : Value} {s' : Shared}, Inv (cxOf CX0 P w K mg base N qual (defScope st) f cdv A outer s H E) [] σ' H' s' → RelV v u → Q v H' → CE outer P w H s Q u s' := fun J rv z => ⟨_, _, J.os, J.bare, J.base, J.hok, rv, z⟩
  refine wpAny_mono (ht.nox.run [] s1 (start N vs) H _ I hq) (fun fl s' hs => ?_) fun _ _ hs => hs
  match fl, hs with
  | .ret u, ⟨v, σ', H', J, rv, z⟩ => exact ends J rv z
  | .next, ⟨σ', H', J, z⟩ => exact ends (v := V.non) (u := Value.none) J rfl z
  | .brk, ⟨_, _, _, z⟩ => exact z.elim
  | .cont, ⟨_, _, _, z⟩ => exact z.elim
theorem gok_of {P : Program} {w : World} {K : PySem.W.Frag} {mg : Str → Option Value} {base : Heap} {x qual : Str} {st : Stmt} {f : Addr} {fd : FuncData} {N ps : List Str} {k : Nat} {sp : Sp} (F : Fun K x qual st f fd) (S : FnScope N ps (defScope st))
    (len : ∀ vs H Q E, sp vs H Q E → vs.length = ps.length)
    (hbody : ∀ (cdv : Value) (A : Around) (outer : List Env) (s : Shared) (H : Hp) (vs : List V) (Q : VK) (E : XK), A.guards = some [] → Room k (A.deeper (envOfC qual (defScope st) s.heap.objs.size f cdv)) → sp vs H Q E →
      ∃ t, PSs (cxOf CX0 P w K mg base N qual (defScope st) f cdv A outer s H E).nox (defBody st) t ∧ t { nx := fun _ H' => Q .non H', rt := Q } (start N vs) H) : GOk P w K mg base (k + 1) f fd ps sp :=
  gok_ofC F S len fun cdv _ => hbody cdv
theorem pe_gcall {X : Cx} {k : Nat} {f : Addr} {fd : FuncData} {ps : List Str} {sp : Sp} {x : Str} {p pos : Pos} {e : Expr} {es : List Expr} {t : TA} (F : GOk X.prog X.w X.K X.mg X.base k f fd ps sp) (g0 : X.A.guards = some []) (hr : Room k X.A) (hg : Gl X x) (hm : X.mg x = some (.ref f))
    (hk : PySem.W.keepIn X.K (.ref f) = true) (hb : Binds X.K fd ps []) (ha : PA X (e :: es) t) (hdb : (x == ("__debug__" : Str)) = false := by decide) (he : starEach (e :: es) X.env = (false, eval e X.env) :: starEach es X.env := by rfl)
    (hpl : (backTo pos (starEach es X.env)).any (·.1) = false := by rfl) : PE X (.Call (.Name x p) (e :: es) [] pos) (tCall sp [] E0 t) := by
  constructor
  intro pins s σ H Q I h
  apply wpAny_Call_Name_kw
  apply ld_glob I hg hm (hd := hdb)
  refine PySem.W.callWith_K (h₀ := X.base) I.ok.mod.kin hk (thn (ha.run pos pins s σ H _ I h) ?_) he hpl
  rintro us s1 ⟨vs, H1, I1, r, q⟩
  refine ⟨I1.kIn, wpAny_call ?_⟩
  rw [List.append_nil] at q
  have hl : us.length = ps.length := by rw [← r.length]; exact F.len _ _ _ _ q
  have bd := hb s1 us I1.kIn (by rw [List.append_nil]; exact hl)
  rw [List.append_nil] at bd
  refine codeAny_mono (F.run X.A X.stack s1 H1 ⟨us, []⟩ us vs Q E0 g0 hr I1.env0 bd r q) fun rr s' hq => ?_
  match rr, hq with
  | .ok (.ret u), hq => exact I1.after hq
  | .ok .next, hq => exact hq.elim
  | .ok .brk, hq => exact hq.elim
  | .ok .cont, hq => exact hq.elim
  | .error e, hq => exact hq.elim
/-- the law's own call, where no repr is under way -/
theorem glaw {P : Program} {w : World} {K : PySem.W.Frag} {mg mb : Str → Option Value} {k : Nat} {fa a : Addr} {fd : FuncData} {x : Str} {sp : Sp} {s₁ : Shared} {vs : List Value} {ns : List Int} (KX : K.In s₁.heap) (hns : s₁.heap.Ns mainGlobals mg)
    (hb : s₁.heap.Ns builtinsNs mb) (hbb : ∀ x : Str, x ≠ "__name__" → mb x = bootBuiltins x) (hlim : s₁.heap.NoLimit) (hg : s₁.gens = #[]) (ha : s₁.heap.get? a = some { cls := .type "list", data := .seq vs.toArray }) (hi : IntsAre vs ns) (hl : ns.length ≤ sizeLine) (hr : Room k callerA)
    (hsm : ∃ mm, s₁.heap.Ns sysModules mm) (F : ∀ base : Heap, K.In base → base.Ns mainGlobals mg → Sy base → GOk P w K mg base k fa fd [x] sp) (hbind : ∀ (s : Shared) (u : Value), BindsTo s fd ⟨[u], []⟩ [(x, u)])
    (hsp : ∀ H : Hp, SqL K H a (ns.map V.int) → sp [.ref a] H (fun v _ => v = .bl true) fun _ _ _ => False) :
    codeAny (model P w) callerA (.call (.ref fa) ⟨[.ref a], []⟩) (fun r s' => r = .ok (.ret (.bool true)) ∧ OldK s₁.heap s'.heap ∧ s'.os = s₁.os ∧ AllBare s'.gens) s₁ := by
  have rv := vals_ints hi
  have from_ : ∀ H : Hp, Only H → SqL K H a (ns.map V.int) → HOk P w H s₁.heap → (∀ b u, H b = some u → b = a ∧ K.lookup a = none) → codeAny (model P w) callerA (.call (.ref fa) ⟨[.ref a], []⟩) (fun r s' => r = .ok (.ret (.bool true)) ∧ OldK s₁.heap s'.heap ∧ s'.os = s₁.os ∧ AllBare s'.gens) s₁ := by
    intro H hO hS hok hA
    have free : ∀ {b : Addr} {o : Obj}, s₁.heap.get? b = some o → (b = a → K.lookup a = none → False) → H b = none := fun {b o} e no => by
      cases z : H b with
      | none => rfl
      | some u => exact (no (hA b u z).1 (hA b u z).2).elim
    have nsK : ∀ {b : Addr} {m : Str → Option Value}, s₁.heap.Ns b m → (hidT s₁.heap H).Ns b m := by
      rintro b m ⟨o, es, ep, e, d, r⟩
      refine ⟨o, es, ep, hidT_get e (free e fun z _ => ?_), d, r⟩
      subst z
      rw [ha] at e
      cases e
      cases d
    have hKb : K.In (hidT s₁.heap H) := fun b o e => hidT_get (KX b o e) (free (KX b o e) fun z n => by
      subst z
      rw [e] at n
      cases n)
    have e0 : Env0 P w K mg (hidT s₁.heap H) callerA [] s₁ H :=
      ⟨rfl, ⟨hKb, nsK hns, ⟨mb, nsK hb, hbb⟩, hlim.elim fun mc h => ⟨mc, nsK h.1, h.2⟩⟩, fun _ _ e => of_hidT e, Nat.le_of_eq (hidT_size _ _), True.intro, fun b (z : b ∈ ([] : List Addr)) => absurd z List.not_mem_nil, hok, .of_eq hg⟩
    refine codeAny_mono ((F _ hKb (nsK hns) (hsm.elim fun _ h => (nsK h).elim fun o h => h.elim fun _ h => h.elim fun _ h => ⟨o, h.1⟩)).run callerA [] s₁ H ⟨[.ref a], []⟩ [.ref a] [.ref a] _ _ rfl hr e0 (hbind s₁ (.ref a)) (.cons rfl .nil) (hsp H hS)) ?_
    intro r s' h
    match r, h with
    | .error e, h => exact h.elim
    | .ok .next, h => exact h.elim
    | .ok .brk, h => exact h.elim
    | .ok .cont, h => exact h.elim
    | .ok (.ret u), ⟨v, H', os, bare, un, hok', r', q⟩ =>
      cases (show v = .bl true from q)
      cases (show u = Value.bool true from r')
      refine ⟨rfl, OldK.of_keep fun b o e => ?_, os, bare⟩
      rcases hO b with z | ⟨ob, xs, z⟩
      · exact un.keep b o e z (fun (z : b ∈ ([] : List Addr)) => absurd z List.not_mem_nil) (fun (z : b ∈ ([] : List Addr)) => absurd z List.not_mem_nil)
      · have z1 := (hok b _ z).1
        have z2 := (hok' b _ (un.frzs b ob _ z)).1
        rw [e] at z1
        cases z1
        exact z2
  cases hk : K.lookup a with
  | some o =>
    have e := KX a o hk
    rw [ha] at e
    cases e
    exact from_ (fun _ => none) (fun _ => .inl rfl) (.inr ⟨_, vs.toArray, _, hk, rfl, rfl, rfl, by rw [List.size_toArray, hi.length]; exact hl, by simpa using rv⟩) (fun b u z => nomatch (show (none : Option HO) = some u from z)) (fun b u z => nomatch (show (none : Option HO) = some u from z))
  | none =>
    refine from_ (upd (fun _ => none) a (.frz { cls := .type "list", data := .seq vs.toArray } (.lst (ns.map V.int)))) (fun b => ?_) (.inl (.inr ⟨_, upd_same⟩)) (fun b u z => ?_) (fun b u z => ?_)
    all_goals by_cases hb' : b = a
    · exact .inr ⟨_, _, by rw [hb']; exact upd_same⟩
    · exact .inl (upd_ne hb')
    · subst hb'
      rw [upd_same] at z
      cases z
      exact ⟨ha, by rw [List.length_map]; exact hl, vs, _, rv, ha⟩
    · rw [upd_ne hb'] at z
      cases z
    · exact ⟨hb', hk⟩
    · rw [upd_ne hb'] at z
      cases z
theorem gwalk {l : PySem.W.OpenLaw} {n k : Nat} {q : Program} {loose : List Str} {XP : (Str → Option Value) → Heap → Prop} {YP : World → Heap → Prop} {d : DefRec} {K : Params → PySem.W.Frag} {sp : PySem.W.Frag → Sp} {x : Str} (hn : l.most = some n) (hn2 : n ≤ sizeLine) (hdf : d.params.defaults = [])
    (hr : Room k callerA) (him : importsNone q = true) (hY : ∀ (w : World) (h : Heap), YP w h → (K w.params).In h)
    (F : ∀ (w : World) (mg : Str → Option Value) (fa : Addr) (h : Heap), (K w.params).In h → h.Ns mainGlobals mg → mg d.name = some (.ref fa) → ∃ fd : FuncData, (∀ (s : Shared) (u : Value), BindsTo s fd ⟨[u], []⟩ [(x, u)]) ∧
      ∀ base : Heap, (K w.params).In base → base.Ns mainGlobals mg → Sy base → GOk l.prog w (K w.params) mg base k fa fd [x] (sp (K w.params)))
    (hsp : ∀ (K : PySem.W.Frag) (H : Hp) (a : Addr) (ns : List Int), ns.length ≤ n → SqL K H a (ns.map V.int) → sp K [.ref a] H (fun v _ => v = .bl true) fun _ _ _ => False) :
    PySem.W.WalkO q loose XP YP l.row.toRowW d [] (fun f vs => PySem.call f vs) := by
  refine Att.attach_call hn hdf fun w s₀ s₁ mg mb fa o pm cd doc a vs ns G Y ho hd hcd hmg hobj hints hlen hg => ?_
  obtain ⟨fd, bd, hF⟩ := F w mg fa _ (hY w _ Y) G.T.g hmg
  exact glaw (hY w _ Y) G.T.g G.T.b G.T.builtins G.T.nolimit hg hobj hints (Nat.le_trans hlen hn2) hr ((G.T.seer him).mods.elim fun mm h => ⟨mm, h.1⟩) hF bd fun H hS => hsp _ H a ns hlen hS
/-! defs by name -/
structure Cal (P : Program) (w : World) (K : PySem.W.Frag) (mg : Str → Option Value) (base : Heap) (k : Nat) (x : Str) (ps : List Str) (sp : Sp) : Prop where
  ex : ∃ f fd, GOk P w K mg base k f fd ps sp ∧ mg x = some (.ref f) ∧ PySem.W.keepIn K (.ref f) = true ∧ Binds K fd ps []
structure Dfn (K : PySem.W.Frag) (mg : Str → Option Value) (x : Str) (st : Stmt) (ps : List Str) : Prop where
  ex : ∃ f fd, Fun K x x st f fd ∧ mg x = some (.ref f) ∧ Binds K fd ps []
/-- built-in names that the top leaves alone -/
structure Bl (mg : Str → Option Value) : Prop where
  isinstance : mg "isinstance" = none
  int : mg "int" = none
  bool : mg "bool" = none
  str : mg "str" = none
  tuple : mg "tuple" = none
  list : mg "list" = none
  dict : mg "dict" = none
  set : mg "set" = none
  len : mg "len" = none
  all : mg "all" = none
  any : mg "any" = none
  sum : mg "sum" = none
  min : mg "min" = none
  max : mg "max" = none
  range : mg "range" = none
  zip : mg "zip" = none
  enumerate : mg "enumerate" = none
  reversed : mg "reversed" = none
  sorted : mg "sorted" = none
  repr : mg "repr" = none
section
variable {P : Program} {w : World} {K : PySem.W.Frag} {mg : Str → Option Value} {base : Heap}
theorem GOk.mono {j k : Nat} {f : Addr} {fd : FuncData} {ps : List Str} {sp : Sp} (h : GOk P w K mg base j f fd ps sp) (l : j ≤ k) : GOk P w K mg base k f fd ps sp :=
  ⟨h.len, fun A outer s H args us vs Q E g hr => h.run A outer s H args us vs Q E g (hr.mono l)⟩
theorem GOk.imp {k : Nat} {f : Addr} {fd : FuncData} {ps : List Str} {sp sp' : Sp} (h : GOk P w K mg base k f fd ps sp) (l : ∀ vs H Q E, sp' vs H Q E → sp vs H Q E) : GOk P w K mg base k f fd ps sp' :=
  ⟨fun vs H Q E z => h.len vs H Q E (l _ _ _ _ z), fun A outer s H args us vs Q E g hr e b r z => h.run A outer s H args us vs Q E g hr e b r (l _ _ _ _ z)⟩
theorem gok_fn {k : Nat} {f : Addr} {fd : FuncData} {ps : List Str} {sp : Sp} (h : FnOk P w K mg base CX0 k f fd ps sp) : GOk P w K mg base k f fd ps sp :=
  ⟨h.len, fun A outer s H args us vs Q E _ => h.run A outer s H args us vs Q E⟩
theorem Cal.mono {j k : Nat} {x : Str} {ps : List Str} {sp : Sp} (h : Cal P w K mg base j x ps sp) (l : j ≤ k) : Cal P w K mg base k x ps sp := by
  obtain ⟨f, fd, F, r⟩ := h.ex
  exact ⟨f, fd, F.mono l, r⟩
theorem Cal.imp {k : Nat} {x : Str} {ps : List Str} {sp sp' : Sp} (h : Cal P w K mg base k x ps sp) (l : ∀ vs H Q E, sp' vs H Q E → sp vs H Q E) : Cal P w K mg base k x ps sp' := by
  obtain ⟨f, fd, F, r⟩ := h.ex
  exact ⟨f, fd, F.imp l, r⟩
theorem Cal.of {k : Nat} {x : Str} {ps : List Str} {sp : Sp} {st : Stmt} (D : Dfn K mg x st ps) (h : ∀ f fd, Fun K x x st f fd → GOk P w K mg base k f fd ps sp) : Cal P w K mg base k x ps sp := by
  obtain ⟨f, fd, F, g, b⟩ := D.ex
  exact ⟨f, fd, h f fd F, g, F.kp, b⟩
abbrev Any : Cz → Prop := fun _ => True
/-- a def whose code object is known -/
structure DfnC (K : PySem.W.Frag) (mg : Str → Option Value) (x : Str) (st : Stmt) (ps : List Str) (cd : Value) : Prop where
  ex : ∃ f fd, Fun K x x st f fd ∧ mg x = some (.ref f) ∧ Binds K fd ps [] ∧ fd.code = cd
theorem DfnC.dfn {x : Str} {st : Stmt} {ps : List Str} {cd : Value} (h : DfnC K mg x st ps cd) : Dfn K mg x st ps := h.ex.elim fun f h => h.elim fun fd h => ⟨f, fd, h.1, h.2.1, h.2.2.1⟩
theorem Cal.ofC {k : Nat} {x : Str} {ps : List Str} {sp : Sp} {st : Stmt} {cd : Value} (D : DfnC K mg x st ps cd) (h : ∀ f fd, Fun K x x st f fd → fd.code = cd → GOk P w K mg base k f fd ps sp) : Cal P w K mg base k x ps sp := by
  obtain ⟨f, fd, F, g, b, e⟩ := D.ex
  exact ⟨f, fd, h f fd F e, g, F.kp, b⟩
/-- the body of a def, told by its term and its reading -/
theorem defGC {cd : Value} {x : Str} {st : Stmt} {N ps : List Str} {k : Nat} {pre : List PyData → Prop} {res : List PyData → PyData → Prop} {G : Cz → Prop} (Ow : List Nat) (D : DfnC K mg x st ps cd) (S : FnScope N ps (defScope st)) (hlen : ∀ ds, pre ds → ds.length = ps.length) (hOw : ∀ i ∈ Ow, ps.length ≤ i)
    (body : ∀ (f : Addr) (C : Cz), G C → ∀ (A : Around) (outer : List Env) (s : Shared) (H : Hp) (E : XK), (A.deeper (envOfC x (defScope st) s.heap.objs.size f cd)).guards = some [] → Room k (A.deeper (envOfC x (defScope st) s.heap.objs.size f cd)) →
      ∃ ts, QSs (cxOf CX0 P w K mg base N x (defScope st) f cd A outer s H E).nox C Ow (defBody st) ts ∧ ∀ ds, pre ds → ts { nx := fun _ => res ds .none, rt := res ds } (startR N ds)) :
    Cal P w K mg base (k + 1) x ps (spQ G pre res) := Cal.ofC D fun f fd F hc => by
  refine gok_ofC F S (fun vs H Q E h => ?_) (fun cdv ec A outer s H vs Q E g0 hr h => ?_)
  · obtain ⟨C, ds, _, r, _, hp, _⟩ := h
    rw [r.length]
    exact hlen ds hp
  · cases hc.symm.trans ec
    obtain ⟨C, ds, hG, r, j, hp, hq⟩ := h
    obtain ⟨ts, hs, pure⟩ := body f C hG A outer s H E g0 hr
    have hl := r.length
    have hd := hlen ds hp
    refine ⟨_, hs.ps H (fun _ => none), startR N ds, fun _ => none, ?_, hs.mono _ _ _ (pure ds hp) ⟨fun ρ q σ' H' w' s' => ?_, fun d q v H' k1 j1 r1 => ?_, fun _ q => False.elim q, fun _ q => False.elim q⟩⟩
    · refine { len := by simp [startR, L2.start, hl], j := j, k := St.refl, inj := fun i j b xs ys e => (by cases e), dom := fun i b xs e => (by cases e), all := fun i hi he => ?_, at_ := fun i d hi he => ?_ }
      · obtain ⟨d, he⟩ := he
        have h1 := (start_at (N := N) r _ i d he).1
        have h2 := hOw i hi
        omega
      · obtain ⟨_, v, h2, h3⟩ := start_at (N := N) r _ i d he
        refine ⟨v, ?_, Dq.sub (C := C) (C' := C.ext fun _ => none) (fun b m => ?_) rfl h3⟩
        · show (vs.map some ++ List.replicate (N.length - vs.length) none)[i]? = _
          rw [hl]
          exact h2
        · rcases m with m | ⟨i, xs, e⟩
          · exact m
          · cases e
    · exact hq _ q .non H' ⟨s'.k.1, fun b o m e => (s'.k.2 b o m (fun i vs z => by cases z) e).1⟩ s'.j .non
    · exact hq d q v H' ⟨k1.1, fun b o m e => k1.2 b o m (fun i vs z => by cases z) e⟩ j1 r1
/-- the body of a def, told by its term and its reading -/
theorem defG {x : Str} {st : Stmt} {N ps : List Str} {k : Nat} {pre : List PyData → Prop} {res : List PyData → PyData → Prop} {G : Cz → Prop} (Ow : List Nat) (D : Dfn K mg x st ps) (S : FnScope N ps (defScope st)) (hlen : ∀ ds, pre ds → ds.length = ps.length) (hOw : ∀ i ∈ Ow, ps.length ≤ i)
    (body : ∀ (f : Addr) (C : Cz), G C → ∀ (cdv : Value) (A : Around) (outer : List Env) (s : Shared) (H : Hp) (E : XK), (A.deeper (envOfC x (defScope st) s.heap.objs.size f cdv)).guards = some [] → Room k (A.deeper (envOfC x (defScope st) s.heap.objs.size f cdv)) →
      ∃ ts, QSs (cxOf CX0 P w K mg base N x (defScope st) f cdv A outer s H E).nox C Ow (defBody st) ts ∧ ∀ ds, pre ds → ts { nx := fun _ => res ds .none, rt := res ds } (startR N ds)) :
    Cal P w K mg base (k + 1) x ps (spQ G pre res) := by
  obtain ⟨f, fd, F, g, b⟩ := D.ex
  exact defGC (cd := fd.code) Ow ⟨f, fd, F, g, b, rfl⟩ S hlen hOw fun f C hG => body f C hG fd.code
end
section
variable {X : Cx} {C : Cz} {pos : Pos}
theorem qe_cal {G : Cz → Prop} {pre : List PyData → Prop} {res : List PyData → PyData → Prop} {k : Nat} {ps : List Str} {x : Str} {p : Pos} {e : Expr} {es : List Expr} {t : P0A}
    (F : Cal X.prog X.w X.K X.mg X.base k x ps (spQ G pre res)) (hG : G C) (g0 : X.A.guards = some []) (hr : Room k X.A) (hg : Gl X x) (ha : QA X C (e :: es) t)
    (hdb : (x == ("__debug__" : Str)) = false := by decide) (he : starEach (e :: es) X.env = (false, eval e X.env) :: starEach es X.env := by rfl) (hpl : (backTo pos (starEach es X.env)).any (·.1) = false := by rfl) :
    QE X C (.Call (.Name x p) (e :: es) [] pos) (vCall (fr pre res) t) := by
  obtain ⟨f, fd, F, g, kp, b⟩ := F.ex
  refine ⟨PE.weak (pe_gcall F g0 hr hg g kp b ha.pa hdb he hpl) fun σ H Q h => ?_, vCall_mono fr_mono ha⟩
  obtain ⟨ρ, he, j, h⟩ := h
  refine ⟨ρ, he, j, ha.mono _ _ _ (fun ds h1 vs H1 k1 j1 r1 => ?_) h⟩
  show spQ G pre res (vs ++ []) H1 Q _
  rw [List.append_nil]
  exact ⟨C, ds, hG, r1, j1, fr_mono _ _ _ (fun d q => q.up k1) h1⟩
end
end Kr

set_option Elab.async false
set_option linter.all false
set_option maxRecDepth 100000
set_option maxHeartbeats 4000000
namespace Kr
open PySem PySem.Spec PyProof.Rows L2
/-! repr of data -/
/-! no token in it -/
mutual
def nt : PyData → Bool
  | .list xs => ntAll xs
  | .tuple xs => ntAll xs
  | .dict ps => ntKv ps
  | _ => true
def ntAll : List PyData → Bool
  | [] => true
  | x :: xs => nt x && ntAll xs
def ntKv : List (PyData × PyData) → Bool
  | [] => true
  | (.none, _) :: _ => false
  | (_, y) :: ps => nt y && ntKv ps
end
theorem nt_tok : nt tokD = false := by simp [nt, tokD, ntKv]
theorem nt_key (k : Key) {e : PyData} {ps : List (PyData × PyData)} (z : ntKv ((keyD k, e) :: ps) = true) : nt e = true ∧ ntKv ps = true := by
  cases k <;> simpa [keyD, ntKv] using z
theorem keyReads {prog : Program} {w : World} {h : Heap} (k : Key) (key : Value) (e : (mixKind prog w).is k key = true) : Reads h key (keyD k) [] := by
  rcases keyIs_shape (show keyIs k key = true from e) with ⟨i, t, rfl, rfl⟩ | ⟨x, t, rfl, rfl⟩
  · exact .int i t
  · exact .str x t
section
variable {X : Cx} {C : Cz} {pins : List (Addr × Obj)} {σ : L2.St} {H : Hp} {s : Shared}
theorem not_sys (sy : Sy X.base) (I : Inv X pins σ H s) {a : Addr} {o : HO} (h : H a = some o) : a ≠ sysModules := fun e => by
  obtain ⟨u, hu⟩ := sy
  have := (I.bs _ _ hu).2
  rw [← e, h] at this
  cases this
mutual
theorem Dq.reads (sy : Sy X.base) (I : Inv X pins σ H s) : ∀ {v : V} {t : PyData} {u : Value}, nt t = true → Dq C H v t → RelV v u → ∃ as, Reads s.heap u t as ∧ sysModules ∉ as
  | _, _, _, _, .non, r => by
    cases r
    exact ⟨[], .none, List.not_mem_nil⟩
  | _, _, _, _, .bl b, r => by
    cases r
    exact ⟨[], .bool b, List.not_mem_nil⟩
  | _, _, _, _, .int i, r => by
    obtain ⟨t, rfl⟩ := r
    exact ⟨[], .int i t, List.not_mem_nil⟩
  | _, _, _, _, .str x, r => by
    obtain ⟨t, rfl⟩ := r
    exact ⟨[], .str x t, List.not_mem_nil⟩
  | _, _, _, z, .tok h, r => by
    rw [nt_tok] at z
    cases z
  | _, _, _, z, .obj _ _ _ _, r => by simp [nt, objD, ntKv] at z
  | _, _, _, z, .lst (a := a) (xs := xs) n1 h q, r => by
    cases r
    obtain ⟨_, its, n, rv, e⟩ := (show ObjOk X.prog X.w H s.heap a (.lst xs) from I.hok a _ h)
    obtain ⟨as, hr, hn⟩ := DqAll.reads sy I (by simpa [nt] using z) q rv
    refine ⟨a :: as, .list e rfl rfl (by simpa using hr), fun hm => ?_⟩
    rcases List.mem_cons.mp hm with z | z
    · exact not_sys sy I h z.symm
    · exact hn z
  | _, _, _, z, .tup (a := a) (xs := xs) h q, r => by
    cases r
    obtain ⟨its, rv, ⟨o, e, hc, n, hd⟩, _⟩ := I.tuple h.sq
    obtain ⟨as, hr, hn⟩ := DqAll.reads sy I (by simpa [nt] using z) q rv
    exact ⟨as, .tuple e hc hd (by simpa using hr), hn⟩
  | _, _, _, z, .dct (a := a) (kvs := kvs) _ h q, r => by
    cases r
    obtain ⟨_, hs, vs, rk, hd⟩ := (show ObjOk X.prog X.w H s.heap a (.dK kvs) from Rd.ok h I.hok)
    obtain ⟨as, hp, hn⟩ := DqKv.reads sy I q (by simpa [nt] using z) rk
    refine ⟨a :: as, PyProof.V.reads_dictOf keyReads hd hp, fun hm => ?_⟩
    rcases List.mem_cons.mp hm with z | z
    · rw [← z] at hs
      cases hs
    · exact hn z
theorem DqAll.reads (sy : Sy X.base) (I : Inv X pins σ H s) : ∀ {vs : List V} {ds : List PyData} {us : List Value}, ntAll ds = true → DqAll C H vs ds → Vals vs us → ∃ as, ReadsAll s.heap us ds as ∧ sysModules ∉ as
  | _, _, _, _, .nil, .nil => ⟨[], .nil, List.not_mem_nil⟩
  | _, _, _, z, .cons h q, .cons r1 r2 => by
    have z' : (nt _ && ntAll _) = true := z
    rw [Bool.and_eq_true] at z'
    obtain ⟨as, h1, n1⟩ := Dq.reads sy I z'.1 h r1
    obtain ⟨bs, h2, n2⟩ := DqAll.reads sy I z'.2 q r2
    exact ⟨as ++ bs, .cons h1 h2, fun hm => (List.mem_append.mp hm).elim n1 n2⟩
theorem DqKv.reads (sy : Sy X.base) (I : Inv X pins σ H s) : ∀ {kvs : List (Key × V)} {ps : List (PyData × PyData)} {vs : List (Key × Value)}, DqKv C H kvs ps → ntKv ps = true → KV kvs vs → ∃ as, PyProof.V.PairsRead s.heap keyD vs ps as ∧ sysModules ∉ as
  | _, _, _, .nil, _, .nil => ⟨[], .nil, List.not_mem_nil⟩
  | _, _, (k2, v2) :: _, .cons (k := k) h q, z, .cons r1 r2 => by
    have z' := nt_key k z
    obtain ⟨as, h1, n1⟩ := Dq.reads sy I z'.1 h r1.2
    obtain ⟨bs, h2, n2⟩ := DqKv.reads sy I q z'.2 r2
    obtain rfl : k = k2 := r1.1
    exact ⟨as ++ bs, .cons h1 h2, fun hm => (List.mem_append.mp hm).elim n1 n2⟩
end
/-- data that repr may write out -/
def shw (d : PyData) : Bool := d.showable && nt d && decide (d.depth ≤ 64) && decide (d.shown.length ≤ sizeLine)
@[simp] def fRepr : Fr := fun ds Q => ∃ d, ds = [d] ∧ shw d = true ∧ Q (.str d.shown)
theorem cq_repr (sy : Sy X.base) (g0 : X.A.guards = some []) (hu : X.A.units + 70 < cLine) : CQ X C (.builtin "repr") fRepr := by
  refine ⟨fun pins s σ H xs us Q I r q => ?_, fun x Q Q' w ⟨d, e1, e2, q⟩ => ⟨d, e1, e2, w _ q⟩⟩
  obtain ⟨ds, hr, j, t, rfl, hz, q⟩ := q
  cases hr with
  | cons hd hx =>
    cases hx
    simp only [shw, Bool.and_eq_true, decide_eq_true_eq] at hz
    obtain ⟨⟨⟨h1, h2⟩, h3⟩, h4⟩ := hz
    have q' := q (.str t.shown) H Kx.refl j (.str _)
    obtain ⟨u, rfl, rx⟩ := vals1 r
    obtain ⟨as, rd, hn⟩ := Dq.reads sy I h2 hd rx
    have ref : ∀ a, u = .ref a → wpAny (model X.prog X.w) X.A (call (.builtin "repr") [u]) (EP X pins σ Q) X.xe s := fun a ea => by
      subst ea
      exact repr_of_reads' rd h1 (fun _ => hn) g0 (by omega) (fun _ _ e => e) (fun h' t' tk hk => ⟨.str t.shown, H, I.kept hk, ⟨t', rfl⟩, q'⟩) h4
    cases hd with
    | non =>
      cases rx
      exact PySem.P.repr_of_none ⟨.str _, H, I.tok _, ⟨_, rfl⟩, q'⟩
    | bl b =>
      cases rx
      exact PySem.P.repr_of_bool ⟨.str _, H, I.tok _, ⟨_, rfl⟩, q'⟩
    | int i =>
      obtain ⟨t, rfl⟩ := rx
      exact PySem.P.repr_of_int (of_decide_eq_true h1) ⟨.str _, H, I.tok _, ⟨_, rfl⟩, q'⟩
    | str x =>
      obtain ⟨t, rfl⟩ := rx
      exact PySem.P.repr_of_str ⟨.str _, H, I.tok _, ⟨_, rfl⟩, q'⟩ h4
    | lst _ _ _ => exact ref _ rx
    | tup _ _ => exact ref _ rx
    | dct _ _ _ => exact ref _ rx
    | tok h =>
      rw [nt_tok] at h2
      cases h2
    | obj _ _ _ _ => simp [nt, objD, ntKv] at h2
end
end Kr

set_option Elab.async false
set_option linter.all false
set_option maxRecDepth 100000
set_option maxHeartbeats 4000000
/-! set(xs) of a list of ints, sorted(..) of a set of ints, however many -/
namespace L2
open PySem PySem.Spec PyProof.Rows
abbrev eSet (w : World) : Obj := { cls := .type "set", dict := none, data := .set #[] 0 (.fresh 0 0 (!w.params.followText "set-order")) }
section
variable {P : Program} {w : World} {A : Around} {E : Value → Shared → Prop} {s : Shared}
set_option maxHeartbeats 3200000 in
theorem call_set_lstI {l : Addr} {items : Array Value} (ns : List Int) {Q : Value → Shared → Prop} (hh : A.handled = none) (hl : s.heap.IsList l items) (hit : IntsAre items.toList ns) (hb : ns.length + 1 < scanBound)
    (hq : ∀ (h' : Heap) (tk c : Nat), SetR w h' s.heap.objs.size (fun j => decide (j ∈ ns)) c → c ≤ ns.length → (∀ b o, s.heap.get? b = some o → h'.get? b = some o) → Q (.ref s.heap.objs.size) { s with heap := h', toks := tk }) :
    wpAny (model P w) A (call (.type "set") [.ref l]) Q E s := by
  have isz : items.size = ns.length := (Array.length_toList (xs := items)).symm.trans (IntsAre.length hit)
  obtain ⟨mc, mt, hmro⟩ := F.called_set.mro
  have hmade := F.called_set.made
  have hsub := F.called_set.sub
  refine wpAny_call (codeAny_of_tree ?_)
  show wpAny _ _ (callAny (.type "set") _) _ _ _
  refine wpAny_pure ⟨Code.quiet_builtin _ (by decide +kernel), codeAny_builtin F.entry_type_call ?_⟩
  rw [Around.under_plain (weight_type_call_type "set" [.ref l] []) rfl]
  have f1 := F.called_set.notType
  have f2 := F.called_set.canCreate
  have f3 := F.typeCall_set_1 (.ref l)
  repeat (any_goals (first | assumption | wp_step))
  refine codeAny_mono (code_set_led1 (.ref l) (E := E) (Q₁ := fun obj z => obj = .ref s.heap.objs.size ∧ z = { s with heap := s.heap.push (eSet w) }) ⟨rfl, rfl⟩) fun r z hr => ?_
  cases r with
  | error e => exact hr
  | ok fl =>
    cases fl with
    | ret obj =>
      obtain ⟨rfl, rfl⟩ := hr
      have hS : (s.heap.push (eSet w)).get? s.heap.objs.size = some (eSet w) := Heap.get?_push_size _ rfl
      have hT : Shared.TypeIs { s with heap := s.heap.push (eSet w) } (.ref s.heap.objs.size) "set" := ⟨_, hS, rfl⟩
      have li := F.called_set.init.lookup
      have bi := F.called_set.init.bind (.ref s.heap.objs.size)
      repeat (any_goals (first | assumption | wp_step))
      refine codeAny_mono (codeAny_call_builtin (R := wants (fun r z2 => r = .none ∧ ∃ h' tk c, z2 = { s with heap := h', toks := tk } ∧ SetR w h' s.heap.objs.size (fun j => decide (j ∈ ns)) c ∧ c ≤ ns.length ∧
          (∀ b o, s.heap.get? b = some o → h'.get? b = some o)) E) F.called_set.init.plain F.entry_set_init (check_set_init_1 hT ?_)) fun r2 z2 hr2 => ?_
      · obtain ⟨⟨ocls, odict, odata, oslots⟩, hol, hcl, nl, hdl⟩ := hl
        simp only at hcl hdl
        subst hcl
        subst hdl
        have hol' : (s.heap.push (eSet w)).get? l = some { cls := .type "list", dict := odict, data := .seq items nl, slots := oslots } := Heap.get?_push_of_some _ hol
        have g1 := F.sub_list_set
        have g2 := F.sub_list_frozenset
        have g3 : (Value.type "list" == Value.type "dict") = false := by decide
        have hl1 : (s.heap.push (eSet w)).IsList l items := ⟨_, hol', rfl, nl, rfl⟩
        unfold Builtin.«set.__init__» noKeywords Builtin.Frozenset.updateFrom
        generalize hPI : pyIter = PI
        wp_walk
        subst hPI
        refine wpAny_pyIter_list hl1 (wpAny_bind (wpAny_runValue ?_))
        have lS : l < s.heap.objs.size := Heap.lt_size hol
        have h3 : A.in1.in1.in1.handled = none := by simp [hh]
        have nI : l ≠ (s.heap.push (eSet w)).objs.size := by
          rw [Heap.size_push]
          exact Nat.ne_of_lt (Nat.lt_succ_of_lt lS)
        have nS : s.heap.objs.size ∉ [(s.heap.push (eSet w)).objs.size, l] := by
          rw [Heap.size_push]
          intro z
          rcases List.mem_cons.mp z with z | z
          · exact Nat.ne_of_lt (Nat.lt_succ_self _) z
          · exact Nat.ne_of_gt lS (List.mem_singleton.mp z)
        have hval : ∀ (i : Nat) (v : Value), items[i]? = some v → ∃ k t, ns[i]? = some k ∧ v = .int k t := fun i v hv => by
          have hi : i < ns.length := isz ▸ (Array.getElem?_eq_some_iff.mp hv).1
          obtain ⟨t, e⟩ := PyProof.Rows.IntsAre.int_at hit i v (by rw [Array.getElem?_toList]; exact hv)
          have e2 := List.getElem?_eq_getElem hi
          rw [List.getD_eq_getElem?_getD, e2] at e
          exact ⟨_, t, e2, e⟩
        refine set_update_ints ((Walks.list h3 _ l nI items).toS) s.heap.objs.size nS ns isz hb hval (items.size - 0) 0 _ (by omega) (Nat.zero_le _)
          ⟨⟨_, Heap.get?_push_size _ rfl, rfl, rfl⟩, hl1.push _⟩ ⟨0, Nat.le_refl 0, setR_new_at (Heap.get?_push_of_some _ hS)⟩ fun z c2 hm hc2 hS2 => ?_
        obtain ⟨h', z2, z3, tk2, z5⟩ := z
        have e1 : z2 = s.gens := hm.gens
        have e2 : z3 = s.drawn := hm.drawn
        have e3 : z5 = s.os := hm.os
        subst e1
        subst e2
        subst e3
        show wpAny _ _ _ _ _ _
        refine wpAny_pure ?_
        show wpAny _ _ (ret Value.none) _ _ _
        rw [isz] at hc2
        refine wpAny_pure ⟨rfl, h', tk2, c2, rfl, hS2, hc2, fun b o e => ?_⟩
        have hb0 : b < s.heap.objs.size := Heap.lt_size e
        refine hm.heap b o (fun z => ?_) (Heap.get?_push_of_some _ (Heap.get?_push_of_some _ e))
        rcases List.mem_cons.mp z with z | z
        · exact Nat.ne_of_lt hb0 z
        · have z' := List.mem_singleton.mp z
          rw [Heap.size_push] at z'
          exact Nat.ne_of_lt (Nat.lt_succ_of_lt hb0) z'
      · cases r2 with
        | error e => exact hr2
        | ok fl2 =>
          cases fl2 with
          | ret r =>
            obtain ⟨rfl, h', tk, c2, rfl, hS2, hc2, hk2⟩ := hr2
            repeat (any_goals (first | assumption | wp_step))
            exact hq _ _ _ hS2 hc2 hk2
          | _ => exact hr2.elim
    | _ => exact hr.elim
end
end L2

set_option Elab.async false
set_option linter.all false
set_option maxRecDepth 100000
set_option maxHeartbeats 4000000
namespace L2
open PySem PySem.Spec PyProof.Rows
section
variable {P : Program} {w : World} {A : Around} {E : Value → Shared → Prop} {s : Shared} {a : Addr}
theorem sorted_setI {S : Int → Bool} {n : Nat} {Q : Value → Shared → Prop} (R : SetR w s.heap a S n) (hh : A.handled = none)
    (hQ : ∀ z p (out : Array Value) (c : Nat) (ns : List Int), (∀ b o, s.heap.get? b = some o → z.heap.get? b = some o) → z.gens = s.gens → z.os = s.os → s.heap.objs.size ≤ p →
      z.heap.get? p = some (seqObj "list" out c) → IntsAre out.toList ns → ns.Pairwise (· < ·) → (∀ k, k ∈ ns ↔ S k = true) → ns.length = n → Q (.ref p) z) :
    wpAny (model P w) A (call (.builtin "sorted") [.ref a]) Q E s := by
  obtain ⟨o, es, ep, t, ho, hex, hd, g, nd, hm, hb, hf, hn, hr, hl⟩ := R
  refine Calls.call_function_entry kind_sorted plain_sorted entry_sorted (args_sorted1 _) ?_
  unfold Builtin.«sorted»
  refine wpAny_bind (m := checkCount "sorted" 1 1 _) (wpAny_pure (wpAny_bind (collect_set (A := A.in1) hh ⟨o, ho, hex.1, hd⟩ hf hb hr hl fun z vs k1 hz g1 o1 pm => ?_)))
  have vl : vs.length = n := by
    rw [pm.length_eq, List.length_map, Array.length_toList]
    exact hn
  have vz : vs.length ≤ sizeLine := by
    rw [vl, ← hn]
    exact fits_of_scanBound hb
  have hI : IntsAre vs (vs.map Builtin.Re.reRawOf) := ints_of vs fun v hv => by
    obtain ⟨e, he, q⟩ := List.mem_map.mp (pm.mem_iff.mp hv)
    obtain ⟨k, tk, h1, _⟩ := g e he
    exact ⟨k, tk, q ▸ h1⟩
  have pk : (vs.map Builtin.Re.reRawOf).Perm (es.toList.map keyOf) := by
    have q := pm.map Builtin.Re.reRawOf
    rwa [List.map_map] at q
  refine wpAny_bind (wpAny_newList ?_ vz)
  have hoL : (z.heap.push (seqObj "list" vs.toArray 0)).get? z.heap.objs.size = some (seqObj "list" vs.toArray 0) := Heap.get?_push_size _ rfl
  refine wpAny_bind (wpAny_holding (wpAny_call_entry slot_list_sort ⟨_, hoL, rfl⟩ entry_list_sort (SrtO.list_sort_ord SrtO.swo_int hoL vz (fun h2 => SrtO.ints_sortable hI h2) fun out h1 h2 => ⟨_, rfl, ?_⟩) (args_list_sort _)))
  obtain ⟨q1, q2, q3⟩ := SrtO.ints_out hI h1 h2
  obtain ⟨c, hc⟩ := sortedHeap_at (vs := vs) (out := out.toArray) hoL
  have pn := q2.trans pk
  refine wpAny_pure ⟨_, rfl, hQ _ z.heap.objs.size out.toArray c _ (fun b u e => ?_) g1 o1 hz hc (by simpa using q1) (lt_of_le_nodup _ q3 (pn.nodup_iff.mpr nd)) (fun k => by rw [pn.mem_iff, ← hm k]) ?_⟩
  · have q := k1 b u e
    have lt := Heap.lt_size q
    show (sortedHeap (z.heap.push (seqObj "list" vs.toArray 0)) z.heap.objs.size vs out.toArray).get? b = some u
    rw [sortedHeap_old (Nat.ne_of_lt lt) (by rw [size_push']; exact Nat.lt_succ_of_lt lt)]
    exact Heap.get?_push_of_some _ q
  · rw [pn.length_eq, List.length_map, Array.length_toList]
    exact hn
end
section
variable {X : Cx}
/-- sorted(set(xs)) -/
def tSortSet (K : PySem.W.Frag) (te : TE) : TE := fun σ H Q => te σ H fun x H1 => ∃ (l : Addr) (ns : List Int), x = .ref l ∧ SqL K H1 l (ns.map V.int) ∧ ns.length + 1 < scanBound ∧
  ∀ (us : List Int) (p : Addr), us.Pairwise (· < ·) → (∀ k, k ∈ us ↔ k ∈ ns) → H1 p = none → Q (.ref p) (upd H1 p (.lst (us.map V.int)))
theorem pe_sortSet {a : Expr} {ta : TE} {p p2 q pos : Pos} (hc : X.calm = true) (hg : Gl X "sorted") (hm : X.mg "sorted" = none) (hg2 : Gl X "set") (hm2 : X.mg "set" = none) (ha : PE X a ta)
    (na : starEach [a] X.env = (false, eval a X.env) :: starEach [] X.env := by rfl) : PE X (.Call (.Name "sorted" p) [.Call (.Name "set" p2) [a] [] q] [] pos) (tSortSet X.K ta) := by
  refine ⟨fun pins s σ H Q I h => ?_⟩
  refine Call_ (ld_blt (u := .builtin "sorted") I hg hm (by decide +kernel) ?_)
  refine PyProof.Rows.callWith_builtin1 (PyProof.Rows.args_cons ?_ rfl) rfl rfl
  refine Call_ (ld_blt (u := .type "set") I hg2 hm2 (by decide +kernel) ?_)
  refine PyProof.Rows.callWith_type1 (PyProof.Rows.args_cons (thn (ha.run pins s σ H _ I h) fun v s1 ⟨x, H1, I1, r1, q1⟩ => PyProof.Rows.args_nil ?_) na) na rfl
  obtain ⟨l, ns, rfl, hq, hb, q1⟩ := q1
  cases r1
  obtain ⟨its, r, pl, hz⟩ := I1.list hq
  refine call_set_lstI ns (I1.ok.hd hc) pl.isList (by simpa using r.ints) hb fun h' tk c hS hc2 hk => ?_
  refine PyProof.Rows.args_nil ?_
  have I2 : Inv X pins σ H1 { s1 with heap := h', toks := tk } := I1.kept hk
  refine sorted_setI hS (I1.ok.hd hc) fun z p out c us k g o hp hg hi hs hmem hlen => ?_
  have ul : (us.map V.int).length ≤ sizeLine := by
    rw [List.length_map, hlen]
    have : ns.length ≤ sizeLine := fits_of_scanBound (by omega)
    omega
  have hn : H1 p = none := I2.hok.fresh hp
  have J : Inv X pins σ (upd H1 p (.lst (us.map V.int))) { ({ s1 with heap := h', toks := tk } : Shared) with heap := z.heap, gens := z.gens, drawn := z.drawn, toks := z.toks } :=
    I2.call (ch := []) (Un.laid k hp hn) (I2.hok.laid k hp ⟨ul, out.toList, c, vals_of_ints hi, hg⟩) (by rw [g]; exact I2.bare) (fun _ z => nomatch z)
  have e : z = { ({ s1 with heap := h', toks := tk } : Shared) with heap := z.heap, gens := z.gens, drawn := z.drawn, toks := z.toks } := by
    cases z
    cases s1
    cases o
    rfl
  rw [e]
  exact ⟨.ref p, _, J, rfl, q1 us p hs (fun k => by rw [hmem k]; simp) hn⟩
end
end L2

set_option Elab.async false
set_option linter.all false
set_option maxRecDepth 100000
set_option maxHeartbeats 4000000
namespace Kr
open PySem PySem.Spec PyProof.Rows L2
section
variable {X : Cx} {C : Cz} {pos : Pos} {a b : Expr} {ta tb : P0}
/-! -x -/
@[simp] def vNeg (ta : P0) : P0 := fun ρ Q => ta ρ fun d => ∃ i, d = .int i ∧ Q (.int (-i))
theorem qe_neg (h : QE X C a ta) : QE X C (.UnaryOp .USub a pos) (vNeg ta) := by
  refine ⟨PE.weak (pe_un un_neg h.pe) fun σ H Q q => ?_, fun ρ Q Q' w q => h.mono _ _ _ (fun d ⟨i, e, q⟩ => ⟨i, e, w _ q⟩) q⟩
  obtain ⟨ρ, he, j, q⟩ := q
  refine ⟨ρ, he, j, h.mono _ _ _ (fun d ⟨i, e, q⟩ v H' k1 j1 r => ?_) q⟩
  subst e
  cases r
  exact ⟨i, rfl, q _ H' k1 j1 (.int _)⟩
/-! x in a list or a tuple of data -/
def inOk (d c : PyData) : Bool := match c with
  | .list xs => shp (.list xs) && shp d
  | .tuple xs => shp (.tuple xs) && shp d
  | _ => false
def inD (d c : PyData) : Bool := match c with
  | .list xs => xs.any fun y => PyData.eqv y d
  | .tuple xs => xs.any fun y => PyData.eqv y d
  | _ => false
@[simp] def rIn : R0 := fun d c Q => inOk d c = true ∧ Q (.bool (inD d c))
@[simp] def rNotIn : R0 := fun d c Q => inOk d c = true ∧ Q (.bool (!inD d c))
theorem shp_all {xs : List PyData} (h : shp (.list xs) = true ∨ shp (.tuple xs) = true) : PyData.canLayAll0 xs = true ∧ PyData.depthAll xs ≤ 64 := by
  rcases h with h | h <;>
  · simp only [shp, SeqAt.shaped, Bool.and_eq_true, decide_eq_true_eq, PyData.canLay0, PyData.depth] at h
    exact ⟨h.1, by have := of_decide_eq_true h.2; omega⟩
theorem shp_one {d : PyData} (h : shp d = true) : d.canLay0 = true ∧ d.depth ≤ 64 := by
  simp only [shp, SeqAt.shaped, Bool.and_eq_true] at h
  exact ⟨h.1, of_decide_eq_true h.2⟩
theorem nt_lay : (∀ d : PyData, d.canLay0 = true → nt d = true) ∧ ∀ ds : List PyData, PyData.canLayAll0 ds = true → ntAll ds = true := by
  have key : ∀ n, (∀ d : PyData, sizeOf d ≤ n → d.canLay0 = true → nt d = true) ∧ ∀ ds : List PyData, sizeOf ds ≤ n → PyData.canLayAll0 ds = true → ntAll ds = true := by
    intro n
    induction n with
    | zero =>
      refine ⟨fun d h => ?_, fun ds h => ?_⟩
      · cases d <;> simp at h
      · cases ds <;> simp at h
    | succ n ih =>
      refine ⟨fun d h e => ?_, fun ds h e => ?_⟩
      · cases d with
        | list xs =>
          simp only [nt]
          exact ih.2 xs (by simp at h; omega) (by simpa [PyData.canLay0] using e)
        | tuple xs =>
          simp only [nt]
          exact ih.2 xs (by simp at h; omega) (by simpa [PyData.canLay0] using e)
        | dict _ => simp [PyData.canLay0] at e
        | _ => rfl
      · cases ds with
        | nil => rfl
        | cons x xs =>
          have e' : x.canLay0 = true ∧ PyData.canLayAll0 xs = true := by simpa [PyData.canLayAll0] using e
          simp only [ntAll, Bool.and_eq_true]
          exact ⟨ih.1 x (by simp at h; omega) e'.1, ih.2 xs (by simp at h; omega) e'.2⟩
  exact ⟨fun d => (key (sizeOf d)).1 d (Nat.le_refl _), fun ds => (key (sizeOf ds)).2 ds (Nat.le_refl _)⟩
theorem inOk_cases {d c : PyData} (h : inOk d c = true) : shp d = true ∧ ∃ xs, (c = .list xs ∨ c = .tuple xs) ∧ PyData.canLayAll0 xs = true ∧ PyData.depthAll xs ≤ 64 := by
  cases c with
  | list xs =>
    simp only [inOk, Bool.and_eq_true] at h
    exact ⟨h.2, xs, .inl rfl, shp_all (.inl h.1)⟩
  | tuple xs =>
    simp only [inOk, Bool.and_eq_true] at h
    exact ⟨h.2, xs, .inr rfl, shp_all (.inr h.1)⟩
  | _ => cases h
theorem oq_in (sy : Sy X.base) (hu : X.A.units + 65 < cLine) : OQ X C (compareOp .In) rIn := by
  refine ⟨fun pins s σ H x y v u Q I rx ry ⟨d1, d2, r1, r2, jj, s1, q⟩ => ?_, fun x y Q Q' w ⟨a, q⟩ => ⟨a, w _ q⟩⟩
  obtain ⟨hd, xs, hc, l1, l2⟩ := inOk_cases s1
  obtain ⟨c1, c2⟩ := shp_one hd
  obtain ⟨as, g1, _⟩ := Dq.reads sy I (nt_lay.1 _ c1) r1 rx
  have fin := fun k => show EP X pins σ Q (.bool (inD d1 d2)) { s with toks := k } from ⟨.bl _, H, I.tok _, rfl, q _ H Kx.refl jj (.bl _)⟩
  have fin0 : EP X pins σ Q (.bool (inD d1 d2)) s := ⟨.bl _, H, I, rfl, q _ H Kx.refl jj (.bl _)⟩
  rcases hc with rfl | rfl
  · obtain ⟨bs, g2, _⟩ := Dq.reads sy I (by simpa [nt] using nt_lay.2 _ l1) r2 ry
    exact SeqAt.in_list_reads g2 g1 l1 c1 (by omega) fin0
  · obtain ⟨bs, g2, _⟩ := Dq.reads sy I (by simpa [nt] using nt_lay.2 _ l1) r2 ry
    exact SeqAt.in_tuple_reads g2 g1 l1 c1 (by omega) fin0
theorem oq_notin (sy : Sy X.base) (hu : X.A.units + 65 < cLine) : OQ X C (compareOp .NotIn) rNotIn := by
  refine ⟨fun pins s σ H x y v u Q I rx ry ⟨d1, d2, r1, r2, jj, s1, q⟩ => ?_, fun x y Q Q' w ⟨a, q⟩ => ⟨a, w _ q⟩⟩
  obtain ⟨hd, xs, hc, l1, l2⟩ := inOk_cases s1
  obtain ⟨c1, c2⟩ := shp_one hd
  obtain ⟨as, g1, _⟩ := Dq.reads sy I (nt_lay.1 _ c1) r1 rx
  have fin0 : EP X pins σ Q (.bool (!inD d1 d2)) s := ⟨.bl _, H, I, rfl, q _ H Kx.refl jj (.bl _)⟩
  rcases hc with rfl | rfl
  · obtain ⟨bs, g2, _⟩ := Dq.reads sy I (by simpa [nt] using nt_lay.2 _ l1) r2 ry
    exact SeqAt.notIn_list_reads g2 g1 l1 c1 (by omega) fin0
  · obtain ⟨bs, g2, _⟩ := Dq.reads sy I (by simpa [nt] using nt_lay.2 _ l1) r2 ry
    exact SeqAt.notIn_tuple_reads g2 g1 l1 c1 (by omega) fin0
/-! a sign in a text -/
@[simp] def rInS : R0 := fun d c Q => ∃ (n : Nat) (z : Str), d = .str ⟨#[n]⟩ ∧ c = .str z ∧ Q (.bool (decide (n ∈ z.cps.toList)))
@[simp] def rNotInS : R0 := fun d c Q => ∃ (n : Nat) (z : Str), d = .str ⟨#[n]⟩ ∧ c = .str z ∧ Q (.bool (!decide (n ∈ z.cps.toList)))
theorem oq_inS : OQ X C (compareOp .In) rInS := by
  refine ⟨fun pins s σ H x y v u Q I rx ry ⟨d1, d2, r1, r2, jj, n, z, e1, e2, q⟩ => ?_, fun x y Q Q' w ⟨n, z, e1, e2, q⟩ => ⟨n, z, e1, e2, w _ q⟩⟩
  subst e1
  subst e2
  cases r1
  cases r2
  exact op_in_sign pins s σ H _ _ v u Q I rx ry ⟨n, z, rfl, rfl, q _ H Kx.refl jj (.bl _)⟩
theorem oq_notinS : OQ X C (compareOp .NotIn) rNotInS := by
  refine ⟨fun pins s σ H x y v u Q I rx ry ⟨d1, d2, r1, r2, jj, n, z, e1, e2, q⟩ => ?_, fun x y Q Q' w ⟨n, z, e1, e2, q⟩ => ⟨n, z, e1, e2, w _ q⟩⟩
  subst e1
  subst e2
  cases r1
  cases r2
  exact op_notIn_sign pins s σ H _ _ v u Q I rx ry ⟨n, z, rfl, rfl, q _ H Kx.refl jj (.bl _)⟩
/-! is, is not of truths -/
@[simp] def rIsB : R0 := fun d c Q => ∃ k m, d = .bool k ∧ c = .bool m ∧ Q (.bool (decide (k = m)))
@[simp] def rNotB : R0 := fun d c Q => ∃ k m, d = .bool k ∧ c = .bool m ∧ Q (.bool (!decide (k = m)))
theorem oq_isnotB : OQ X C (compareOp .IsNot) rNotB := by
  refine ⟨fun pins s σ H x y v u Q I rx ry ⟨d1, d2, r1, r2, jj, k, m, e1, e2, q⟩ => ?_, fun x y Q Q' w ⟨k, m, e1, e2, q⟩ => ⟨k, m, e1, e2, w _ q⟩⟩
  subst e1
  subst e2
  cases r1
  cases r2
  exact op_notBl pins s σ H _ _ v u Q I rx ry ⟨k, m, rfl, rfl, q _ H Kx.refl jj (.bl _)⟩
/-! int(x), max(x, y) -/
@[simp] def fInt : Fr := fun ds Q => (∃ i, ds = [.int i] ∧ Q (.int i)) ∨ ∃ k, ds = [.bool k] ∧ Q (.int (if k then 1 else 0))
theorem cq_int : CQ X C (.type "int") fInt := by
  refine ⟨fun pins s σ H xs us Q I r q => ?_, fun x Q Q' w q => ?_⟩
  · obtain ⟨ds, hr, j, q⟩ := q
    rcases q with ⟨i, rfl, q⟩ | ⟨k, rfl, q⟩
    · cases hr with
      | cons h t =>
        cases t
        cases h
        exact call_int1 pins s σ H _ us Q I r (.inl ⟨i, rfl, q _ H Kx.refl j (.int _)⟩)
    · cases hr with
      | cons h t =>
        cases t
        cases h
        exact call_int1 pins s σ H _ us Q I r (.inr ⟨k, rfl, q _ H Kx.refl j (.int _)⟩)
  · rcases q with ⟨i, e, q⟩ | ⟨k, e, q⟩
    · exact .inl ⟨i, e, w _ q⟩
    · exact .inr ⟨k, e, w _ q⟩
@[simp] def fMax2 : Fr := fun ds Q => ∃ i j, ds = [.int i, .int j] ∧ Q (.int (if j > i then j else i))
theorem cq_max2 (hc : X.calm = true) : CQ X C (.builtin "max") fMax2 := by
  refine ⟨fun pins s σ H xs us Q I r q => ?_, fun x Q Q' w ⟨i, j, e, q⟩ => ⟨i, j, e, w _ q⟩⟩
  obtain ⟨ds, hr, jj, i, j, rfl, q⟩ := q
  cases hr with
  | cons h t =>
    cases t with
    | cons h2 t =>
      cases t
      cases h
      cases h2
      exact call_max2 hc pins s σ H _ us Q I r ⟨i, j, rfl, q _ H Kx.refl jj (.int _)⟩
/-! list * int -/
@[simp] def rRepD : R0 := fun d c Q => ∃ xs k, d = .list xs ∧ c = .int k ∧ -(2 ^ 63) ≤ k ∧ k < 2 ^ 63 ∧ xs.length * k.toNat ≤ sizeLine ∧ Q (.list (List.replicate k.toNat xs).flatten)
theorem dqs_rep {H : Hp} {vs : List V} {ds : List PyData} (h : DqAll C H vs ds) : ∀ n : Nat, DqAll C H (List.replicate n vs).flatten (List.replicate n ds).flatten
  | 0 => .nil
  | n + 1 => by
    rw [List.replicate_succ, List.replicate_succ, List.flatten_cons, List.flatten_cons]
    exact h.app (dqs_rep h n)
theorem oq_rep : OQ X C (binaryOp .Mult) rRepD := by
  refine ⟨fun pins s σ H x y v u Q I rx ry ⟨d1, d2, r1, r2, jj, xs, k, e1, e2, h1, h2, h3, q⟩ => ?_, fun x y Q Q' w ⟨xs, k, e1, e2, h1, h2, h3, q⟩ => ⟨xs, k, e1, e2, h1, h2, h3, w _ q⟩⟩
  subst e1
  subst e2
  cases r2
  cases r1 with
  | @lst l vs _ m h r =>
    refine op_rep pins s σ H _ _ v u Q I rx ry ⟨l, k, vs, rfl, rfl, h, h1, h2, by rw [r.length]; exact h3, fun p np => ?_⟩
    have sm := same_upd (o := .lst (List.replicate k.toNat vs).flatten) np
    exact q _ _ (kxSame sm) (C.same _ _ sm jj) (.lst (freshM C jj np) upd_same ((dqs_rep r _).keep (kxSame sm)))
/-! x[::-1] of a tuple, a list -/
@[simp] def vRev (ta : P0) : P0 := fun ρ Q => ta ρ fun d => ∃ xs, d = .tuple xs ∧ Q (.tuple xs.reverse)
theorem qe_revT {k : Nat} {p1 p2 p3 : Pos} (h : QE X C a ta) : QE X C (.Subscript a (.Slice none none (some (.UnaryOp .USub (.Constant (.int 1) k p1) p2)) p3) pos) (vRev ta) := by
  refine ⟨PE.weak (pe_revT h.pe) fun σ H Q q => ?_, fun ρ Q Q' w q => h.mono _ _ _ (fun d ⟨i, e, q⟩ => ⟨i, e, w _ q⟩) q⟩
  obtain ⟨ρ, he, j, q⟩ := q
  refine ⟨ρ, he, j, h.mono _ _ _ (fun d ⟨xs, e, q⟩ v H' k1 j1 r => ?_) q⟩
  subst e
  cases r with
  | @tup a vs _ h1 r =>
    refine ⟨a, vs, rfl, h1.sq, fun p ob np nd => ?_⟩
    have sm := same_upd (o := .frz ob (.tup vs.reverse)) np
    exact q _ _ (k1.trans (kxSame sm)) (C.same _ _ sm j1) (.tup (tp_upd nd) (r.rev.keep (kxSame sm)))
/-! sorted(set(xs)) -/
theorem dq_ints {H : Hp} : ∀ {vs : List V} {ns : List Int}, DqAll C H vs (ns.map .int) → vs = ns.map V.int
  | _, [], .nil => rfl
  | _, n :: ns, .cons h r => by
    cases h
    rw [List.map_cons, dq_ints r]
theorem ints_dq {H : Hp} : ∀ ns : List Int, DqAll C H (ns.map V.int) (ns.map .int)
  | [] => .nil
  | n :: ns => .cons (.int n) (ints_dq ns)
@[simp] def vSortSet (ta : P0) : P0 := fun ρ Q => ta ρ fun d => ∃ ns : List Int, d = .list (ns.map .int) ∧ ns.length ≤ 4000 ∧ ∀ us : List Int, us.Pairwise (· < ·) → (∀ k, k ∈ us ↔ k ∈ ns) → Q (.list (us.map .int))
theorem qe_sortSet {p p2 q : Pos} (hc : X.calm = true) (hg : Gl X "sorted") (hm : X.mg "sorted" = none) (hg2 : Gl X "set") (hm2 : X.mg "set" = none) (h : QE X C a ta) (na : starEach [a] X.env = (false, eval a X.env) :: starEach [] X.env := by rfl) :
    QE X C (.Call (.Name "sorted" p) [.Call (.Name "set" p2) [a] [] q] [] pos) (vSortSet ta) := by
  refine ⟨PE.weak (pe_sortSet hc hg hm hg2 hm2 h.pe na) fun σ H Q q => ?_, fun ρ Q Q' w q => h.mono _ _ _ (fun d ⟨ns, e, l, q⟩ => ⟨ns, e, l, fun us h1 h2 => w _ (q us h1 h2)⟩) q⟩
  obtain ⟨ρ, he, j, q⟩ := q
  refine ⟨ρ, he, j, h.mono _ _ _ (fun d ⟨ns, e, hl, q⟩ v H' k1 j1 r => ?_) q⟩
  subst e
  cases r with
  | @lst a vs _ m h1 r =>
    rw [dq_ints r] at h1
    refine ⟨a, ns, rfl, .inl (.inl h1), Nat.lt_of_le_of_lt (show ns.length + 1 ≤ 4001 by omega) (by decide), fun us p h2 h3 np => ?_⟩
    have sm := same_upd (o := .lst (us.map V.int)) np
    exact q us h2 h3 _ _ (k1.trans (kxSame sm)) (C.same _ _ sm j1) (.lst (freshM C j1 np) upd_same (ints_dq us))
end
end Kr

set_option Elab.async false
set_option linter.all false
set_option maxRecDepth 100000
set_option maxHeartbeats 4000000
namespace Kr
open PySem PySem.Spec PyProof.Rows L2
section
variable {X : Cx} {C : Cz} {pos : Pos} {a b : Expr} {ta tb : P0} {Ow : List Nat}
/-! {} and {k: v, ..} -/
theorem qe_dnew : QE X C (.Dict [] [] pos) (vC (dD [])) := by
  refine ⟨PE.weak pe_dnewK fun σ H Q q => ?_, fun _ _ _ w q => w _ q⟩
  obtain ⟨ρ, he, j, q⟩ := q
  intro p np
  have sm := same_upd (o := .dK []) np
  exact q _ _ (kxSame sm) (C.same _ _ sm j) (.dct (freshM C j np) (.inl upd_same) .nil)
def vPs : List (P0 × P0) → Rho → (DL → Prop) → Prop
  | [], _, Q => Q []
  | (tk, tv) :: r, ρ, Q => tk ρ fun x => tv ρ fun y => ∃ k, x = keyD k ∧ vPs r ρ fun l => Q ((k, y) :: l)
def mergeG (l m : DL) : DL := m.foldl (fun acc kv => putG acc kv.1 kv.2) l
structure QPs (X : Cx) (C : Cz) (pos : Pos) (keys : List (Option Expr)) (vals : List Expr) (ts : List (P0 × P0)) : Prop where
  pps : PPs X pos keys vals (ts.map fun t => (lfx C t.1, lfx C t.2))
  mono : ∀ t ∈ ts, (∀ ρ Q Q', (∀ d, Q d → Q' d) → t.1 ρ Q → t.1 ρ Q') ∧ ∀ ρ Q Q', (∀ d, Q d → Q' d) → t.2 ρ Q → t.2 ρ Q'
theorem qps_nil : QPs X C pos [] [] [] := ⟨pps_nil, fun _ h => absurd h List.not_mem_nil⟩
theorem qps_cons {k v : Expr} {ks : List (Option Expr)} {vs : List Expr} {tk tv : P0} {ts : List (P0 × P0)} (hk : ∀ C2, Ext C C2 → QE X C2 k tk) (hv : ∀ C2, Ext C C2 → QE X C2 v tv) (hr : QPs X C pos ks vs ts) : QPs X C pos (some k :: ks) (v :: vs) ((tk, tv) :: ts) :=
  ⟨pps_cons (PE.ex hk) (PE.ex hv) hr.pps, fun t h => by
    rcases List.mem_cons.mp h with rfl | h
    · exact ⟨(hk C Ext.refl).mono, (hv C Ext.refl).mono⟩
    · exact hr.mono t h⟩
theorem vPs_mono {ρ : Rho} : ∀ {ts : List (P0 × P0)}, (∀ t ∈ ts, (∀ ρ Q Q', (∀ d, Q d → Q' d) → t.1 ρ Q → t.1 ρ Q') ∧ ∀ ρ Q Q', (∀ d, Q d → Q' d) → t.2 ρ Q → t.2 ρ Q') → ∀ {Q Q' : DL → Prop}, (∀ l, Q l → Q' l) → vPs ts ρ Q → vPs ts ρ Q'
  | [], _, _, _, w, q => w _ q
  | (tk, tv) :: r, m, _, _, w, q => (m _ List.mem_cons_self).1 _ _ _ (fun x q => (m _ List.mem_cons_self).2 _ _ _ (fun y ⟨k, e, q⟩ => ⟨k, e, vPs_mono (fun t h => m t (List.mem_cons_of_mem _ h)) (fun l => w _) q⟩) q) q
def ownD1 (D : Addr) (o : HO) : Own := fun i => if i = 0 then some (D, o) else none
theorem ownD1_eq {D b : Addr} {o vs : HO} {i : Nat} (h : ownD1 D o i = some (b, vs)) : b = D ∧ vs = o := by
  unfold ownD1 at h
  by_cases hi : i = 0
  · rw [if_pos hi] at h
    cases h
    exact ⟨rfl, rfl⟩
  · rw [if_neg hi] at h
    cases h
/-- pairs, while a new object stands at D -/
theorem ps_go {D : Addr} {o : HO} (mD : ¬ C.M D) {σ : L2.St} {ρ : Rho} : ∀ {ts : List (P0 × P0)}, (∀ t ∈ ts, (∀ ρ Q Q', (∀ d, Q d → Q' d) → t.1 ρ Q → t.1 ρ Q') ∧ ∀ ρ Q Q', (∀ d, Q d → Q' d) → t.2 ρ Q → t.2 ρ Q') →
    ∀ {H : Hp} {Q : List (V × V) → Hp → Prop}, EnvOk (C.ext (ownD1 D o)) H σ ρ → (C.ext (ownD1 D o)).J H →
      vPs ts ρ (fun l => ∀ kvs H', Kx (C.ext (ownD1 D o)) H H' → (C.ext (ownD1 D o)).J H' → DqL (C.ext (ownD1 D o)) H' kvs l → Q (kvs.map fun kv => (kV kv.1, kv.2)) H') → tPairs (ts.map fun t => (lfx C t.1, lfx C t.2)) σ H Q
  | [], _, H, Q, he, j, q => q [] H Kx.refl j .nil
  | (tk, tv) :: r, m, H, Q, he, j, q => by
    have ce : Ext C (C.ext (ownD1 D o)) := extE fun i b vs e => by rw [(ownD1_eq e).1]; exact mD
    refine ⟨_, ce, ρ, he, j, (m _ List.mem_cons_self).1 _ _ _ (fun x q v H1 k1 j1 r1 => ?_) q⟩
    refine ⟨_, ce, ρ, he.keep k1, j1, (m _ List.mem_cons_self).2 _ _ _ (fun y ⟨k, e, q2⟩ u H2 k2 j2 r2 => ?_) q⟩
    subst e
    refine ps_go mD (fun t h => m t (List.mem_cons_of_mem _ h)) ((he.keep k1).keep k2) j2 (vPs_mono (fun t h => m t (List.mem_cons_of_mem _ h)) (fun l q3 kvs H3 k3 j3 r3 => ?_) q2)
    have := q3 ((k, u) :: kvs) H3 (k1.trans (k2.trans k3)) j3 (.cons (r2.keep k3) r3)
    rw [dq_key r1]
    exact this
theorem DqL.sub {C1 C2 : Cz} {H : Hp} (hm : ∀ b, C2.M b → C1.M b) (ht : C1.tok = C2.tok) : ∀ {kvs : List (Key × V)} {l : DL}, DqL C1 H kvs l → DqL C2 H kvs l
  | _, _, .nil => .nil
  | _, _, .cons h t => .cons (h.sub hm ht) (DqL.sub hm ht t)
theorem DqL.merge {H : Hp} : ∀ {kvs us : List (Key × V)} {l m : DL}, DqL C H kvs l → DqL C H us m → DqL C H (mergeK kvs us) (mergeG l m)
  | kvs, _, l, _, h, .nil => h
  | kvs, _, l, _, h, .cons (k := k) (v := v) (d := d) r t => DqL.merge (kvs := putK kvs k v) (l := putG l k d) (h.put r) t
@[simp] def vDisp (ts : List (P0 × P0)) : P0 := fun ρ Q => vPs ts ρ fun l => l.length ≤ 15 ∧ Q (dD (mergeG [] l))
theorem qe_disp {keys : List (Option Expr)} {vals : List Expr} {ts : List (P0 × P0)} (h : QPs X C pos keys vals ts) (hall : keys.all (·.isSome) = true := by rfl) (hl : keys.length = vals.length := by rfl) (h0 : keys ≠ [] := by simp) (h15 : keys.length ≤ 15 := by decide) : QE X C (.Dict keys vals pos) (vDisp ts) := by
  refine ⟨PE.weak (pe_disp h.pps hall hl h0 h15) fun σ H Q q => ?_, fun ρ Q Q' w q => vPs_mono h.mono (fun l q => ⟨q.1, w _ q.2⟩) q⟩
  obtain ⟨ρ, he, j, q⟩ := q
  intro p np
  have sm := same_upd (o := .dK []) np
  have mp := freshM C j np
  have he2 : EnvOk (C.ext (ownD1 p (.dK []))) (upd H p (.dK [])) σ ρ := ⟨he.len, fun i d e => by
    obtain ⟨v, e1, r⟩ := he.at_ i d e
    refine ⟨v, e1, Dq.sub (C := C.plus p) (C' := C.ext (ownD1 p (.dK []))) (fun b m => ?_) rfl ((r.clear np).keep (kxSame sm))⟩
    exact m.elim .inl fun ⟨_, _, e⟩ => .inr (ownD1_eq e).1⟩
  refine ps_go mp h.mono he2 ⟨C.same _ _ sm j, fun i b vs e => by obtain ⟨rfl, rfl⟩ := ownD1_eq e; exact upd_same⟩ (vPs_mono h.mono (fun l q kvs H2 k2 j2 r2 => ?_) q)
  have hp2 : H2 p = some (.dK []) := j2.2 0 p _ rfl
  refine ⟨hp2, kvs, rfl, by rw [r2.length]; exact q.1, ?_⟩
  have kD : Kx (C.ext (ownD1 p (.dK []))) H2 (upd H2 p (.dK (mergeK [] kvs))) := ⟨fun b xs eb => eb.upd hp2 fzDk, fun b o m eb => by rw [upd_ne (fun z => m (.inr ⟨0, .dK [], by rw [z]; rfl⟩))]; exact eb⟩
  have kk : Kx C H (upd H2 p (.dK (mergeK [] kvs))) := ⟨fun b xs eb => kD.1 b xs (k2.1 b xs (eb.updN np)), fun b o m eb => by
    have ne : b ≠ p := ne_of_none eb np
    rw [upd_ne ne]
    exact k2.2 b o (fun z => z.elim m fun ⟨_, _, e⟩ => ne (ownD1_eq e).1) (sm _ _ eb)⟩
  have r3 := (DqL.merge (.nil) r2).keep kD
  have r4 : DqL C (upd H2 p (.dK (mergeK [] kvs))) (mergeK [] kvs) (mergeG [] l) := DqL.sub (C1 := C.ext (ownD1 p (.dK []))) (C2 := C) (fun _ m => Or.inl m) rfl r3
  exact q.2 _ _ kk (C.st H2 _ kD.1 (fun b o (m : C.M b) eb => by rw [upd_ne (show b ≠ p from fun z => mp (by rw [← z]; exact m))]; exact eb) j2.1) (.dct mp (.inl upd_same) r4.kv)
/-! dict(d) -/
@[simp] def fDictD : Fr := fun ds Q => ∃ l : DL, ds = [dD l] ∧ Q (dD l)
theorem cq_dictD : CQ X C (.type "dict") fDictD := by
  refine ⟨fun pins s σ H xs us Q I r q => ?_, fun x Q Q' w ⟨es, e1, q⟩ => ⟨es, e1, w _ q⟩⟩
  obtain ⟨ds, hr, j, l, rfl, q⟩ := q
  cases hr with
  | cons h t =>
    cases t
    obtain ⟨a, kvs, rfl, m, hH, hl⟩ := dq_dct h
    refine call_dictD pins s σ H _ us Q I r ⟨a, kvs, rfl, hH, fun p np => ?_⟩
    have sm := same_upd (o := .dK kvs) np
    exact q _ _ (kxSame sm) (C.same _ _ sm j) (.dct (freshM C j np) (.inl upd_same) (hl.keep (kxSame sm)).kv)
/-! own dicts -/
def lfD (C : Cz) (t : Rho → (DL → Prop) → Prop) : TE := fun σ H Q => ∃ ρ, EnvOk C H σ ρ ∧ C.J H ∧ t ρ fun l => ∀ p kvs H1, Kx C H H1 → C.J H1 → H1 p = none → DqL C H1 kvs l → Q (.ref p) (upd H1 p (.dK kvs))
structure QFd (X : Cx) (C : Cz) (e : Expr) (t : Rho → (DL → Prop) → Prop) : Prop where
  pe : PE X e (lfD C t)
  mono : ∀ ρ Q Q', (∀ d, Q d → Q' d) → t ρ Q → t ρ Q'
theorem qfd_new : QFd X C (.Dict [] [] pos) (fun _ Q => Q []) := by
  refine ⟨PE.weak pe_dnewK fun σ H Q q => ?_, fun _ _ _ w q => w _ q⟩
  obtain ⟨ρ, he, j, q⟩ := q
  intro p np
  exact q p [] H Kx.refl j np .nil
theorem qfd_copy {p : Pos} (hg : Gl X "dict") (hm : X.mg "dict" = none) (h : QE X C a ta) (hs : starEach [a] X.env = (false, eval a X.env) :: starEach [] X.env := by rfl) : QFd X C (.Call (.Name "dict" p) [a] [] pos) (fun ρ Q => ta ρ fun d => ∃ l : DL, d = dD l ∧ Q l) := by
  refine ⟨PE.weak (pe_callTy call_dictD hg hm (by decide +kernel) (pa_cons h.pe pa_nil hs) (he := hs)) fun σ H Q q => ?_, fun ρ Q Q' w q => h.mono _ _ _ (fun d ⟨l, e, q⟩ => ⟨l, e, w _ q⟩) q⟩
  obtain ⟨ρ, he, j, q⟩ := q
  refine ⟨ρ, he, j, h.mono _ _ _ (fun d ⟨l, e, q⟩ v H1 k1 j1 r => ?_) q⟩
  subst e
  obtain ⟨a, kvs, rfl, m, hH, hl⟩ := dq_dct r
  exact ⟨a, kvs, rfl, hH, fun p np => q p kvs H1 k1 j1 np hl⟩
@[simp] def sOwnD (Ow : List Nat) (k : Nat) (t : Rho → (DL → Prop) → Prop) : P0S := fun D ρ => t (hide Ow ρ) fun l => k < ρ.length ∧ D.nx (ρ.set k (some (dD l)))
theorem qs_ownD {k : Nat} {x : Str} {pos' : Pos} {tl : Rho → (DL → Prop) → Prop} (hk : k ∈ Ow) (hN : X.N.Nodup) (hi : X.N[k]? = some x) (hx : Loc X.env.scope x) (h : ∀ C2, Ext C C2 → QFd X C2 a tl) (hs : swapsWith a (some (.Name x pos')) pos.line X.env = pure false := by rfl) (hf : X.fn x = true ∨ X.env.scope.names.lookup x = some .local := by first | exact .inl rfl | exact .inr rfl | assumption) :
    QS X C Ow (.Assign [.Name x pos'] a pos) (sOwnD Ow k tl) := by
  refine ⟨fun H0 w0 => ⟨fun pins sh σ H D I q => ?_⟩, fun ρ D D' q l => (h C Ext.refl).mono _ _ _ (fun ds q => ⟨q.1, l.1 _ q.2⟩) q⟩
  obtain ⟨ρ, w, s, q⟩ := q
  obtain ⟨he, hj⟩ := s.envX
  refine (ps_set hN hi hx (h _ (extE s.dis)).pe hs hf).run pins sh σ H D I ?_
  refine ⟨hide Ow ρ, he, hj, (h _ (extE s.dis)).mono _ _ _ (fun l q p kvs H1 k1 j1 np r => ?_) q⟩
  exact q.2 _ _ _ ((s.keep (s.keepX k1 j1) j1.1).own q.1 hk np (.dct r.kv))
/-- x[k] = v -/
@[simp] def sDset (Ow : List Nat) (k : Nat) (tk tv : P0) : P0S := fun D ρ => k ∈ Ow ∧ ∃ l : DL, ρ[k]? = some (some (dD l)) ∧ l.length < sizeLine ∧ tv (hide Ow ρ) fun d => tk (hide Ow ρ) fun y => ∃ z, y = keyD z ∧ D.nx (ρ.set k (some (dD (putG l z d))))
theorem SOk.slotD {H0 H : Hp} {w0 w : Own} {σ : L2.St} {ρ : Rho} (s : SOk C Ow H0 w0 H σ ρ w) {k : Nat} {l : DL} (hk : k ∈ Ow) (e : ρ[k]? = some (some (dD l))) : ∃ b kvs, w k = some (b, .dK kvs) ∧ σ[k]? = some (some (.ref b)) ∧ H b = some (.dK kvs) ∧ DqL (C.ext w) H kvs l := by
  obtain ⟨⟨b, o⟩, hw⟩ := s.all k hk ⟨_, e⟩
  obtain ⟨_, _, a4, a5, ds2, a6, a7⟩ := s.dom k b o hw
  rw [a6] at e
  have e2 : ds2 = dD l := Option.some.inj (Option.some.inj e)
  subst e2
  generalize hz : dD l = d at a7
  cases a7 with
  | lst r => cases hz
  | dct r =>
    cases hz
    exact ⟨b, _, hw, a4, a5, DqKv.dl r⟩
theorem qs_dset {k : Nat} {x : Str} {p1 p2 : Pos} (hp : ∀ tk, PE X b tk → PG X (.Subscript (.Name x p1) b p2) (gSub (tVar k) tk rSetD)) (hk : ∀ C2, Ext C C2 → QE X C2 b tb) (hv : ∀ C2, Ext C C2 → QE X C2 a ta) (hs : swapsWithSole [.Subscript (.Name x p1) b p2] a pos.line X.env = pure false := by rfl) (hw : swappedStores [.Subscript (.Name x p1) b p2] a X.env = pure none := by rfl) (h1 : (assignEach [.Subscript (.Name x p1) b p2] X.env).map (·.2) = [assign (.Subscript (.Name x p1) b p2) X.env] := by rfl) :
    QS X C Ow (.Assign [.Subscript (.Name x p1) b p2] a pos) (sDset Ow k tb ta) := by
  refine ⟨fun H0 w0 => ⟨fun pins sh σ H D I q => ?_⟩, fun ρ D D' ⟨hk', l, e, z, q⟩ le => ⟨hk', l, e, z, (hv C Ext.refl).mono _ _ _ (fun d q => (hk C Ext.refl).mono _ _ _ (fun y ⟨z, e, q⟩ => ⟨z, e, le.1 _ q⟩) q) q⟩⟩
  obtain ⟨ρ, w, s, hk', l, e, z, q⟩ := q
  obtain ⟨b', kvs, hw', e1, e2, r⟩ := s.slotD hk' e
  obtain ⟨he, hj⟩ := s.envX
  have xt := extE s.dis
  refine (ps_asg (hv _ xt).pe (hp _ (hk _ xt).pe) hs hw h1).run pins sh σ H D I ?_
  refine ⟨hide Ow ρ, he, hj, (hv _ xt).mono _ _ _ (fun d q v H1 k1 j1 r1 => ?_) q⟩
  refine ⟨.ref b', e1, hide Ow ρ, he.keep k1, j1, (hk _ xt).mono _ _ _ (fun y ⟨z2, ez, q⟩ u H2 k2 j2 r2 => ?_) q⟩
  subst ez
  have s2 := s.keep (s.keepX (k1.trans k2) j2) j2.1
  obtain ⟨b2, kvs2, hw2, _, e22, r22⟩ := s2.slotD hk' e
  rw [hw'] at hw2
  cases hw2
  rw [dq_key r2]
  exact ⟨b', _, rfl, DPut.k e22 (by rw [r22.length]; exact z), q _ _ _ (s2.put hw' (.dct (r22.put (r1.keep k2)).kv))⟩
end
end Kr

set_option Elab.async false
set_option linter.all false
set_option maxRecDepth 100000
set_option maxHeartbeats 4000000
namespace L2
open PySem PySem.Spec PyProof.Rows
section
variable {X : Cx}
/-- len(set(xs)) of ints -/
def tLenSetG (K : PySem.W.Frag) (te : TE) : TE := fun σ H Q => te σ H fun x H1 => ∃ (l : Addr) (ns : List Int), x = .ref l ∧ SqL K H1 l (ns.map V.int) ∧ ns.length + 1 < scanBound ∧
  ∀ us : List Int, us.Nodup → (∀ k, k ∈ us ↔ k ∈ ns) → Q (.int us.length) H1
theorem pe_lenSetG {a : Expr} {ta : TE} {p p2 q pos : Pos} (hc : X.calm = true) (hg : Gl X "len") (hm : X.mg "len" = none) (hg2 : Gl X "set") (hm2 : X.mg "set" = none) (ha : PE X a ta)
    (na : starEach [a] X.env = (false, eval a X.env) :: starEach [] X.env := by rfl) : PE X (.Call (.Name "len" p) [.Call (.Name "set" p2) [a] [] q] [] pos) (tLenSetG X.K ta) := by
  refine ⟨fun pins s σ H Q I h => ?_⟩
  refine Call_ (ld_blt (u := .builtin "len") I hg hm boot_len ?_)
  refine PyProof.Rows.callWith_builtin1 (PyProof.Rows.args_cons ?_ rfl) rfl rfl
  refine Call_ (ld_blt (u := .type "set") I hg2 hm2 (by decide +kernel) ?_)
  refine PyProof.Rows.callWith_type1 (PyProof.Rows.args_cons (thn (ha.run pins s σ H _ I h) fun v s1 ⟨x, H1, I1, r1, q1⟩ => PyProof.Rows.args_nil ?_) na) na rfl
  obtain ⟨l, ns, rfl, hq, hb, q1⟩ := q1
  cases r1
  obtain ⟨its, r, pl, hz⟩ := I1.list hq
  refine call_set_lstI ns (I1.ok.hd hc) pl.isList (by simpa using r.ints) hb fun h' tk c hS hc2 hk => ?_
  refine PyProof.Rows.args_nil ?_
  have I2 : Inv X pins σ H1 { s1 with heap := h', toks := tk } := I1.kept hk
  obtain ⟨o, es, ep, t, ho, hex, hd, g, nd, hmem, hsb, hf, hn, _⟩ := hS
  have hl : (es.toList.map keyOf).length = es.size := by rw [List.length_map, Array.length_toList]
  have hsz : (es.size : Int) < 2 ^ 63 := by
    have : es.size < scanBound := hsb
    have e : scanBound = 4096 := rfl
    omega
  refine call_len_set ho hex hd hf hsz ⟨.int es.size, H1, I2.tok _, ⟨_, rfl⟩, ?_⟩
  have := q1 (es.toList.map keyOf) nd (fun k => by rw [← hmem k]; simp)
  rw [hl] at this
  exact this
/-- list(d.values()) -/
def tListVals (te : TE) : TE := fun σ H Q => te σ H fun x H1 => ∃ (d : Addr) (kvs : List (Key × V)), x = .ref d ∧ Rd H1 d (.dK kvs) ∧ ∀ p, H1 p = none → Q (.ref p) (upd H1 p (.lst (kvs.map (·.2))))
theorem kv_vals : ∀ {kvs : List (Key × V)} {vs : List (Key × Value)}, KV kvs vs → Vals (kvs.map (·.2)) (vs.map (·.2))
  | _, _, .nil => .nil
  | _, _, .cons h t => .cons h.2 (kv_vals t)
theorem pe_listVals {e : Expr} {te : TE} {p apos cpos pos : Pos} (hc : X.calm = true) (he : PE X e te) (hg : Gl X "list") (hm : X.mg "list" = none) (hbase : attributeBase e "values" X.env (eval e X.env) = eval e X.env := by rfl) (hline : (apos.endLine == cpos.line) = true := by rfl)
    (hs : starEach [.Call (.Attribute e "values" apos) [] [] cpos] X.env = (false, eval (.Call (.Attribute e "values" apos) [] [] cpos) X.env) :: starEach [] X.env := by rfl) :
    PE X (.Call (.Name "list" p) [.Call (.Attribute e "values" apos) [] [] cpos] [] pos) (tListVals te) := by
  refine ⟨fun pins s σ H Q I hq => ?_⟩
  refine wpAny_Call_Name_kw (ld_blt (u := .type "list") I hg hm (by decide +kernel) (PyProof.Rows.callWith_type1 ?_ hs rfl))
  rw [hs]
  show wpAny _ _ (spliced ((false, eval (.Call (.Attribute e "values" apos) [] [] cpos) X.env) :: backTo pos (starEach [] X.env))) _ _ s
  refine Calls.spliced_cons ?_
  refine wpAny_Call_method (T := "dict") (id := "dict.values") hbase rfl hline F.plainAttrs_dict F.slot_dict_values F.type_dict_values (thn (he.run pins s σ H _ I hq) fun u s1 ⟨x, H1, I1, rx, d, kvs, ex, hd, q⟩ => ?_)
  subst ex
  obtain rfl : u = Value.ref d := rx
  obtain ⟨hz, hs0, vs, kv, hdo⟩ := (show ObjOk X.prog X.w H1 s1.heap d (.dK kvs) from Rd.ok hd I1.hok)
  obtain ⟨ep, hat⟩ := hdo.dictAt
  have lk : kvs.length = vs.length := Paired.length kv
  have I2 : Inv X pins σ H1 { s1 with heap := s1.heap.push { cls := .type "dict_values", data := .fields #[.ref d] } } := I1.kept (t' := s1.toks) fun b ob q => Heap.get?_push_of_some _ q
  refine ⟨hdo.typeIs, hdo.mapOf.noDict, ?_⟩
  show wpAny _ _ (callWith cpos (.builtin "dict.values") [.ref d] [] []) _ X.xe s1
  refine method_meetsIn F.slot_dict_values F.entry_dict_values rfl (PySem.evalArgs_none ⟨rfl, hdo.typeIs, F.args_dict_values_1 _, _, meets_dict_values (mixKind X.prog X.w) d hs0, ⟨vs, hdo⟩, ?_⟩)
  refine Calls.spliced_nil ?_
  refine PySem.W.kdl_call (T := "dict_values") (P := fun i v => ∃ k, vs[i]? = some (k, v)) (PySem.W.kdl_values (knd := mixKind X.prog X.w) (kvs := vs) (ep := ep) (r := s1.heap.objs.size) (d := d)) (I1.ok.hd hc) ⟨⟨_, Heap.get?_push_size _ rfl, rfl, rfl⟩, hat.push _⟩ (by omega) fun h' tk acc c hk hS hacc => ?_
  have ev : acc.toList = vs.map (·.2) := PySem.W.kdl_vals_eq acc.toList (by simpa using hacc.1) (fun j v hj => hacc.2 j v (by simpa using hj))
  have np := I2.hok.fresh (Nat.le_refl _)
  refine ⟨.ref _, _, I2.laid (t' := tk) hk (Nat.le_refl _) (show ObjOk X.prog X.w _ h' _ (.lst (kvs.map (·.2))) from ⟨by rw [List.length_map]; exact hz, acc.toList, c, by rw [ev]; exact kv_vals kv, by simpa using hS⟩), rfl, q _ np⟩
end
end L2
namespace Kr
open PySem PySem.Spec PyProof.Rows L2
section
variable {X : Cx} {C : Cz} {pos : Pos} {a b : Expr} {ta tb : P0} {Ow : List Nat}
@[simp] def vLenSet (ta : P0) : P0 := fun ρ Q => ta ρ fun d => ∃ ns : List Int, d = .list (ns.map .int) ∧ ns.length ≤ 4000 ∧ ∀ us : List Int, us.Nodup → (∀ k, k ∈ us ↔ k ∈ ns) → Q (.int us.length)
theorem qe_lenSet {p p2 q : Pos} (hc : X.calm = true) (hg : Gl X "len") (hm : X.mg "len" = none) (hg2 : Gl X "set") (hm2 : X.mg "set" = none) (h : QE X C a ta) (na : starEach [a] X.env = (false, eval a X.env) :: starEach [] X.env := by rfl) :
    QE X C (.Call (.Name "len" p) [.Call (.Name "set" p2) [a] [] q] [] pos) (vLenSet ta) := by
  refine ⟨PE.weak (pe_lenSetG hc hg hm hg2 hm2 h.pe na) fun σ H Q q => ?_, fun ρ Q Q' w q => h.mono _ _ _ (fun d ⟨ns, e, l, q⟩ => ⟨ns, e, l, fun us h1 h2 => w _ (q us h1 h2)⟩) q⟩
  obtain ⟨ρ, he, j, q⟩ := q
  refine ⟨ρ, he, j, h.mono _ _ _ (fun d ⟨ns, e, hl, q⟩ v H' k1 j1 r => ?_) q⟩
  subst e
  cases r with
  | @lst a vs _ m h1 r =>
    rw [dq_ints r] at h1
    exact ⟨a, ns, rfl, .inl (.inl h1), Nat.lt_of_le_of_lt (show ns.length + 1 ≤ 4001 by omega) (by decide), fun us h2 h3 => q us h2 h3 _ _ k1 j1 (.int _)⟩
@[simp] def vListVals (ta : P0) : P0 := fun ρ Q => ta ρ fun d => ∃ l : DL, d = dD l ∧ Q (.list (l.map (·.2)))
theorem DqL.vals {H : Hp} : ∀ {kvs : List (Key × V)} {l : DL}, DqL C H kvs l → DqAll C H (kvs.map (·.2)) (l.map (·.2))
  | _, _, .nil => .nil
  | _, _, .cons h t => .cons h (DqL.vals t)
theorem qe_listVals {p apos cpos : Pos} (hc : X.calm = true) (hg : Gl X "list") (hm : X.mg "list" = none) (h : QE X C a ta) (hbase : attributeBase a "values" X.env (eval a X.env) = eval a X.env := by rfl) (hline : (apos.endLine == cpos.line) = true := by rfl)
    (hs : starEach [.Call (.Attribute a "values" apos) [] [] cpos] X.env = (false, eval (.Call (.Attribute a "values" apos) [] [] cpos) X.env) :: starEach [] X.env := by rfl) :
    QE X C (.Call (.Name "list" p) [.Call (.Attribute a "values" apos) [] [] cpos] [] pos) (vListVals ta) := by
  refine ⟨PE.weak (pe_listVals hc h.pe hg hm hbase hline hs) fun σ H Q q => ?_, fun ρ Q Q' w q => h.mono _ _ _ (fun d ⟨l, e, q⟩ => ⟨l, e, w _ q⟩) q⟩
  obtain ⟨ρ, he, j, q⟩ := q
  refine ⟨ρ, he, j, h.mono _ _ _ (fun d ⟨l, e, q⟩ v H' k1 j1 r => ?_) q⟩
  subst e
  obtain ⟨a', kvs, rfl, m, hH, hl⟩ := dq_dct r
  refine ⟨a', kvs, rfl, hH, fun p np => ?_⟩
  have sm := same_upd (o := .lst (kvs.map (·.2))) np
  exact q _ _ (k1.trans (kxSame sm)) (C.same _ _ sm j1) (.lst (freshM C j1 np) upd_same (hl.vals.keep (kxSame sm)))
/-! k, (x, y) -/
def dNest (k x y : Nat) : Dec := fun d => match d with
  | .tuple [i, .tuple [u, v]] => some [(k, i), (x, u), (y, v)]
  | _ => none
theorem qg_nest {es : List Expr} {n k x y : Nat} {pos : Pos} (h : PG X (.Tuple es n pos) (gTup X.K 2 (gCons (gName k) (gCons (gTup X.K 2 (gNames [x, y])) gNil)))) : QG X X.K C (.Tuple es n pos) (gTup X.K 2 (gCons (gName k) (gCons (gTup X.K 2 (gNames [x, y])) gNil))) (dNest k x y) :=
  ⟨h, fun H σ v d l Q r e q => by
    match d, e with
    | .tuple [i, .tuple [u, w]], e =>
      cases e
      have go : ∀ a xs, v = .ref a → SqT X.K H a xs → DqAll C H xs [i, .tuple [u, w]] → gTup X.K 2 (gCons (gName k) (gCons (gTup X.K 2 (gNames [x, y])) gNil)) v σ H Q := fun a xs ev hH hr => by
        subst ev
        cases hr with
        | cons h1 hr =>
          cases hr with
          | cons h2 hr =>
            cases hr
            cases h2 with
            | @tup a2 ys _ hH2 hr2 =>
              cases hr2 with
              | cons g1 hr2 =>
                cases hr2 with
                | cons g2 hr2 =>
                  cases hr2
                  exact ⟨a, _, rfl, hH, rfl, _, _, rfl, _, _, rfl, ⟨a2, _, rfl, hH2.sq, rfl, _, _, rfl, _, _, rfl, rfl, ⟨rfl, q _ (.cons h1 (.cons g1 (.cons g2 .nil)))⟩⟩⟩
      rcases r with r | ⟨_, a, xs, ds, ex, ed, hH, hr⟩
      · cases r with
        | @tup a xs _ hH hr => exact go a xs rfl hH.sq hr
      · cases ed
        exact go a xs ex (.inl (.inl hH)) hr⟩
end
end Kr

set_option Elab.async false
set_option linter.all false
set_option maxRecDepth 100000
namespace Kr
open PySem PySem.Spec PyProof.Rows L2
theorem hu65 {k : Nat} {A : Around} (h : Room k A) : A.units + 65 < cLine := by
  have := h.un
  omega
theorem hu70 {k : Nat} {A : Around} (h : Room k A) : A.units + 70 < cLine := by
  have := h.un
  omega
theorem eqA_of {d e : PyData} (h1 : isTok d = false) (h2 : shp d = true) (h3 : shp e = true) : eqA d e = true := by
  simp [eqA, h1, h2, h3]
@[simp] theorem eqA_int (i j : Int) : eqA (.int i) (.int j) = true := rfl
@[simp] theorem eqA_bool (i j : Bool) : eqA (.bool i) (.bool j) = true := rfl
@[simp] theorem eqv_bool (i j : Bool) : PyData.eqv (.bool i) (.bool j) = (i == j) := by simp [PyData.eqv]
theorem rDpI {K : PySem.W.Frag} {H : Hp} : ∀ ns : List Int, DpAll K H (ns.map V.int) (ns.map .int)
  | [] => .nil
  | n :: r => .cons (.int n) (rDpI r)
theorem rLay : ∀ ns : List Int, PyData.canLayAll0 (ns.map .int) = true
  | [] => rfl
  | n :: r => by
    show (true && PyData.canLayAll0 (r.map .int)) = true
    rw [rLay r]
    rfl
theorem rDep : ∀ ns : List Int, PyData.depthAll (ns.map .int) = 0
  | [] => rfl
  | n :: r => by
    show max 0 (PyData.depthAll (r.map .int)) = 0
    rw [rDep r]
    rfl
theorem rShpL (ns : List Int) : SeqAt.shaped (.list (ns.map .int)) = true := by
  have h1 : (PyData.list (ns.map .int)).canLay0 = true := rLay ns
  have h2 : (PyData.list (ns.map .int)).depth ≤ 64 := by
    show PyData.depthAll (ns.map .int) + 1 ≤ 64
    rw [rDep]
    decide
  unfold SeqAt.shaped
  rw [h1, decide_eq_true h2]
  rfl
theorem rShpT (ns : List Int) : SeqAt.shaped (.tuple (ns.map .int)) = true := rShpL ns
theorem rEqvI : ∀ ns ms : List Int, PyData.eqvAll (ns.map .int) (ms.map .int) = decide (ns = ms)
  | [], [] => rfl
  | [], _ :: _ => rfl
  | _ :: _, [] => rfl
  | n :: r, m :: q => by
    show ((PyData.int n).eqv (.int m) && PyData.eqvAll (r.map .int) (q.map .int)) = _
    rw [rEqvI r q]
    unfold PyData.eqv
    by_cases e : n = m
    · subst e
      by_cases e2 : r = q
      · subst e2
        simp
      · simp [e2]
    · simp [e]
theorem rEqvL (ns ms : List Int) : PyData.eqv (.list (ns.map .int)) (.list (ms.map .int)) = decide (ns = ms) := by
  unfold PyData.eqv
  exact rEqvI ns ms
theorem eqvT_ints (ns ms : List Int) : PyData.eqv (.tuple (ns.map .int)) (.tuple (ms.map .int)) = decide (ns = ms) := by
  unfold PyData.eqv
  exact rEqvI ns ms
end Kr

set_option Elab.async false
set_option linter.all false
set_option maxRecDepth 100000
namespace Kr
open PySem PySem.Spec PyProof.Rows L2
def topS (i : Nat) : Stmt := PySem.Challenge.pw_fairsearch_k11_what_is_a_filling.main.body.getD i (.Pass ⟨0, 0, 0, 0⟩)
end Kr

set_option Elab.async false
set_option linter.all false
set_option maxRecDepth 100000
set_option maxHeartbeats 4000000
namespace Kr
open PySem PySem.Spec PyProof.Rows L2
abbrev s_is_whole : Stmt := topS 2
theorem sc_is_whole : FnScope ["thing"] ["thing"] (defScope s_is_whole) := ⟨rfl, rfl, rfl, by decide +kernel, rfl, by decide +kernel, by decide +kernel⟩
abbrev s_is_tuple_of : Stmt := topS 3
theorem sc_is_tuple_of : FnScope ["thing", "many"] ["thing", "many"] (defScope s_is_tuple_of) := ⟨rfl, rfl, rfl, by decide +kernel, rfl, by decide +kernel, by decide +kernel⟩
abbrev s_is_word : Stmt := topS 4
theorem sc_is_word : FnScope ["thing", "sign"] ["thing"] (defScope s_is_word) := ⟨rfl, rfl, rfl, by decide +kernel, rfl, by decide +kernel, by decide +kernel⟩
abbrev s_is_atom : Stmt := topS 5
theorem sc_is_atom : FnScope ["thing"] ["thing"] (defScope s_is_atom) := ⟨rfl, rfl, rfl, by decide +kernel, rfl, by decide +kernel, by decide +kernel⟩
abbrev s_is_marked : Stmt := topS 6
theorem sc_is_marked : FnScope ["thing"] ["thing"] (defScope s_is_marked) := ⟨rfl, rfl, rfl, by decide +kernel, rfl, by decide +kernel, by decide +kernel⟩
abbrev s_is_unknown : Stmt := topS 7
theorem sc_is_unknown : FnScope ["thing"] ["thing"] (defScope s_is_unknown) := ⟨rfl, rfl, rfl, by decide +kernel, rfl, by decide +kernel, by decide +kernel⟩
abbrev s_is_pair : Stmt := topS 8
theorem sc_is_pair : FnScope ["thing"] ["thing"] (defScope s_is_pair) := ⟨rfl, rfl, rfl, by decide +kernel, rfl, by decide +kernel, by decide +kernel⟩
abbrev s_is_leaf : Stmt := topS 9
theorem sc_is_leaf : FnScope ["thing"] ["thing"] (defScope s_is_leaf) := ⟨rfl, rfl, rfl, by decide +kernel, rfl, by decide +kernel, by decide +kernel⟩
abbrev s_is_term : Stmt := topS 10
theorem sc_is_term : FnScope ["thing", "leaf"] ["thing"] (defScope s_is_term) := ⟨rfl, rfl, rfl, by decide +kernel, rfl, by decide +kernel, by decide +kernel⟩
abbrev s_leaves_of : Stmt := topS 11
theorem sc_leaves_of : FnScope ["things", "leaves", "waiting", "part"] ["things"] (defScope s_leaves_of) := ⟨rfl, rfl, rfl, by decide +kernel, rfl, by decide +kernel, by decide +kernel⟩
/-! anything, clean of tokens -/
mutual
def cl : PyData → Bool
  | .str z => decide (z.length ≤ 100000)
  | .list xs => clAll xs
  | .tuple xs => clAll xs
  | .dict ((.none, _) :: _) => false
  | _ => true
def clAll : List PyData → Bool
  | [] => true
  | x :: xs => cl x && clAll xs
end
theorem cl_tok {d : PyData} (h : cl d = true) : isTok d = false := by
  cases d with
  | dict kvs =>
    match kvs, h with
    | [], _ => rfl
    | (.none, _) :: _, h => simp [cl] at h
    | (.bool _, _) :: _, _ => rfl
    | (.int _, _) :: _, _ => rfl
    | (.str _, _) :: _, _ => rfl
    | (.list _, _) :: _, _ => rfl
    | (.tuple _, _) :: _, _ => rfl
    | (.dict _, _) :: _, _ => rfl
  | _ => rfl
theorem cl_all {xs : List PyData} (h : cl (.tuple xs) = true) : clAll xs = true := by simpa [cl] using h
theorem cl_cons {x : PyData} {xs : List PyData} (h : clAll (x :: xs) = true) : cl x = true ∧ clAll xs = true := by simpa [clAll] using h
@[simp] def p1 (p : PyData → Prop) : List PyData → Prop := fun ds => ∃ x, ds = [x] ∧ p x
@[simp] def r1 (f : PyData → PyData) : List PyData → PyData → Prop := fun ds d => ∃ x, ds = [x] ∧ d = f x
@[simp] def b1 (f : PyData → Bool) : List PyData → PyData → Prop := r1 fun x => .bool (f x)
theorem len1 {p : PyData → Prop} {a : Str} : ∀ ds, p1 p ds → ds.length = [a].length := by rintro _ ⟨x, rfl, _⟩; rfl
def isWhole : PyData → Bool
  | .int _ => true
  | _ => false
def signOk (c : Nat) : Bool := decide (97 ≤ c) && decide (c ≤ 122)
def isWordS (z : Str) : Bool := decide (1 ≤ z.length) && decide (z.length ≤ 8) && z.cps.toList.all signOk
def isWord : PyData → Bool
  | .str z => isWordS z
  | _ => false
def isAtom (d : PyData) : Bool := isWhole d || isWord d
def isQ (d : PyData) : Bool := PyData.eqv d (.str "?")
def isMk : PyData → Bool
  | .tuple [a, _] => isQ a
  | _ => false
def isPr : PyData → Bool
  | .tuple [a, _] => !isQ a
  | _ => false
def isUk : PyData → Bool
  | .tuple [a, .int n] => isQ a && decide (0 ≤ n)
  | _ => false
def isNil : PyData → Bool
  | .tuple [] => true
  | _ => false
def isLeaf (d : PyData) : Bool := isNil d || isAtom d || isUk d
theorem small2 : ∀ n : Nat, n ≤ 100000 → n ≤ sizeLine := fun n h => Nat.le_trans h (by decide)
/-! comprehensions -/
theorem lc_go {ks : List Nat} {dec : Dec} {tt : P0T} {te : P0} {ρ : Rho} {Q : PyData → Prop} (f : PyData → Option PyData) : ∀ (ds acc : List PyData), acc.length + ds.length ≤ 1000000 →
    (∀ d ∈ ds, ∃ l, dec d = some l ∧ (∀ p ∈ l, p.1 ∈ ks) ∧ ∀ R : Option PyData → Prop, R (f d) → tt (setsR ρ l) fun b => if b = true then te (setsR ρ l) fun y => R (some y) else R none) → Q (.list (acc ++ ds.filterMap f)) → lcGo ks dec tt te ρ Q ds acc
  | [], acc, _, _, q => by
    rw [List.filterMap_nil, List.append_nil] at q
    exact q
  | d :: ds, acc, hl, h, q => by
    obtain ⟨l, e, c, hr⟩ := h d (List.mem_cons_self ..)
    rw [List.length_cons] at hl
    have rest := fun d hd => h d (List.mem_cons_of_mem _ hd)
    have big : acc.length < sizeLine := Nat.lt_of_lt_of_le (show acc.length < 1000000 by omega) (by decide)
    refine ⟨l, e, c, ?_⟩
    have := hr (fun o => match o with | some y => acc.length < sizeLine ∧ lcGo ks dec tt te ρ Q ds (acc ++ [y]) | none => lcGo ks dec tt te ρ Q ds acc) ?_
    · exact this
    · cases hf : f d with
      | none => exact lc_go f ds acc (by omega) rest (by rw [List.filterMap_cons, hf] at q; exact q)
      | some y => exact ⟨big, lc_go f ds (acc ++ [y]) (by rw [List.length_append]; show acc.length + 1 + _ ≤ _; omega) rest (by rw [List.filterMap_cons, hf] at q; simpa using q)⟩
section
variable {P : Program} {w : World} {K : PySem.W.Frag} {mg : Str → Option Value} {base : Heap} {n : Nat}
theorem c_is_whole (B : Bl mg) (D : Dfn K mg "is_whole" s_is_whole ["thing"]) : Cal P w K mg base (n + 1) "is_whole" ["thing"] (spQ Any (p1 fun x => isTok x = false) (b1 isWhole)) := by
  refine defG [] D sc_is_whole len1 (by simp) (fun f C hG cdv A outer s H E g0 hr => ⟨_, (qss_one (qs_ret (qe_and (qe_isi "int" (by decide) (fun _ h => pe_callB call_isi (by rfl) B.isinstance (by decide +kernel) (pa_cons h (pa_cons (pe_bltn (v := .ty "int") (by rfl) B.int (by decide +kernel) rfl) pa_nil))) (qv 0)) (qe_one (qe_not (qe_isi "bool" (by decide) (fun _ h => pe_callB call_isi (by rfl) B.isinstance (by decide +kernel) (pa_cons h (pa_cons (pe_bltn (v := .ty "bool") (by rfl) B.bool (by decide +kernel) rfl) pa_nil))) (qv 0))))))), ?_⟩)
  rintro _ ⟨x, rfl, hx⟩
  cases x <;> simp [isWhole, hx]
def isTupOf : PyData → Int → Bool
  | .tuple xs, n => ((xs.length : Int) == n)
  | _, _ => false
@[simp] def toF : List PyData → Bool
  | [x, .int n] => isTupOf x n
  | _ => false
@[simp] def pTo : List PyData → Prop := fun ds => ∃ x n, ds = [x, .int n] ∧ isTok x = false
@[simp] def rTo : List PyData → PyData → Prop := fun ds d => d = .bool (toF ds)
theorem c_is_tuple_of (B : Bl mg) (D : Dfn K mg "is_tuple_of" s_is_tuple_of ["thing", "many"]) : Cal P w K mg base (n + 1) "is_tuple_of" ["thing", "many"] (spQ Any pTo rTo) := by
  refine defG [] D sc_is_tuple_of (by rintro _ ⟨x, n, rfl, _⟩; rfl) (by simp) (fun f C hG cdv A outer s H E g0 hr => ⟨_, (qss_one (qs_ret (qe_and (qe_isi "tuple" (by decide) (fun _ h => pe_callB call_isi (by rfl) B.isinstance (by decide +kernel) (pa_cons h (pa_cons (pe_bltn (v := .ty "tuple") (by rfl) B.tuple (by decide +kernel) rfl) pa_nil))) (qv 0)) (qe_one (qe_cmp (oq_eqA hr.units) (qe_callB cq_len (by rfl) B.len PySem.boot_len (qa_cons (qv 0) qa_nil)) (qv 1) (nomark _)))))), ?_⟩)
  rintro _ ⟨x, m, rfl, hx⟩
  cases x <;> simp [isTupOf, hx]
theorem c_is_marked (B : Bl mg) (D : Dfn K mg "is_marked" s_is_marked ["thing"]) (c_is_tuple_of : Cal P w K mg base n "is_tuple_of" ["thing", "many"] (spQ Any pTo rTo)) : Cal P w K mg base (n + 1) "is_marked" ["thing"] (spQ Any (p1 fun x => cl x = true) (b1 isMk)) := by
  refine defG [] D sc_is_marked len1 (by simp) (fun f C hG cdv A outer s H E g0 hr => ⟨_, (qss_one (qs_ret (qe_and (qe_cal c_is_tuple_of trivial g0 hr (by rfl) (qa_cons (qv 0) (qa_cons qe_int qa_nil))) (qe_one (qe_cmp (oq_eqA hr.units) (qe_ix (qv 0) qe_int (fun _ _ => rfl)) qe_str (nomark _)))))), ?_⟩)
  rintro _ ⟨x, rfl, hx⟩
  have ht := cl_tok hx
  cases x with
  | tuple xs =>
    match xs, hx with
    | [], _ => simp [isMk, isTupOf, ht]
    | [a], _ => simp [isMk, isTupOf, ht]
    | [a, b], h => simp [isMk, isTupOf, L2.atI, ixN, cl_tok (cl_cons (cl_all h)).1, isQ, ht]
    | a :: b :: c :: r, _ =>
      simp [isMk, isTupOf, ht]
      omega
  | _ => simp [ht, isMk, isTupOf]
theorem c_is_pair (B : Bl mg) (D : Dfn K mg "is_pair" s_is_pair ["thing"]) (c_is_tuple_of : Cal P w K mg base n "is_tuple_of" ["thing", "many"] (spQ Any pTo rTo)) : Cal P w K mg base (n + 1) "is_pair" ["thing"] (spQ Any (p1 fun x => cl x = true) (b1 isPr)) := by
  refine defG [] D sc_is_pair len1 (by simp) (fun f C hG cdv A outer s H E g0 hr => ⟨_, (qss_one (qs_ret (qe_and (qe_cal c_is_tuple_of trivial g0 hr (by rfl) (qa_cons (qv 0) (qa_cons qe_int qa_nil))) (qe_one (qe_cmp (oq_neA hr.units) (qe_ix (qv 0) qe_int (fun _ _ => rfl)) qe_str (nomark _)))))), ?_⟩)
  rintro _ ⟨x, rfl, hx⟩
  have ht := cl_tok hx
  cases x with
  | tuple xs =>
    match xs, hx with
    | [], _ => simp [isPr, isTupOf, ht]
    | [a], _ => simp [isPr, isTupOf, ht]
    | [a, b], h => simp [isPr, isTupOf, L2.atI, ixN, cl_tok (cl_cons (cl_all h)).1, isQ, ht]
    | a :: b :: c :: r, _ =>
      simp [isPr, isTupOf, ht]
      omega
  | _ => simp [ht, isPr, isTupOf]
theorem c_is_unknown (B : Bl mg) (D : Dfn K mg "is_unknown" s_is_unknown ["thing"]) (c_is_marked : Cal P w K mg base n "is_marked" ["thing"] (spQ Any (p1 fun x => cl x = true) (b1 isMk))) (c_is_whole : Cal P w K mg base n "is_whole" ["thing"] (spQ Any (p1 fun x => isTok x = false) (b1 isWhole))) :
    Cal P w K mg base (n + 1) "is_unknown" ["thing"] (spQ Any (p1 fun x => cl x = true) (b1 isUk)) := by
  refine defG [] D sc_is_unknown len1 (by simp) (fun f C hG cdv A outer s H E g0 hr => ⟨_, (qss_one (qs_ret (qe_and (qe_cal c_is_marked trivial g0 hr (by rfl) (qa_cons (qv 0) qa_nil)) (qe_and (qe_cal c_is_whole trivial g0 hr (by rfl) (qa_cons (qe_ix (qv 0) qe_int (fun _ _ => rfl)) qa_nil)) (qe_one (qe_cmp oq_ge (qe_ix (qv 0) qe_int (fun _ _ => rfl)) qe_int (nomark _))))))), ?_⟩)
  rintro _ ⟨x, rfl, hx⟩
  cases x with
  | tuple xs =>
    match xs, hx with
    | [], hx => simp [isMk, isUk, hx]
    | [a], hx => simp [isMk, isUk, hx]
    | [a, b], h =>
      have hb := cl_tok (cl_cons (cl_cons (cl_all h)).2).1
      cases hq : isQ a with
      | false => cases b <;> simp [isMk, isUk, L2.atI, ixN, h, hq]
      | true => cases b <;> simp [isMk, isUk, L2.atI, ixN, h, hq, hb, isWhole]
    | a :: b :: c :: r, hx => cases b <;> simp [isMk, isUk, hx]
  | _ => simp [isMk, isUk, hx]
theorem one_lt (a b : Nat) : ([a] < [b]) = (a < b) := by
  apply propext
  rw [List.cons_lt_cons_iff]
  constructor
  · rintro (h | ⟨_, h⟩)
    · exact h
    · exact absurd h (List.not_lt_nil _)
  · exact .inl
theorem c_is_word (B : Bl mg) {tk : Tok} (v_WORD_LETTERS : mg "WORD_LETTERS" = some (.int 8 tk)) (D : Dfn K mg "is_word" s_is_word ["thing"]) : Cal P w K mg base (n + 1) "is_word" ["thing"] (spQ Any (p1 fun x => cl x = true) (b1 isWord)) := by
  refine defG [] D sc_is_word len1 (by simp) (fun f C hG cdv A outer s H E g0 hr => ⟨_, (qss_cons (qs_if (qt_not (qt_val (qe_isi "str" (by decide) (fun _ h => pe_callB call_isi (by rfl) B.isinstance (by decide +kernel) (pa_cons h (pa_cons (pe_bltn (v := .ty "str") (by rfl) B.str (by decide +kernel) rfl) pa_nil))) (qv 0)))) (qss_one (qs_ret qe_bl)) qss_nil) (qss_one (qs_ret (qe_and (qe_chain oq_le oq_le qe_int (qe_callB cq_len (by rfl) B.len PySem.boot_len (qa_cons (qv 0) qa_nil)) (qe_glob (by rfl) v_WORD_LETTERS) (fun a b c d e => pe_chain a b c d e)) (qe_one (qe_callB (cq_all rfl) (by rfl) B.all (by decide +kernel) (qa_cons (qe_lc (own := [("sign", 1)]) (G := (gName 1)) (dec := (dName 1)) rfl sc_is_word.nd (qi_str (qv 0)) (blkOk_by (own := [("sign", 1)]) (N := ["thing", "sign"]) (sc := defScope s_is_word) (by decide +kernel)) (fun _ _ _ _ _ _ => (qg_name (k := 1) sc_is_word.nd rfl (by first | exact Or.inl rfl | exact Or.inr rfl))) (fun _ x1 => (fun _ _ _ _ _ => qts_nil)) (fun _ x2 => (fun _ _ _ _ _ => (qe_chain oq_leS oq_leS qe_str (qv 1) qe_str (fun a b c d e => pe_chain a b c d e))))) qa_nil))))))), ?_⟩)
  rintro _ ⟨x, rfl, hx⟩
  have ht := cl_tok hx
  cases x with
  | str z =>
    have hz : z.length ≤ 100000 := by simpa [cl] using hx
    have hz2 := small2 _ hz
    simp [ht, hz2]
    by_cases h1 : (1 : Int) ≤ z.length
    · rw [if_pos h1]
      by_cases h2 : (z.length : Int) ≤ 8
      · rw [if_pos h2]
        have zs : z.cps.toList.length = z.length := by simp [Str.length]
        refine lc_go (fun d => match d with | .str y => some (.bool ((y.cps.toList.headD 0 |> signOk))) | _ => none) _ _ ?_ ?_ ?_
        · rw [List.length_map, zs]
          show 0 + z.length ≤ _
          omega
        · intro d hd
          obtain ⟨c, hc, rfl⟩ := List.mem_map.mp hd
          refine ⟨[(1, .str ⟨#[c]⟩)], rfl, by simp, fun R hR => ?_⟩
          have k1 : (!decide ((⟨#[c]⟩ : Str).cps.toList < (Str.ofString "a").cps.toList)) = decide (97 ≤ c) := by
            rw [show (Str.ofString "a").cps.toList = [97] from rfl]
            have e := one_lt c 97
            by_cases h : 97 ≤ c
            · simp [e, h]
            · simp [e, h]
              omega
          have k2 : (!decide ((Str.ofString "z").cps.toList < (⟨#[c]⟩ : Str).cps.toList)) = decide (c ≤ 122) := by
            rw [show (Str.ofString "z").cps.toList = [122] from rfl]
            have e := one_lt 122 c
            by_cases h : c ≤ 122
            · simp [e, h]
            · simp [e, h]
              omega
          have hR' : R (some (.bool (decide (97 ≤ c) && decide (c ≤ 122)))) := hR
          show vChain rLeS rLeS (vC (.str "a")) (vVar 1) (vC (.str "z")) [some (.str z), some (.str ⟨#[c]⟩)] fun y => R (some y)
          refine ⟨_, rfl, _, _, rfl, rfl, _, rfl, ?_⟩
          rw [k1]
          by_cases h : 97 ≤ c
          · rw [if_pos (decide_eq_true h)]
            refine ⟨_, _, rfl, rfl, ?_⟩
            rw [k2]
            rw [decide_eq_true h, Bool.true_and] at hR'
            exact hR'
          · rw [if_neg (by simpa using h)]
            rw [decide_eq_false h, Bool.false_and] at hR'
            exact hR'
        · refine ⟨z.cps.toList.map signOk, ?_, ?_⟩
          · rw [List.nil_append, List.filterMap_map, List.map_map]
            exact congrArg PyData.list (List.filterMap_eq_map (f := fun c => PyData.bool (signOk c)) ▸ rfl)
          · show _ = (decide (1 ≤ z.length) && decide (z.length ≤ 8) && z.cps.toList.all signOk)
            rw [decide_eq_true (show 1 ≤ z.length by omega), decide_eq_true (show z.length ≤ 8 by omega), List.all_map]
            rfl
      · rw [if_neg h2]
        show (decide (1 ≤ z.length) && decide (z.length ≤ 8) && z.cps.toList.all signOk) = false
        rw [decide_eq_false (show ¬ z.length ≤ 8 by omega)]
        simp
    · rw [if_neg h1]
      show (decide (1 ≤ z.length) && decide (z.length ≤ 8) && z.cps.toList.all signOk) = false
      rw [decide_eq_false (show ¬ 1 ≤ z.length by omega)]
      simp
  | _ => simp [ht, isWord]
theorem c_is_atom (D : Dfn K mg "is_atom" s_is_atom ["thing"]) (c_is_word : Cal P w K mg base n "is_word" ["thing"] (spQ Any (p1 fun x => cl x = true) (b1 isWord))) (c_is_whole : Cal P w K mg base n "is_whole" ["thing"] (spQ Any (p1 fun x => isTok x = false) (b1 isWhole))) :
    Cal P w K mg base (n + 1) "is_atom" ["thing"] (spQ Any (p1 fun x => cl x = true) (b1 isAtom)) := by
  refine defG [] D sc_is_atom len1 (by simp) (fun f C hG cdv A outer s H E g0 hr => ⟨_, (qss_one (qs_ret (qe_or (qe_cal c_is_whole trivial g0 hr (by rfl) (qa_cons (qv 0) qa_nil)) (qe_one (qe_cal c_is_word trivial g0 hr (by rfl) (qa_cons (qv 0) qa_nil)))))), ?_⟩)
  rintro _ ⟨x, rfl, hx⟩
  cases h : isWhole x <;> simp [isAtom, hx, cl_tok hx, h]
theorem eqv_nil (d : PyData) : PyData.eqv d (.tuple []) = isNil d := by
  cases d with
  | tuple xs => cases xs <;> simp [PyData.eqv, PyData.eqvAll, isNil]
  | _ => simp [PyData.eqv, isNil]
theorem c_is_leaf (D : Dfn K mg "is_leaf" s_is_leaf ["thing"]) (c_is_atom : Cal P w K mg base n "is_atom" ["thing"] (spQ Any (p1 fun x => cl x = true) (b1 isAtom))) (c_is_unknown : Cal P w K mg base n "is_unknown" ["thing"] (spQ Any (p1 fun x => cl x = true) (b1 isUk))) :
    Cal P w K mg base (n + 1) "is_leaf" ["thing"] (spQ Any (p1 fun x => cl x = true) (b1 isLeaf)) := by
  refine defG [] D sc_is_leaf len1 (by simp) (fun f C hG cdv A outer s H E g0 hr => ⟨_, (qss_one (qs_ret (qe_or (qe_cmp (oq_eqA hr.units) (qv 0) (qe_tup qa_nil) (nomark _)) (qe_or (qe_cal c_is_atom trivial g0 hr (by rfl) (qa_cons (qv 0) qa_nil)) (qe_one (qe_cal c_is_unknown trivial g0 hr (by rfl) (qa_cons (qv 0) qa_nil))))))), ?_⟩)
  rintro _ ⟨x, rfl, hx⟩
  cases h1 : isNil x <;> cases h2 : isAtom x <;> simp [isLeaf, hx, cl_tok hx, h1, h2, eqv_nil]
/-! leaves -/
def leaves : PyData → List PyData
  | .tuple [a, b] => if isQ a then [.tuple [a, b]] else leaves a ++ leaves b
  | d => [d]
def leavesAll (ts : List PyData) : List PyData := ts.flatMap leaves
theorem leaves_leaf {d : PyData} (h : isPr d = false) : leaves d = [d] := by
  match d, h with
  | .tuple [a, b], h =>
    have hq : isQ a = true := by simpa [isPr] using h
    simp [leaves, hq]
  | .tuple [], _ => rfl
  | .tuple [_], _ => rfl
  | .tuple (_ :: _ :: _ :: _), _ => rfl
  | .none, _ => rfl
  | .bool _, _ => rfl
  | .int _, _ => rfl
  | .str _, _ => rfl
  | .list _, _ => rfl
  | .dict _, _ => rfl
theorem leaves_pair {a b : PyData} (h : isQ a = false) : leaves (.tuple [a, b]) = leaves a ++ leaves b := by simp [leaves, h]
theorem leaves_len : ∀ d : PyData, (leaves d).length ≤ d.bulk + 1
  | .tuple [a, b] => by
    have h1 := leaves_len a
    have h2 := leaves_len b
    have e : (PyData.tuple [a, b]).bulk = a.bulk + b.bulk + 2 := by
      show a.bulk + 1 + (b.bulk + 1 + 0) = _
      omega
    cases hq : isQ a
    · rw [leaves_pair hq, List.length_append]
      omega
    · simp [leaves, hq]
  | .tuple [] => by simp [leaves]
  | .tuple [_] => by simp [leaves]
  | .tuple (_ :: _ :: _ :: _) => by simp [leaves]
  | .none => by simp [leaves]
  | .bool _ => by simp [leaves]
  | .int _ => by simp [leaves]
  | .str _ => by simp [leaves]
  | .list _ => by simp [leaves]
  | .dict _ => by simp [leaves]
theorem c_leaves_of (B : Bl mg) (D : Dfn K mg "leaves_of" s_leaves_of ["things"]) (c_is_pair : Cal P w K mg base n "is_pair" ["thing"] (spQ Any (p1 fun x => cl x = true) (b1 isPr))) :
    Cal P w K mg base (n + 1) "leaves_of" ["things"] (spQ Any (fun ds => ∃ ts, ds = [.tuple ts] ∧ clAll ts = true ∧ PyData.bulkAll ts ≤ 400000) (fun ds d => ∃ ts, ds = [.tuple ts] ∧ d = .list (leavesAll ts))) := by
  refine defG [1, 2] D sc_leaves_of (by rintro _ ⟨x, rfl, _⟩; rfl) (by decide) (fun f C hG cdv A outer s H E g0 hr => ⟨_, (qss_cons (qs_own (k := 1) (by decide) sc_leaves_of.nd rfl (by first | exact Or.inl rfl | exact Or.inr rfl) (fun _ x1 => (qf_lst qa_nil))) (qss_cons (qs_own (k := 2) (by decide) sc_leaves_of.nd rfl (by first | exact Or.inl rfl | exact Or.inr rfl) (fun _ x2 => (qf_lstRev (fun _ h => pe_lstRev rfl (by rfl) B.list (by rfl) B.reversed h) (qv 0)))) (qss_cons (qs_while PassesOwn.never (qt_tru (qv 2)) (qss_cons (qs_pop (k := 2) (G := (gName 3)) (dec := (dName 3)) (pe_bm0 PySem.F.plainAttrs_list PySem.F.slot_list_pop PySem.F.type_list_pop mt_pop (pv 2)) (fun _ => (qg_name (k := 3) sc_leaves_of.nd rfl (by first | exact Or.inl rfl | exact Or.inr rfl)))) (qss_one (qs_if (qt_val (qe_cal c_is_pair trivial g0 hr (by rfl) (qa_cons (qv 3) qa_nil))) (qss_cons (qs_append (k := 2) (fun _ h => pe_bm PySem.F.plainAttrs_list PySem.F.slot_list_append PySem.F.type_list_append mt_append (pv 2) (pa_cons h pa_nil)) (fun _ x3 => (qe_ix (qv 3) qe_int (fun _ _ => rfl)))) (qss_one (qs_append (k := 2) (fun _ h => pe_bm PySem.F.plainAttrs_list PySem.F.slot_list_append PySem.F.type_list_append mt_append (pv 2) (pa_cons h pa_nil)) (fun _ x4 => (qe_ix (qv 3) qe_int (fun _ _ => rfl)))))) (qss_one (qs_append (k := 1) (fun _ h => pe_bm PySem.F.plainAttrs_list PySem.F.slot_list_append PySem.F.type_list_append mt_append (pv 1) (pa_cons h pa_nil)) (fun _ x5 => (qv 3)))))))) (qss_one (qs_ret (qv 1)))))), ?_⟩)
  rintro _ ⟨ts, rfl, hc, hb⟩
  simp [hide]
  have bl : ∀ us : List PyData, us.length ≤ PyData.bulkAll us := by
    intro us
    induction us with
    | nil => exact Nat.le_refl _
    | cons u us ih =>
      show us.length + 1 ≤ u.bulk + 1 + PyData.bulkAll us
      omega
  refine ⟨fun m ρ => ∃ (part : Option PyData) (acc us : List PyData), ρ = [some (.tuple ts), some (.list acc), some (.list us.reverse), part] ∧ m = PyData.bulkAll us ∧ clAll us = true ∧ acc ++ leavesAll us = leavesAll ts ∧ acc.length + (leavesAll us).length ≤ 600000 ∧ PyData.bulkAll us ≤ 400000, ⟨_, none, [], ts, rfl, rfl, hc, rfl, ?_, hb⟩, ?_⟩
  · have : ∀ us : List PyData, (leavesAll us).length ≤ PyData.bulkAll us := by
      intro us
      induction us with
      | nil => exact Nat.le_refl _
      | cons u us ih =>
        have := leaves_len u
        show (leaves u ++ leavesAll us).length ≤ u.bulk + 1 + PyData.bulkAll us
        rw [List.length_append]
        omega
    have := this ts
    show 0 + _ ≤ _
    omega
  rintro m _ ⟨part, acc, us, rfl, rfl, hcl, hl, hz, hb2⟩
  have hus := bl us
  cases us with
  | nil =>
    have e : acc = leavesAll ts := by simpa [leavesAll] using hl
    simp [e]
  | cons u us =>
    obtain ⟨cu, cus⟩ := cl_cons hcl
    have hbk : PyData.bulkAll (u :: us) = u.bulk + 1 + PyData.bulkAll us := rfl
    have hll : leavesAll (u :: us) = leaves u ++ leavesAll us := rfl
    have small : ∀ k : Nat, k ≤ 700000 → k < sizeLine := fun k h => Nat.lt_of_le_of_lt h (by decide)
    rw [hll, List.length_append] at hz
    have lu1 : (us.reverse).length = us.length := List.length_reverse
    have hus2 := bl us
    simp
    refine ⟨us.reverse, u, ⟨rfl, rfl⟩, cu, ?_⟩
    cases hp : isPr u with
    | false =>
      rw [leaves_leaf hp] at hll hz
      refine .inl ⟨rfl, small _ (by omega), u, rfl, _, ?_, some u, acc ++ [u], us, ⟨rfl, rfl, rfl⟩, rfl, cus, ?_, ?_, by omega⟩
      · omega
      · rw [← hl, hll, List.append_assoc]
      · rw [List.length_append]
        omega
    | true =>
      match u, hp, cu with
      | .tuple [a, b], hp, cu =>
        have hq : isQ a = false := by simpa [isPr] using hp
        have e : (PyData.tuple [a, b]).bulk = a.bulk + b.bulk + 2 := by
          show a.bulk + 1 + (b.bulk + 1 + 0) = _
          omega
        obtain ⟨ca, cb⟩ := cl_cons (cl_all cu)
        rw [leaves_pair hq] at hll hz
        rw [List.length_append] at hz
        refine .inr ⟨rfl, by rw [lu1]; exact small _ (by omega), _, rfl, b, rfl, by rw [lu1]; exact small _ (by omega), _, rfl, a, rfl, PyData.bulkAll (a :: b :: us), ?_, _, acc, a :: b :: us, ⟨rfl, ?_, rfl⟩, rfl, ?_, ?_, ?_, ?_⟩
        · show a.bulk + 1 + (b.bulk + 1 + PyData.bulkAll us) < _
          omega
        · simp
        · show (cl a && (cl b && clAll us)) = true
          rw [ca, (cl_cons cb).1, cus]
          rfl
        · rw [← hl, hll]
          show acc ++ (leaves a ++ (leaves b ++ leavesAll us)) = _
          rw [List.append_assoc]
        · show acc.length + (leaves a ++ (leaves b ++ leavesAll us)).length ≤ _
          rw [List.length_append, List.length_append]
          omega
        · show a.bulk + 1 + (b.bulk + 1 + PyData.bulkAll us) ≤ _
          omega
      | .tuple [], hp, _ => cases hp
      | .tuple [_], hp, _ => cases hp
      | .tuple (_ :: _ :: _ :: _), hp, _ => cases hp
      | .none, hp, _ => cases hp
      | .bool _, hp, _ => cases hp
      | .int _, hp, _ => cases hp
      | .str _, hp, _ => cases hp
      | .list _, hp, _ => cases hp
      | .dict _, hp, _ => cases hp
theorem cl_leaves : ∀ d : PyData, cl d = true → ∀ x ∈ leaves d, cl x = true
  | .tuple [a, b], h, x, hx => by
    obtain ⟨ca, cb⟩ := cl_cons (cl_all h)
    cases hq : isQ a
    · rw [leaves_pair hq] at hx
      rcases List.mem_append.mp hx with hx | hx
      · exact cl_leaves a ca x hx
      · exact cl_leaves b (cl_cons cb).1 x hx
    · rw [leaves_leaf (by simp [isPr, hq])] at hx
      rw [List.mem_singleton.mp hx]
      exact h
  | .tuple [], h, x, hx => by rw [List.mem_singleton.mp hx]; exact h
  | .tuple [_], h, x, hx => by rw [List.mem_singleton.mp hx]; exact h
  | .tuple (_ :: _ :: _ :: _), h, x, hx => by rw [List.mem_singleton.mp hx]; exact h
  | .none, h, x, hx => by rw [List.mem_singleton.mp hx]; exact h
  | .bool _, h, x, hx => by rw [List.mem_singleton.mp hx]; exact h
  | .int _, h, x, hx => by rw [List.mem_singleton.mp hx]; exact h
  | .str _, h, x, hx => by rw [List.mem_singleton.mp hx]; exact h
  | .list _, h, x, hx => by rw [List.mem_singleton.mp hx]; exact h
  | .dict _, h, x, hx => by rw [List.mem_singleton.mp hx]; exact h
theorem map_some {α β : Type} (f : α → β) : ∀ l : List α, l.filterMap (fun x => some (f x)) = l.map f
  | [] => rfl
  | x :: l => by rw [List.filterMap_cons, List.map_cons, map_some f l]
theorem c_is_term (B : Bl mg) (D : Dfn K mg "is_term" s_is_term ["thing"]) (c_leaves_of : Cal P w K mg base n "leaves_of" ["things"] (spQ Any (fun ds => ∃ ts, ds = [.tuple ts] ∧ clAll ts = true ∧ PyData.bulkAll ts ≤ 400000) (fun ds d => ∃ ts, ds = [.tuple ts] ∧ d = .list (leavesAll ts))))
    (c_is_leaf : Cal P w K mg base n "is_leaf" ["thing"] (spQ Any (p1 fun x => cl x = true) (b1 isLeaf))) :
    Cal P w K mg base (n + 1) "is_term" ["thing"] (spQ Any (p1 fun x => cl x = true ∧ x.bulk ≤ 390000) (b1 fun x => (leaves x).all isLeaf)) := by
  refine defG [] D sc_is_term len1 (by simp) (fun f C hG cdv A outer s H E g0 hr => ⟨_, (qss_one (qs_ret (qe_callB (cq_all rfl) (by rfl) B.all (by decide +kernel) (qa_cons (qe_lc (own := [("leaf", 1)]) (G := (gName 1)) (dec := (dName 1)) rfl sc_is_term.nd (qi_list (qe_cal c_leaves_of trivial g0 hr (by rfl) (qa_cons (qe_tup (qa_cons (qv 0) qa_nil)) qa_nil))) (blkOk_by (own := [("leaf", 1)]) (N := ["thing", "leaf"]) (sc := defScope s_is_term) (by decide +kernel)) (fun _ _ _ _ _ _ => (qg_name (k := 1) sc_is_term.nd rfl (by first | exact Or.inl rfl | exact Or.inr rfl))) (fun _ x1 => (fun _ _ _ _ _ => qts_nil)) (fun _ x2 => (fun _ _ _ _ _ => (qe_cal c_is_leaf trivial g0 hr (by rfl) (qa_cons (qv 1) qa_nil))))) qa_nil)))), ?_⟩)
  rintro _ ⟨x, rfl, hx, hb⟩
  simp
  refine ⟨by decide, ⟨by simp [clAll, hx], by show x.bulk + 1 + 0 ≤ _; omega⟩, ?_⟩
  have ll := leaves_len x
  have e : leavesAll [x] = leaves x := by simp [leavesAll]
  rw [e]
  refine lc_go (fun d => some (.bool (isLeaf d))) _ _ (by show 0 + _ ≤ _; omega) (fun d hd => ?_) ?_
  · refine ⟨[(1, d)], rfl, by simp, fun R hR => ?_⟩
    have := cl_leaves x hx d hd
    simp [wipeR, this]
    exact hR
  · refine ⟨(leaves x).map isLeaf, ?_, ?_⟩
    · rw [List.nil_append, map_some, List.map_map]
      rfl
    · rw [List.all_map]
      rfl
end
end Kr

set_option Elab.async false
set_option linter.all false
set_option maxRecDepth 100000
set_option maxHeartbeats 4000000
namespace Kr
open PySem PySem.Spec PyProof.Rows L2
abbrev s_unknowns_of : Stmt := topS 12
theorem sc_unknowns_of : FnScope ["terms", "leaf"] ["terms"] (defScope s_unknowns_of) := ⟨rfl, rfl, rfl, by decide +kernel, rfl, by decide +kernel, by decide +kernel⟩
theorem putG_len (l : DL) (k : Key) (v : PyData) : (putG l k v).length ≤ l.length + 1 := by
  unfold putG
  split
  · simp
  · simp
theorem dc_go {ks : List Nat} {dec : Dec} {tt : P0T} {tk te : P0} {ρ : Rho} {Q : PyData → Prop} (f : PyData → Option (Key × PyData)) : ∀ (ds : List PyData) (acc : DL), acc.length + ds.length ≤ 1000000 →
    (∀ d ∈ ds, ∃ l, dec d = some l ∧ (∀ p ∈ l, p.1 ∈ ks) ∧ ∀ R : Option (Key × PyData) → Prop, R (f d) → tt (setsR ρ l) fun b => if b = true then tk (setsR ρ l) fun y => te (setsR ρ l) fun z => ∃ k, y = keyD k ∧ noL z = true ∧ R (some (k, z)) else R none) →
    Q (dD (ds.foldl (fun l d => match f d with | some (k, v) => putG l k v | none => l) acc)) → dcGo ks dec tt tk te ρ Q ds acc
  | [], acc, _, _, q => q
  | d :: ds, acc, hl, h, q => by
    obtain ⟨l, e, c, hr⟩ := h d (List.mem_cons_self ..)
    rw [List.length_cons] at hl
    have rest := fun d hd => h d (List.mem_cons_of_mem _ hd)
    have big : acc.length < sizeLine := Nat.lt_of_lt_of_le (show acc.length < 1000000 by omega) (by decide)
    refine ⟨l, e, c, ?_⟩
    have := hr (fun o => match o with | some (k, z) => acc.length < sizeLine ∧ dcGo ks dec tt tk te ρ Q ds (putG acc k z) | none => dcGo ks dec tt tk te ρ Q ds acc) ?_
    · exact this
    · rw [List.foldl_cons] at q
      cases hf : f d with
      | none =>
        rw [hf] at q
        exact dc_go f ds acc (by omega) rest q
      | some kv =>
        obtain ⟨k, v⟩ := kv
        rw [hf] at q
        have := putG_len acc k v
        exact ⟨big, dc_go f ds _ (by omega) rest q⟩
/-! unknowns -/
def addN (acc : List Int) (n : Int) : List Int := if n ∈ acc then acc else acc ++ [n]
def addAll (acc ns : List Int) : List Int := ns.foldl addN acc
def ukOf : PyData → Option Int
  | .tuple [a, .int n] => if isQ a && decide (0 ≤ n) then some n else none
  | _ => none
theorem uk_some (d : PyData) : isUk d = (ukOf d).isSome := by
  match d with
  | .tuple [a, .int n] =>
    show (isQ a && decide (0 ≤ n)) = (if isQ a && decide (0 ≤ n) then some n else none).isSome
    cases isQ a && decide (0 ≤ n) <;> rfl
  | .tuple [] => rfl
  | .tuple [_] => rfl
  | .tuple [a, .none] => rfl
  | .tuple [a, .bool _] => rfl
  | .tuple [a, .str _] => rfl
  | .tuple [a, .list _] => rfl
  | .tuple [a, .tuple _] => rfl
  | .tuple [a, .dict _] => rfl
  | .tuple (_ :: _ :: _ :: _) => simp [isUk, ukOf]
  | .none => rfl
  | .bool _ => rfl
  | .int _ => rfl
  | .str _ => rfl
  | .list _ => rfl
  | .dict _ => rfl
theorem uk_is {d : PyData} {n : Int} (h : ukOf d = some n) : ∃ a, d = .tuple [a, .int n] := by
  match d, h with
  | .tuple [a, .int m], h =>
    have h' : (if isQ a && decide (0 ≤ m) then some m else none) = some n := h
    split at h'
    · cases h'
      exact ⟨a, rfl⟩
    · cases h'
def nums (ts : List PyData) : List Int := (leavesAll ts).filterMap ukOf
def kys (acc : List Int) : DL := acc.map fun n => (Sum.inl n, .bool true)
theorem kys_any (acc : List Int) (n : Int) : ((kys acc).any fun kv => decide (kv.1 = Sum.inl n)) = decide (n ∈ acc) := by
  unfold kys
  rw [List.any_map]
  induction acc with
  | nil => rfl
  | cons m r ih =>
    rw [List.any_cons, ih]
    by_cases e : m = n
    · subst e
      simp
    · have : ¬ ((Sum.inl m : Key) = Sum.inl n) := fun z => e (Sum.inl.inj z)
      simp [this, Ne.symm e]
theorem kys_put (acc : List Int) (n : Int) : putG (kys acc) (Sum.inl n) (.bool true) = kys (addN acc n) := by
  unfold putG addN
  rw [kys_any]
  by_cases h : n ∈ acc
  · rw [if_pos (decide_eq_true h), if_pos h]
    unfold kys
    rw [List.map_map]
    apply List.map_congr_left
    intro m _
    show (if (Sum.inl m : Key) = Sum.inl n then _ else _) = _
    split <;> rfl
  · rw [if_neg (by simpa using h), if_neg h]
    unfold kys
    rw [List.map_append]
    rfl
theorem kys_fold : ∀ (ds : List PyData) (acc : List Int), ds.foldl (fun l d => match (ukOf d).map fun n => ((Sum.inl n : Key), PyData.bool true) with | some (k, v) => putG l k v | none => l) (kys acc) = kys (addAll acc (ds.filterMap ukOf))
  | [], acc => rfl
  | d :: ds, acc => by
    rw [List.foldl_cons, List.filterMap_cons]
    cases h : ukOf d with
    | none => exact kys_fold ds acc
    | some n =>
      show ds.foldl _ (putG (kys acc) (Sum.inl n) (.bool true)) = _
      rw [kys_put]
      exact kys_fold ds (addN acc n)
section
variable {P : Program} {w : World} {K : PySem.W.Frag} {mg : Str → Option Value} {base : Heap} {n : Nat}
theorem c_unknowns_of (B : Bl mg) (D : Dfn K mg "unknowns_of" s_unknowns_of ["terms"]) (c_leaves_of : Cal P w K mg base n "leaves_of" ["things"] (spQ Any (fun ds => ∃ ts, ds = [.tuple ts] ∧ clAll ts = true ∧ PyData.bulkAll ts ≤ 400000) (fun ds d => ∃ ts, ds = [.tuple ts] ∧ d = .list (leavesAll ts))))
    (c_is_unknown : Cal P w K mg base n "is_unknown" ["thing"] (spQ Any (p1 fun x => cl x = true) (b1 isUk))) :
    Cal P w K mg base (n + 1) "unknowns_of" ["terms"] (spQ Any (fun ds => ∃ ts, ds = [.tuple ts] ∧ clAll ts = true ∧ PyData.bulkAll ts ≤ 400000) (fun ds d => ∃ ts, ds = [.tuple ts] ∧ d = .tuple ((addAll [] (nums ts)).map .int))) := by
  refine defG [] D sc_unknowns_of (by rintro _ ⟨x, rfl, _⟩; rfl) (by simp) (fun f C hG cdv A outer s H E g0 hr => ⟨_, (qss_one (qs_ret (qe_callTy (cq_tupleD rfl) (by rfl) B.tuple (by decide +kernel) (qa_cons (qe_dc (own := [("leaf", 1)]) (G := (gName 1)) (dec := (dName 1)) rfl sc_unknowns_of.nd (qi_list (qe_cal c_leaves_of trivial g0 hr (by rfl) (qa_cons (qv 0) qa_nil))) (blkOk_by (own := [("leaf", 1)]) (N := ["terms", "leaf"]) (sc := defScope s_unknowns_of) (by decide +kernel)) (fun _ _ _ _ _ => (qg_name (k := 1) sc_unknowns_of.nd rfl (by first | exact Or.inl rfl | exact Or.inr rfl))) (fun _ _ _ _ _ => qts_one (qt_val (qe_cal c_is_unknown trivial g0 hr (by rfl) (qa_cons (qv 1) qa_nil)))) (fun _ _ _ _ _ => (qe_ix (qv 1) qe_int (fun _ _ => rfl))) (fun _ _ _ _ _ => qe_bl)) qa_nil)))), ?_⟩)
  rintro _ ⟨ts, rfl, hc, hb⟩
  simp
  refine ⟨⟨hc, hb⟩, ?_⟩
  have cs : ∀ (us : List PyData), clAll us = true → ∀ x ∈ leavesAll us, cl x = true := by
    intro us
    induction us with
    | nil => intro _ x hx; cases hx
    | cons u us ih =>
      intro h x hx
      obtain ⟨h1, h2⟩ := cl_cons h
      rcases List.mem_append.mp (show x ∈ leaves u ++ leavesAll us from hx) with hx | hx
      · exact cl_leaves u h1 x hx
      · exact ih h2 x hx
  have ll : ∀ us : List PyData, (leavesAll us).length ≤ PyData.bulkAll us := by
    intro us
    induction us with
    | nil => exact Nat.le_refl _
    | cons u us ih =>
      show (leaves u ++ leavesAll us).length ≤ u.bulk + 1 + PyData.bulkAll us
      have := leaves_len u
      rw [List.length_append]
      omega
  have l1 := ll ts
  refine dc_go (fun d => (ukOf d).map fun n => (Sum.inl n, .bool true)) _ _ (by show 0 + _ ≤ _; omega) (fun d hd => ?_) ?_
  · refine ⟨[(1, d)], rfl, by simp, fun R hR => ?_⟩
    have hcd := cs ts hc d hd
    have hu := uk_some d
    cases ho : ukOf d with
    | none =>
      rw [ho] at hu hR
      simp [wipeR, hcd, hu]
      exact hR
    | some m =>
      rw [ho] at hu hR
      obtain ⟨a, rfl⟩ := uk_is ho
      simp [wipeR, hcd, hu]
      exact ⟨_, rfl, .inl m, rfl, rfl, hR⟩
  · refine ⟨_, rfl, ?_⟩
    have := kys_fold (leavesAll ts) []
    refine (congrArg (List.map fun p : Key × PyData => keyD p.1) this).trans ?_
    unfold kys
    rw [List.map_map]
    rfl
theorem layInts : ∀ ns : List Int, PyData.canLayAll0 (ns.map .int) = true
  | [] => rfl
  | n :: r => by
    show (true && PyData.canLayAll0 (r.map .int)) = true
    rw [layInts r]
    rfl
theorem depInts : ∀ ns : List Int, PyData.depthAll (ns.map .int) = 0
  | [] => rfl
  | n :: r => by
    show max 0 (PyData.depthAll (r.map .int)) = 0
    rw [depInts r]
    rfl
theorem shpInts (ns : List Int) : shp (.tuple (ns.map .int)) = true := by
  have h1 : (PyData.tuple (ns.map .int)).canLay0 = true := layInts ns
  have h2 : (PyData.tuple (ns.map .int)).depth ≤ 64 := by
    show PyData.depthAll (ns.map .int) + 1 ≤ 64
    rw [depInts]
    decide
  unfold shp SeqAt.shaped
  rw [h1, decide_eq_true h2]
  rfl
theorem eqvInts (l : List Int) : (PyData.tuple (l.map .int)).eqv (.tuple []) = l.isEmpty := by
  cases l with
  | nil => rfl
  | cons x l =>
    unfold PyData.eqv
    rfl
end
end Kr

set_option Elab.async false
set_option linter.all false
set_option maxRecDepth 100000
set_option maxHeartbeats 1000000
namespace Kr
open PySem PySem.Spec PyProof.Rows L2
/-! terms -/
inductive Tm where
  | int (i : Int)
  | wrd (z : Str)
  | nil
  | unk (n : Int)
  | pair (a b : Tm)
  deriving DecidableEq
/-- a word: one to eight small letters -/
def Wd (z : Str) : Prop := 1 ≤ z.length ∧ z.length ≤ 8 ∧ ∀ c ∈ z.cps.toList, 97 ≤ c ∧ c ≤ 122
namespace Tm
def ok : Tm → Prop
  | .wrd z => Wd z
  | .unk n => 0 ≤ n
  | .pair a b => a.ok ∧ b.ok
  | _ => True
/-- its numbers have forty figures at most, and are 10 ** 39 at most -/
def sm : Tm → Prop
  | .int i => i.natAbs ≤ 10 ^ 39
  | .unk n => n.natAbs ≤ 10 ^ 39
  | .pair a b => a.sm ∧ b.sm
  | _ => True
def depth : Tm → Nat
  | .pair a b => max a.depth b.depth + 1
  | _ => 1
def size : Tm → Nat
  | .pair a b => a.size + b.size + 1
  | _ => 1
def isUnk : Tm → Bool
  | .unk _ => true
  | _ => false
def isPair : Tm → Bool
  | .pair _ _ => true
  | _ => false
def data : Tm → PyData
  | .int i => .int i
  | .wrd z => .str z
  | .nil => .tuple []
  | .unk n => .tuple [.str "?", .int n]
  | .pair a b => .tuple [a.data, b.data]
/-- the numbers of its unknowns -/
def vars : Tm → List Int
  | .unk n => [n]
  | .pair a b => a.vars ++ b.vars
  | _ => []
theorem size_pos : ∀ t : Tm, 1 ≤ t.size
  | .pair a b => by simp [size]
  | .int _ => Nat.le_refl _
  | .wrd _ => Nat.le_refl _
  | .nil => Nat.le_refl _
  | .unk _ => Nat.le_refl _
theorem depth_pos : ∀ t : Tm, 1 ≤ t.depth
  | .pair a b => by simp [depth]
  | .int _ => Nat.le_refl _
  | .wrd _ => Nat.le_refl _
  | .nil => Nat.le_refl _
  | .unk _ => Nat.le_refl _
theorem depth_size : ∀ t : Tm, t.depth ≤ t.size
  | .pair a b => by
    have h1 := depth_size a
    have h2 := depth_size b
    have h3 := size_pos a
    have h4 := size_pos b
    simp only [depth, size]
    omega
  | .int _ => Nat.le_refl _
  | .wrd _ => Nat.le_refl _
  | .nil => Nat.le_refl _
  | .unk _ => Nat.le_refl _
theorem data_depth : ∀ t : Tm, t.data.depth ≤ t.depth
  | .int _ => Nat.zero_le _
  | .wrd _ => Nat.zero_le _
  | .nil => Nat.le_refl _
  | .unk _ => Nat.le_refl _
  | .pair a b => by
    have h1 := data_depth a
    have h2 := data_depth b
    show max a.data.depth (max b.data.depth 0) + 1 ≤ max a.depth b.depth + 1
    omega
end Tm
theorem wd_ok {z : Str} (h : Wd z) : PyData.strOk z = true := by
  obtain ⟨h1, h2, h3⟩ := h
  unfold PyData.strOk
  rw [← Array.all_toList, List.all_eq_true]
  intro c hc
  have := h3 c hc
  exact decide_eq_true (by omega)
theorem wd_ne {z : Str} (h : Wd z) : z ≠ ("?" : Str) := by
  intro e
  subst e
  have := h.2.2 63 (by decide)
  omega
theorem Tm.lay : ∀ {t : Tm}, t.ok → t.data.canLay0 = true
  | .int _, _ => rfl
  | .wrd z, h => wd_ok h
  | .nil, _ => rfl
  | .unk _, _ => by
    show (PyData.strOk "?" && (true && true)) = true
    decide +kernel
  | .pair a b, h => by
    show (a.data.canLay0 && (b.data.canLay0 && true)) = true
    rw [Tm.lay h.1, Tm.lay h.2]
    rfl
theorem Tm.shp {t : Tm} (h : t.ok) (d : t.depth ≤ 64) : shp t.data = true := by
  unfold Kr.shp SeqAt.shaped
  rw [Tm.lay h, decide_eq_true (Nat.le_trans t.data_depth d)]
  rfl
@[simp] theorem Tm.noTok (t : Tm) : isTok t.data = false := by cases t <;> rfl
theorem Tm.noq : ∀ {t : Tm}, t.ok → PyData.eqv t.data (.str "?") = false
  | .int _, _ => by simp [Tm.data, PyData.eqv]
  | .wrd z, h => by
    show PyData.eqv (.str z) (.str "?") = false
    rw [eqv_str]
    exact beq_eq_false_iff_ne.mpr (wd_ne h)
  | .nil, _ => by simp [Tm.data, PyData.eqv]
  | .unk _, _ => by simp [Tm.data, PyData.eqv]
  | .pair _ _, _ => by simp [Tm.data, PyData.eqv]
theorem Tm.noqL {t : Tm} (h : t.ok) : PyData.eqv (.str "?") t.data = false := by
  cases t with
  | wrd z =>
    show PyData.eqv (.str "?") (.str z) = false
    rw [eqv_str]
    exact beq_eq_false_iff_ne.mpr fun e => wd_ne h e.symm
  | _ => simp [Tm.data, PyData.eqv]
theorem eqv_two (a b c d : PyData) : PyData.eqv (.tuple [a, b]) (.tuple [c, d]) = (PyData.eqv a c && PyData.eqv b d) := by
  simp [PyData.eqv, PyData.eqvAll]
/-- == of terms -/
theorem Tm.eqv : ∀ {t u : Tm}, t.ok → u.ok → PyData.eqv t.data u.data = decide (t = u)
  | .int i, .int j, _, _ => by
    show PyData.eqv (.int i) (.int j) = _
    rw [eqv_int]
    by_cases h : i = j
    · simp [h]
    · simp [h]
  | .wrd i, .wrd j, _, _ => by
    show PyData.eqv (.str i) (.str j) = _
    rw [eqv_str]
    by_cases h : i = j
    · simp [h]
    · simp [h]
  | .nil, .nil, _, _ => by simp [Tm.data, PyData.eqv, PyData.eqvAll]
  | .unk i, .unk j, _, _ => by
    show PyData.eqv (.tuple [.str "?", .int i]) (.tuple [.str "?", .int j]) = _
    rw [eqv_two, eqv_int, eqv_str]
    by_cases h : i = j
    · simp [h]
    · simp [h]
  | .pair a b, .pair c d, h, k => by
    show PyData.eqv (.tuple [a.data, b.data]) (.tuple [c.data, d.data]) = _
    rw [eqv_two, Tm.eqv h.1 k.1, Tm.eqv h.2 k.2]
    by_cases h1 : a = c
    · by_cases h2 : b = d
      · simp [h1, h2]
      · simp [h1, h2]
    · simp [h1]
  | .unk i, .pair a b, _, k => by
    show PyData.eqv (.tuple [.str "?", .int i]) (.tuple [a.data, b.data]) = _
    rw [eqv_two, Tm.noqL k.1]
    simp
  | .pair a b, .unk i, k, _ => by
    show PyData.eqv (.tuple [a.data, b.data]) (.tuple [.str "?", .int i]) = _
    rw [eqv_two, Tm.noq k.1]
    simp
  | .nil, .unk _, _, _ => by simp [Tm.data, PyData.eqv, PyData.eqvAll]
  | .unk _, .nil, _, _ => by simp [Tm.data, PyData.eqv, PyData.eqvAll]
  | .nil, .pair _ _, _, _ => by simp [Tm.data, PyData.eqv, PyData.eqvAll]
  | .pair _ _, .nil, _, _ => by simp [Tm.data, PyData.eqv, PyData.eqvAll]
  | .int _, .wrd _, _, _ => by simp [Tm.data, PyData.eqv]
  | .int _, .nil, _, _ => by simp [Tm.data, PyData.eqv]
  | .int _, .unk _, _, _ => by simp [Tm.data, PyData.eqv]
  | .int _, .pair _ _, _, _ => by simp [Tm.data, PyData.eqv]
  | .wrd _, .int _, _, _ => by simp [Tm.data, PyData.eqv]
  | .wrd _, .nil, _, _ => by simp [Tm.data, PyData.eqv]
  | .wrd _, .unk _, _, _ => by simp [Tm.data, PyData.eqv]
  | .wrd _, .pair _ _, _, _ => by simp [Tm.data, PyData.eqv]
  | .nil, .int _, _, _ => by simp [Tm.data, PyData.eqv]
  | .nil, .wrd _, _, _ => by simp [Tm.data, PyData.eqv]
  | .unk _, .int _, _, _ => by simp [Tm.data, PyData.eqv]
  | .unk _, .wrd _, _, _ => by simp [Tm.data, PyData.eqv]
  | .pair _ _, .int _, _, _ => by simp [Tm.data, PyData.eqv]
  | .pair _ _, .wrd _, _, _ => by simp [Tm.data, PyData.eqv]
theorem Tm.inj : ∀ {t u : Tm}, t.ok → u.ok → t.data = u.data → t = u := fun {t u} h k e => by
  have h1 := Tm.eqv h h
  rw [decide_eq_true rfl] at h1
  have h2 := Tm.eqv h k
  rw [← e, h1] at h2
  exact of_decide_eq_true h2.symm
end Kr

set_option Elab.async false
set_option linter.all false
set_option maxRecDepth 100000
set_option maxHeartbeats 1000000
namespace Kr
open PySem PySem.Spec PyProof.Rows L2
/-! the term that a datum is -/
def decT : PyData → Tm
  | .int i => .int i
  | .str z => .wrd z
  | .tuple [a, b] => if isQ a then (match b with | .int n => .unk n | _ => .nil) else .pair (decT a) (decT b)
  | _ => .nil
@[simp] theorem isQ_q : isQ (.str "?") = true := by decide +kernel
theorem isQ_tm {t : Tm} (h : t.ok) : isQ t.data = false := Tm.noq h
theorem decT_data : ∀ {t : Tm}, t.ok → decT t.data = t
  | .int _, _ => rfl
  | .wrd _, _ => rfl
  | .nil, _ => rfl
  | .unk n, _ => by
    show decT (.tuple [.str "?", .int n]) = _
    simp [decT]
  | .pair a b, h => by
    show decT (.tuple [a.data, b.data]) = _
    simp [decT, isQ_tm h.1, decT_data h.1, decT_data h.2]
abbrev TmP (n : Nat) (x : PyData) : Prop := ∃ t : Tm, t.ok ∧ t.depth ≤ n ∧ x = t.data
theorem isMk_data {t : Tm} (h : t.ok) : isMk t.data = t.isUnk := by
  cases t with
  | unk n => simp [Tm.data, isMk, Tm.isUnk]
  | pair a b => simp [Tm.data, isMk, Tm.isUnk, isQ_tm h.1]
  | _ => rfl
theorem isPr_data {t : Tm} (h : t.ok) : isPr t.data = t.isPair := by
  cases t with
  | unk n => simp [Tm.data, isPr, Tm.isPair]
  | pair a b => simp [Tm.data, isPr, Tm.isPair, isQ_tm h.1]
  | _ => rfl
theorem isUk_data {t : Tm} (h : t.ok) : isUk t.data = t.isUnk := by
  cases t with
  | unk n =>
    have : (0 : Int) ≤ n := h
    simp [Tm.data, isUk, Tm.isUnk, this]
  | pair a b =>
    show isUk (.tuple [a.data, b.data]) = false
    cases hb : b.data <;> simp [isUk, isQ_tm h.1]
  | _ => rfl
theorem cl_data : ∀ {t : Tm}, t.ok → cl t.data = true
  | .int _, _ => rfl
  | .wrd z, h => by
    have := h.2.1
    show decide (z.length ≤ 100000) = true
    exact decide_eq_true (by omega)
  | .nil, _ => rfl
  | .unk n, _ => by
    show clAll [.str "?", .int n] = true
    simp [clAll, cl]
    decide +kernel
  | .pair a b, h => by
    show clAll [a.data, b.data] = true
    simp [clAll, cl_data h.1, cl_data h.2]
theorem bulk_data : ∀ {t : Tm}, t.ok → t.data.bulk ≤ 12 * t.size
  | .int _, _ => by simp [Tm.data, PyData.bulk]
  | .wrd z, h => by
    have h2 : z.length ≤ 8 := h.2.1
    show z.cps.size ≤ 12 * 1
    have : z.cps.size = z.length := rfl
    omega
  | .nil, _ => by simp [Tm.data, PyData.bulk, PyData.bulkAll]
  | .unk n, _ => by
    show 1 + 1 + (0 + 1 + 0) ≤ 12 * 1
    omega
  | .pair a b, h => by
    have h1 := bulk_data h.1
    have h2 := bulk_data h.2
    show a.data.bulk + 1 + (b.data.bulk + 1 + 0) ≤ 12 * (a.size + b.size + 1)
    omega
section
variable {P : Program} {w : World} {K : PySem.W.Frag} {mg : Str → Option Value} {base : Heap}
/-- a def of which nothing is asked -/
theorem Cal.no {x : Str} {st : Stmt} {ps : List Str} {k : Nat} {G : Cz → Prop} {res : List PyData → PyData → Prop} (D : Dfn K mg x st ps) : Cal P w K mg base k x ps (spQ G (fun _ => False) res) :=
  Cal.of D fun f fd F => ⟨fun vs H Q E h => by obtain ⟨_, _, _, _, _, z, _⟩ := h; exact z.elim, fun A outer s H args us vs Q E _ _ _ _ _ h => by obtain ⟨_, _, _, _, _, z, _⟩ := h; exact z.elim⟩
theorem Cal.pre {x : Str} {ps : List Str} {k : Nat} {G : Cz → Prop} {pre pre' : List PyData → Prop} {res res' : List PyData → PyData → Prop} (h : Cal P w K mg base k x ps (spQ G pre res)) (hp : ∀ ds, pre' ds → pre ds) (hres : ∀ ds d, pre' ds → res ds d → res' ds d) : Cal P w K mg base k x ps (spQ G pre' res') :=
  h.imp fun vs H Q E ⟨C, ds, g, r, j, p, q⟩ => ⟨C, ds, g, r, j, hp ds p, fun d z => q d (hres ds d p z)⟩
end
end Kr

set_option Elab.async false
set_option linter.all false
set_option maxRecDepth 100000
set_option maxHeartbeats 4000000
namespace Kr
open PySem PySem.Spec PyProof.Rows L2
/-! the deck: a list of cells (a list), a total, a count -/
abbrev sDeck : Stmt := topS 21
abbrev sDraw : Stmt := topS 22
theorem scDeck : FnScope ["_law_script", "_law_cells", "_law_total", "_law_cell"] ["_law_script"] (defScope sDeck) := ⟨rfl, rfl, rfl, by decide +kernel, rfl, by decide +kernel, by decide +kernel⟩
theorem scDraw : FnScope ["_law_deck_here", "_law_most", "_law_cell", "_law_number"] ["_law_deck_here", "_law_most"] (defScope sDraw) := ⟨rfl, rfl, rfl, by decide +kernel, rfl, by decide +kernel, by decide +kernel⟩
def Dk (H : Hp) (d c : Addr) : Prop := ∃ (ns : List Int) (s n : Int), H d = some (.lst [.ref c, .int s, .int n]) ∧ H c = some (.lst (ns.map V.int)) ∧ ns.length ≤ 63
def Kp (d c : Addr) (H H' : Hp) : Prop := ∀ b o, b ≠ d → b ≠ c → H b = some o → H' b = some o
structure IsDk (C : Cz) : Prop where
  ex : ∃ d c, C.tok = some d ∧ C.M d ∧ C.M c ∧ (∀ H, C.J H → Dk H d c) ∧ ∀ H H', C.J H → Dk H' d c → Kp d c H H' → C.J H'
theorem kp_fz {H H' : Hp} {d c : Addr} (k : Dk H d c) (kp : Kp d c H H') : FzK H H' := fun b x t => by
  obtain ⟨ns, s, n, h1, h2, _⟩ := k
  exact t.stay fun o e => kp b o (t.neq h1 fzLst) (t.neq h2 fzLst) e
theorem IsDk.ext {C C2 : Cz} (h : IsDk C) (x : Ext C C2) : IsDk C2 := by
  obtain ⟨d, c, h1, h2, h3, h4, h5⟩ := h.ex
  refine ⟨d, c, x.tok.trans h1, x.m _ h2, x.m _ h3, fun H j => h4 H (x.j H j), fun H H' j k kp => x.k H H' j (h5 H H' (x.j H j) k kp) (kp_fz (h4 H (x.j H j)) kp) fun b o m n e => kp b o (fun z => n (z ▸ h2)) (fun z => n (z ▸ h3)) e⟩
theorem dk_ne {H : Hp} {d c : Addr} {ns : List Int} {s n : Int} (hd : H d = some (.lst [.ref c, .int s, .int n])) (hc : H c = some (.lst (ns.map V.int))) : c ≠ d := by
  intro e
  subst e
  rw [hd] at hc
  cases ns with
  | nil => cases hc
  | cons n r =>
    have := (List.cons.inj (HO.lst.inj (Option.some.inj hc))).1
    cases this
section
variable {P : Program} {w : World} {K : PySem.W.Frag} {mg : Str → Option Value} {base : Heap}
def spDraw : Sp := fun vs H Q _ => ∃ (d c : Addr) (m : Int), vs = [.ref d, .int m] ∧ Dk H d c ∧ 0 < m ∧ m.natAbs < 2 ^ 64 ∧ ∀ H' r, Dk H' d c → Kp d c H H' → 0 ≤ r → r < m → Q (.int r) H'
theorem ok_draw {f : Addr} {fd : FuncData} {k : Nat} (F : Fun K "_law_draw" "_law_draw" sDraw f fd) : FnOk P w K mg base CX0 (k + 1) f fd ["_law_deck_here", "_law_most"] spDraw := by
  refine F.ok scDraw (fun vs H Q E h => ?_) (fun cdv A outer s H vs Q E hr h => ?_)
  · obtain ⟨d, c, m, rfl, _⟩ := h
    rfl
  · obtain ⟨d, c, m, rfl, hD, hm, hm2, q⟩ := h
    refine ⟨_, pss_cons (ps_asg (pe_op op_add (pe_ix ix_list (pv 0) pe_int (fun _ _ => rfl)) pe_int) (pg_sub (pv 0) pe_int set_list))
      (pss_cons (ps_set (i := 2) scDraw.nd rfl (.inl rfl) (pe_ix ix_list (pv 0) pe_int (fun _ _ => rfl)))
      (pss_cons (ps_if (pt_cmpR (op_neD hr.units) (pe_ix ix_list (pv 0) pe_int (fun _ _ => rfl)) (pe_lst pa_nil) (nomark _))
        (pss_cons (ps_set (i := 2) scDraw.nd rfl (.inl rfl) (pe_bm0 PySem.F.plainAttrs_list PySem.F.slot_list_pop PySem.F.type_list_pop mt_pop (pe_ix ix_list (pv 0) pe_int (fun _ _ => rfl))))
        (pss_cons (ps_if (pt_cmpR op_ge (pv 2) (pe_op op_pow pe_int pe_int) (nomark _))
          (pss_cons (ps_expr (pe_bm PySem.F.plainAttrs_list PySem.F.slot_list_append PySem.F.type_list_append mt_append (pe_ix ix_list (pv 0) pe_int (fun _ _ => rfl)) (pa_cons (pe_op op_fdivW (pv 2) (pv 1)) pa_nil)))
            (pss_one (ps_ret (pe_op op_mod (pv 2) (pv 1))))) pss_nil)
          (pss_one (ps_set (i := 2) scDraw.nd rfl (.inl rfl) (pe_op op_add (pv 2) (pe_ix ix_list (pv 0) pe_int (fun _ _ => rfl))))))) pss_nil)
      (pss_cons (ps_set (i := 3) scDraw.nd rfl (.inl rfl) (pe_op op_mod (pe_op op_mul (pe_op op_add (pe_op op_add (pe_op op_mod (pv 2) pe_int) (pe_op op_mul pe_int (pe_ix ix_list (pv 0) pe_int (fun _ _ => rfl)))) pe_int) pe_int) pe_int))
      (pss_cons (ps_set (i := 3) scDraw.nd rfl (.inl rfl) (pe_op op_mod (pe_op op_add (pe_op op_add (pe_op op_mul (pv 3) (pv 3)) (pe_op op_mul pe_int (pe_ix ix_list (pv 0) pe_int (fun _ _ => rfl)))) pe_int) pe_int))
      (pss_one (ps_ret (pe_op op_mod (pe_op op_fdiv (pe_op op_mod (pe_op op_mul (pv 3) pe_int) pe_int) pe_int) (pv 1)))))))), ?_⟩
    obtain ⟨ns, s0, n0, hd, hc, hl⟩ := hD
    have hcd := dk_ne hd hc
    refine ⟨.ref d, rfl, d, _, 2, .int n0, rfl, rfl, .inl (.inl hd), atI_nat (j := 2) rfl, n0, 1, rfl, rfl, .ref d, rfl, d, _, 2, 2, rfl, rfl, hd, rfl, ?_⟩
    have hd1 : upd H d (.lst ([.ref c, .int s0, .int n0].set 2 (.int (n0 + 1)))) d = some (.lst [.ref c, .int s0, .int (n0 + 1)]) := upd_same
    have hc1 : upd H d (.lst ([.ref c, .int s0, .int n0].set 2 (.int (n0 + 1)))) c = some (.lst (ns.map V.int)) := by
      rw [upd_ne hcd]
      exact hc
    have kp1 : Kp d c H (upd H d (.lst ([.ref c, .int s0, .int n0].set 2 (.int (n0 + 1))))) := fun b o h1 _ e => by
      rw [upd_ne h1]
      exact e
    generalize upd H d (.lst ([.ref c, .int s0, .int n0].set 2 (.int (n0 + 1)))) = H1 at *
    refine ⟨.ref d, rfl, d, _, 1, .int s0, rfl, rfl, .inl (.inl hd1), atI_nat (j := 1) rfl, ?_⟩
    refine ⟨.ref d, rfl, d, _, 0, .ref c, rfl, rfl, .inl (.inl hd1), atI_nat (j := 0) rfl, Nat.zero_le _, fun p np => ?_⟩
    have s2 : Same H1 (upd H1 p (.lst [])) := same_upd np
    have hd2 := s2 _ _ hd1
    have hc2 := s2 _ _ hc1
    have kp2 : Kp d c H (upd H1 p (.lst [])) := fun b o h1 h2 e => s2 _ _ (kp1 b o h1 h2 e)
    refine ⟨.list (ns.map .int), .list (([] : List Int).map .int), .lst (.inl (.inl hc2)) (rDpI _), .lst (.inl (.inl upd_same)) .nil, rShpL _, rShpL _, _, rfl, ?_⟩
    rw [rEqvL]
    generalize upd H1 p (.lst []) = H2 at *
    rcases List.eq_nil_or_concat ns with rfl | ⟨r, n, rfl⟩
    · refine iteF ?_
      refine ⟨_, rfl, _, _, rfl, rfl, (by show (0 : Int) < 2147483629; decide), .ref d, rfl, d, _, 2, .int (n0 + 1), rfl, rfl, .inl (.inl hd2), atI_nat (j := 2) rfl, 131071, (n0 + 1), rfl, rfl, .inl ⟨by decide, by decide⟩, _, _, rfl, rfl, _, _, rfl, rfl, _, _, rfl, rfl, .inr ⟨by decide, by decide⟩, _, _, rfl, rfl, (by show (0 : Int) < 2147483647; decide), ?_⟩
      have b0 := Int.emod_nonneg ((s0 % 2147483629 + 131071 * (n0 + 1) + 29) * 48271) (show (2147483647 : Int) ≠ 0 by decide)
      have b1 := Int.emod_lt_of_pos ((s0 % 2147483629 + 131071 * (n0 + 1) + 29) * 48271) (show (0 : Int) < 2147483647 by decide)
      generalize (s0 % 2147483629 + 131071 * (n0 + 1) + 29) * 48271 % 2147483647 = y0 at *
      refine ⟨_, rfl, _, rfl, _, _, rfl, rfl, .inl ⟨by omega, by omega⟩, .ref d, rfl, d, _, 2, .int (n0 + 1), rfl, rfl, .inl (.inl hd2), atI_nat (j := 2) rfl, 16807, (n0 + 1), rfl, rfl, .inl ⟨by decide, by decide⟩, _, _, rfl, rfl, _, _, rfl, rfl, _, _, rfl, rfl, (by show (0 : Int) < 2147483587; decide), ?_⟩
      have c0 := Int.emod_nonneg (y0 * y0 + 16807 * (n0 + 1) + 3) (show (2147483587 : Int) ≠ 0 by decide)
      have c1 := Int.emod_lt_of_pos (y0 * y0 + 16807 * (n0 + 1) + 3) (show (0 : Int) < 2147483587 by decide)
      generalize (y0 * y0 + 16807 * (n0 + 1) + 3) % 2147483587 = y1 at *
      refine ⟨_, rfl, _, _, rfl, rfl, .inr ⟨by decide, by decide⟩, _, _, rfl, rfl, (by show (0 : Int) < 2147483563; decide), _, 64, rfl, rfl, ⟨by decide, by decide⟩, .int m, rfl, _, m, rfl, rfl, hm, ?_⟩
      exact q _ _ ⟨[], s0, n0 + 1, hd2, hc2, by omega⟩ kp2 (Int.emod_nonneg _ (by omega)) (Int.emod_lt_of_pos _ hm)
    · rw [List.concat_eq_append] at *
      have ne : decide (r ++ [n] = ([] : List Int)) = false := by simp
      rw [ne]
      refine iteT ?_
      rw [List.length_append] at hl
      have hl' : r.length + 1 ≤ 63 := hl
      have em : (r ++ [n]).map V.int = r.map V.int ++ [.int n] := by simp
      rw [em] at hc2
      refine ⟨.ref d, rfl, d, _, 0, .ref c, rfl, rfl, .inl (.inl hd2), atI_nat (j := 0) rfl, .inl ⟨rfl, _, .inl (.inl hc2)⟩, c, _, .int n, rfl, rfl, hc2, by simp, ?_⟩
      rw [List.dropLast_concat]
      have hc3 : upd H2 c (.lst (r.map V.int)) c = some (.lst (r.map V.int)) := upd_same
      have hd3 : upd H2 c (.lst (r.map V.int)) d = some (.lst [.ref c, .int s0, .int (n0 + 1)]) := by
        rw [upd_ne hcd.symm]
        exact hd2
      have kp3 : Kp d c H (upd H2 c (.lst (r.map V.int))) := fun b o h1 h2 e => by
        rw [upd_ne h2]
        exact kp2 b o h1 h2 e
      generalize upd H2 c (.lst (r.map V.int)) = H3 at *
      refine ⟨.int n, rfl, 10, 18, rfl, rfl, ⟨by decide, by decide, by decide⟩, n, _, rfl, rfl, _, rfl, ite2 (fun _ => ?_) (fun _ => ?_)⟩
      · refine ⟨.ref d, rfl, d, _, 0, .ref c, rfl, rfl, .inl (.inl hd3), atI_nat (j := 0) rfl, .inl ⟨rfl, _, .inl (.inl hc3)⟩, .int n, rfl, .int m, rfl, n, m, rfl, rfl, wide_div hm hm2 (by decide) (by decide), c, _, _, rfl, rfl, hc3, ?_, ?_⟩
        · rw [List.length_map]
          exact Nat.lt_of_le_of_lt (show r.length ≤ 62 by omega) (by decide)
        refine ⟨.int n, rfl, .int m, rfl, n, m, rfl, rfl, hm, ?_⟩
        refine q _ _ ⟨r ++ [n / m], s0, n0 + 1, ?_, ?_, by simp; omega⟩ (fun b o h1 h2 e => ?_) (Int.emod_nonneg _ (by omega)) (Int.emod_lt_of_pos _ hm)
        · rw [upd_ne hcd.symm]
          exact hd3
        · rw [upd_same]
          simp
        · rw [upd_ne h2]
          exact kp3 b o h1 h2 e
      · refine ⟨.int n, rfl, .ref d, rfl, d, _, 1, .int s0, rfl, rfl, .inl (.inl hd3), atI_nat (j := 1) rfl, n, s0, rfl, rfl, ?_⟩
        refine ⟨_, rfl, _, _, rfl, rfl, (by show (0 : Int) < 2147483629; decide), .ref d, rfl, d, _, 2, .int (n0 + 1), rfl, rfl, .inl (.inl hd3), atI_nat (j := 2) rfl, 131071, (n0 + 1), rfl, rfl, .inl ⟨by decide, by decide⟩, _, _, rfl, rfl, _, _, rfl, rfl, _, _, rfl, rfl, .inr ⟨by decide, by decide⟩, _, _, rfl, rfl, (by show (0 : Int) < 2147483647; decide), ?_⟩
        have b0 := Int.emod_nonneg (((n + s0) % 2147483629 + 131071 * (n0 + 1) + 29) * 48271) (show (2147483647 : Int) ≠ 0 by decide)
        have b1 := Int.emod_lt_of_pos (((n + s0) % 2147483629 + 131071 * (n0 + 1) + 29) * 48271) (show (0 : Int) < 2147483647 by decide)
        generalize ((n + s0) % 2147483629 + 131071 * (n0 + 1) + 29) * 48271 % 2147483647 = y0 at *
        refine ⟨_, rfl, _, rfl, _, _, rfl, rfl, .inl ⟨by omega, by omega⟩, .ref d, rfl, d, _, 2, .int (n0 + 1), rfl, rfl, .inl (.inl hd3), atI_nat (j := 2) rfl, 16807, (n0 + 1), rfl, rfl, .inl ⟨by decide, by decide⟩, _, _, rfl, rfl, _, _, rfl, rfl, _, _, rfl, rfl, (by show (0 : Int) < 2147483587; decide), ?_⟩
        have c0 := Int.emod_nonneg (y0 * y0 + 16807 * (n0 + 1) + 3) (show (2147483587 : Int) ≠ 0 by decide)
        have c1 := Int.emod_lt_of_pos (y0 * y0 + 16807 * (n0 + 1) + 3) (show (0 : Int) < 2147483587 by decide)
        generalize (y0 * y0 + 16807 * (n0 + 1) + 3) % 2147483587 = y1 at *
        refine ⟨_, rfl, _, _, rfl, rfl, .inr ⟨by decide, by decide⟩, _, _, rfl, rfl, (by show (0 : Int) < 2147483563; decide), _, 64, rfl, rfl, ⟨by decide, by decide⟩, .int m, rfl, _, m, rfl, rfl, hm, ?_⟩
        exact q _ _ ⟨r, s0, n0 + 1, hd3, hc3, by omega⟩ kp3 (Int.emod_nonneg _ (by omega)) (Int.emod_lt_of_pos _ hm)
end
end Kr

set_option Elab.async false
set_option linter.all false
set_option maxRecDepth 100000
set_option maxHeartbeats 4000000
namespace Kr
open PySem PySem.Spec PyProof.Rows L2
theorem cutTo (xs : List V) (k : Nat) : cutV xs none (some (k : Int)) = xs.take k := by
  unfold cutV
  rw [HT.sIx_none, HT.sIx_nat]
  show (xs.drop 0).take (min k xs.length - 0) = xs.take k
  rw [List.drop_zero, Nat.sub_zero]
  by_cases h : k ≤ xs.length
  · rw [Nat.min_eq_left h]
  · rw [Nat.min_eq_right (by omega), List.take_length, List.take_of_length_le (by omega)]
section
variable {P : Program} {w : World} {K : PySem.W.Frag} {mg : Str → Option Value} {base : Heap}
def spDeck (K : PySem.W.Frag) : Sp := fun vs H Q _ => ∃ (a : Addr) (ns : List Int), vs = [.ref a] ∧ SqL K H a (ns.map V.int) ∧ ∀ H' d c, Same H H' → H d = none → H c = none → Dk H' d c → Q (.ref d) H'
theorem ok_deck {f : Addr} {fd : FuncData} {k : Nat} (F : Fun K "_law_deck" "_law_deck" sDeck f fd) (m1 : mg "list" = none) : FnOk P w K mg base CX0 (k + 1) f fd ["_law_script"] (spDeck K) := by
  refine F.ok scDeck (fun vs H Q E h => ?_) (fun cdv A outer s H vs Q E hr h => ?_)
  · obtain ⟨x, _, rfl, _⟩ := h
    rfl
  · obtain ⟨a, ns, rfl, hS, q⟩ := h
    refine ⟨_, pss_cons (ps_set (i := 1) scDeck.nd rfl (.inl rfl) (pe_callTy call_list_of (by rfl) m1 (by decide +kernel) (pa_cons (pe_slice sl_list (pv 0) po_none (po_some pe_int)) pa_nil)))
      (pss_cons (ps_set (i := 2) scDeck.nd rfl (.inl rfl) pe_int)
      (pss_cons (ps_for PassesOwn.never rfl (pi_list (pv 1)) (pg_name (i := 3) scDeck.nd rfl (.inl rfl))
        (pss_one (ps_set (i := 2) scDeck.nd rfl (.inl rfl) (pe_op op_mod (pe_op op_add (pe_op op_add (pe_op op_mul (pv 2) pe_int) (pe_op op_mod (pv 3) pe_int)) pe_int) pe_int))))
      (pss_one (ps_ret (pe_lst (pa_cons (pe_revL (pv 1)) (pa_cons (pv 2) (pa_cons pe_int pa_nil)))))))), ?_⟩
    refine ⟨.ref a, rfl, 63, rfl, a, _, rfl, hS, fun b nb => ?_⟩
    have e63 : cutV (ns.map V.int) none (some 63) = (ns.take 63).map V.int := by
      rw [show (63 : Int) = ((63 : Nat) : Int) from rfl, cutTo, List.map_take]
    rw [e63]
    have s1 := same_upd (o := .lst ((ns.take 63).map V.int)) nb
    refine ⟨b, _, rfl, .inl (.inl (.inl upd_same)), fun c nc => ?_⟩
    have s2 := same_upd (o := .lst ((ns.take 63).map V.int)) nc
    refine ⟨.ref c, rfl, c, rfl, ⟨_, .inl (.inl upd_same)⟩, ?_⟩
    have hl : (ns.take 63).length ≤ 63 := by simp; omega
    refine for_list (xs := (ns.take 63).map V.int) (fun i σ H' => ∃ (tot : Int) (cv : Option V), σ = [some (.ref a), some (.ref c), some (.int tot), cv] ∧ Same H H' ∧ H' c = some (.lst ((ns.take 63).map V.int)))
      ⟨90001, none, rfl, s1.trans s2, upd_same⟩ (fun i σ H' _ ⟨_, _, _, _, h⟩ => .inl (.inl h)) (fun i x σ H' hx ⟨tot, cv, e, sm, hc⟩ => ?_) (fun σ H' ⟨tot, cv, e, sm, hc⟩ => ?_)
    · subst e
      rw [List.getElem?_map] at hx
      cases hn : (ns.take 63)[i]? with
      | none =>
        rw [hn] at hx
        cases hx
      | some n =>
        rw [hn] at hx
        cases hx
        exact ⟨.int tot, rfl, tot, 40692, rfl, rfl, .inr ⟨by decide, by decide⟩, .int n, rfl, n, _, rfl, rfl, (by show (0 : Int) < 2147483399; decide), _, _, rfl, rfl, _, _, rfl, rfl, _, _, rfl, rfl, (by show (0 : Int) < 2147483563; decide), _, _, rfl, sm, hc⟩
    · subst e
      refine ⟨.ref c, rfl, c, _, rfl, .inl (.inl hc), fun r nr => ?_⟩
      have s3 := same_upd (o := .lst ((ns.take 63).map V.int).reverse) nr
      refine ⟨.int tot, rfl, (by show 3 ≤ sizeLine; decide), fun d nd => ?_⟩
      have s4 := same_upd (o := .lst [.ref r, .int tot, .int 0]) nd
      refine q _ d r (sm.trans (s3.trans s4)) (sm.free (s3.free nd)) (sm.free nr) ⟨(ns.take 63).reverse, tot, 0, upd_same, ?_, by simpa using hl⟩
      rw [List.map_reverse]
      exact s4 _ _ upd_same
/-! the context of a deck -/
def deckC (d c : Addr) : Cz where
  M := fun b => b = d ∨ b = c
  tok := some d
  J := fun H => Dk H d c
  st := fun H H' _ s ⟨ns, t, n, h1, h2, h3⟩ => ⟨ns, t, n, s _ _ (.inl rfl) h1, s _ _ (.inr rfl) h2, h3⟩
  mt := fun H b m ⟨ns, t, n, h1, h2, h3⟩ z => by
    rcases m with rfl | rfl
    · rw [h1] at z
      cases z
    · rw [h2] at z
      cases z
theorem deckC_ok (d c : Addr) : IsDk (deckC d c) := ⟨d, c, rfl, .inl rfl, .inr rfl, fun _ h => h, fun _ _ _ h _ => h⟩
@[simp] def pDraw : List PyData → Prop := fun ds => ∃ m : Int, ds = [tokD, .int m] ∧ 0 < m ∧ m < 2 ^ 63
@[simp] def rDraw : List PyData → PyData → Prop := fun ds d => ∃ m r : Int, ds = [tokD, .int m] ∧ d = .int r ∧ 0 ≤ r ∧ r < m
theorem dq_tok {C : Cz} {H : Hp} {v : V} (h : Dq C H v tokD) : ∃ a, v = .ref a ∧ C.tok = some a := by
  generalize e : tokD = t at h
  cases h with
  | tok h => exact ⟨_, rfl, h⟩
  | @dct a kvs ps m hH r =>
    exfalso
    have e' : ps = [(PyData.none, PyData.none)] := (PyData.dict.inj e).symm
    subst e'
    generalize ez : [(PyData.none, PyData.none)] = z at r
    cases r with
    | nil => cases ez
    | @cons k v kvs e ps h t =>
      have := congrArg Prod.fst (List.cons.inj ez).1
      cases k <;> cases this
  | _ => cases e
theorem c__law_draw {n : Nat} (D : Dfn K mg "_law_draw" sDraw ["_law_deck_here", "_law_most"]) : Cal P w K mg base (n + 1) "_law_draw" ["_law_deck_here", "_law_most"] (spQ IsDk pDraw rDraw) := by
  refine Cal.of D fun f fd F => (gok_fn (ok_draw F)).imp fun vs H Q E h => ?_
  obtain ⟨C, ds, hG, r, j, ⟨m, rfl, h1, h2⟩, q⟩ := h
  cases r with
  | cons a1 r =>
    cases r with
    | cons a2 r =>
      cases r
      cases a2
      obtain ⟨d, rfl, ht⟩ := dq_tok a1
      obtain ⟨d', c, e1, e2, e3, e4, e5⟩ := hG.ex
      rw [ht] at e1
      cases e1
      have hk := e4 H j
      refine ⟨d, c, m, rfl, hk, h1, by omega, fun H' r g1 g2 g3 g4 => ?_⟩
      obtain ⟨ns, s0, n0, hd, hc, _⟩ := hk
      refine q (.int r) ⟨m, r, rfl, rfl, g3, g4⟩ _ H' ⟨fun b x t => t.stay fun o eb => g2 b o (t.neq hd fzLst) (t.neq hc fzLst) eb, fun b o mb eb => g2 b o (fun z => mb (z ▸ e2)) (fun z => mb (z ▸ e3)) eb⟩ (e5 H H' j g1 g2) (.int r)
theorem PSs.exC {X : Cx} {G : Cz → Prop} {Ow : List Nat} {body : List Stmt} {t : P0S} (h : ∀ C, G C → QSs X C Ow body t) : PSs X body (fun D σ H => ∃ C, G C ∧ lfS C Ow H (fun _ => none) t D σ H) := ⟨fun pins s σ H D I ⟨C, g, q⟩ => ((h C g).ps H _).run pins s σ H D I q⟩
def spLaw (K : PySem.W.Frag) : Sp := fun vs H Q _ => ∃ (a : Addr) (ns : List Int), vs = [.ref a] ∧ SqL K H a (ns.map V.int) ∧ ∀ H', Q (.bl true) H'
/-- the law: its deck, then what is told of any deck -/
theorem law_by {k : Nat} {f f1 : Addr} {fd d1 : FuncData} {st : Stmt} {N : List Str} {Ow : List Nat} {p1 p2 p3 p4 : Pos} {rest : List Stmt} (F : Fun K "law" "law" st f fd) (S : FnScope N ["_law_script"] (defScope st)) (hb : defBody st = .Assign [.Name "_law_deck_here" p1] (.Call (.Name "_law_deck" p2) [.Name "_law_script" p3] [] p4) p1 :: rest)
    (t : P0S) (ht : True) : True := trivial
end
end Kr

set_option Elab.async false
set_option linter.all false
set_option maxRecDepth 100000
set_option maxHeartbeats 4000000
namespace Kr
open PySem PySem.Spec PyProof.Rows L2
abbrev s__law_is_unknown : Stmt := topS 26
theorem sc__law_is_unknown : FnScope ["_law_term_here"] ["_law_term_here"] (defScope s__law_is_unknown) := ⟨rfl, rfl, rfl, by decide +kernel, rfl, by decide +kernel, by decide +kernel⟩
abbrev s__law_is_pair : Stmt := topS 27
theorem sc__law_is_pair : FnScope ["_law_term_here"] ["_law_term_here"] (defScope s__law_is_pair) := ⟨rfl, rfl, rfl, by decide +kernel, rfl, by decide +kernel, by decide +kernel⟩
abbrev s__law_parts : Stmt := topS 29
theorem sc__law_parts : FnScope ["_law_term_here"] ["_law_term_here"] (defScope s__law_parts) := ⟨rfl, rfl, rfl, by decide +kernel, rfl, by decide +kernel, by decide +kernel⟩
abbrev s__law_deep : Stmt := topS 30
theorem sc__law_deep : FnScope ["_law_term_here"] ["_law_term_here"] (defScope s__law_deep) := ⟨rfl, rfl, rfl, by decide +kernel, rfl, by decide +kernel, by decide +kernel⟩
abbrev s__law_pick : Stmt := topS 23
theorem sc__law_pick : FnScope ["_law_deck_here", "_law_some"] ["_law_deck_here", "_law_some"] (defScope s__law_pick) := ⟨rfl, rfl, rfl, by decide +kernel, rfl, by decide +kernel, by decide +kernel⟩
abbrev s__law_atom : Stmt := topS 24
theorem sc__law_atom : FnScope ["_law_deck_here", "_law_way"] ["_law_deck_here"] (defScope s__law_atom) := ⟨rfl, rfl, rfl, by decide +kernel, rfl, by decide +kernel, by decide +kernel⟩
abbrev s__law_numbers : Stmt := topS 25
theorem sc__law_numbers : FnScope ["_law_deck_here", "_law_some"] ["_law_deck_here"] (defScope s__law_numbers) := ⟨rfl, rfl, rfl, by decide +kernel, rfl, by decide +kernel, by decide +kernel⟩
@[simp] theorem all_int {p : PyData → Int → Prop} : (∀ (d : PyData) (x : Int), d = PyData.int x → p d x) ↔ ∀ x, p (.int x) x := ⟨fun h x => h _ x rfl, fun h _ x e => e ▸ h x⟩
@[simp] theorem sl {n : Nat} (h : n ≤ 1000000) : n ≤ sizeLine := Nat.le_trans h (by decide)
@[simp] theorem isB_int (i : Int) : rSub.isB (.int i) = false := rfl
theorem sl' {n : Nat} (h : n ≤ 1000000) : n < sizeLine := Nat.lt_of_le_of_lt h (by decide)
theorem upto2 {p : Int → Prop} (h0 : p 0) (h1 : p 1) : ∀ x : Int, 0 ≤ x → x < 2 → p x := fun x a b => by
  rcases (show x = 0 ∨ x = 1 by omega) with rfl | rfl
  · exact h0
  · exact h1
theorem upto4 {p : Int → Prop} (h0 : p 0) (h1 : p 1) (h2 : p 2) (h3 : p 3) : ∀ x : Int, 0 ≤ x → x < 4 → p x := fun x a b => by
  rcases (show x = 0 ∨ x = 1 ∨ x = 2 ∨ x = 3 by omega) with rfl | rfl | rfl | rfl
  · exact h0
  · exact h1
  · exact h2
  · exact h3
/-- an end of a term that is no unknown -/
def AtD (d : PyData) : Prop := ∃ t : Tm, t.ok ∧ t.sm ∧ t.size = 1 ∧ t.vars = [] ∧ d = t.data
theorem atD_int {i : Int} (h : i.natAbs ≤ 10 ^ 39) : AtD (.int i) := ⟨.int i, trivial, h, rfl, rfl, rfl⟩
@[simp] theorem atD_nil : AtD (.tuple []) := ⟨.nil, trivial, trivial, rfl, rfl, rfl⟩
theorem atD_str {z : Str} (h : Wd z) : AtD (.str z) := ⟨.wrd z, h, trivial, rfl, rfl, rfl⟩
def wdB (z : Str) : Bool := decide (1 ≤ z.length) && decide (z.length ≤ 8) && z.cps.toList.all fun c => decide (97 ≤ c) && decide (c ≤ 122)
theorem wdB_wd {z : Str} (h : wdB z = true) : Wd z := by
  unfold wdB at h
  rw [Bool.and_eq_true, Bool.and_eq_true, List.all_eq_true] at h
  refine ⟨of_decide_eq_true h.1.1, of_decide_eq_true h.1.2, fun c hc => ?_⟩
  have := h.2 c hc
  rw [Bool.and_eq_true] at this
  exact ⟨of_decide_eq_true this.1, of_decide_eq_true this.2⟩
section
variable {P : Program} {w : World} {K : PySem.W.Frag} {mg : Str → Option Value} {base : Heap} {n : Nat}
theorem len1' {p : PyData → Prop} {a : Str} : ∀ ds, p1 p ds → ds.length = [a].length := by rintro _ ⟨x, rfl, _⟩; rfl
theorem cut1 {α : Type} (xs : List α) : cutG xs none (some 1) = xs.take 1 := by
  unfold cutG
  rw [HT.sIx_none, show (1 : Int) = ((1 : Nat) : Int) from rfl, HT.sIx_nat]
  cases xs with
  | nil => rfl
  | cons x r =>
    have : min 1 (x :: r).length = 1 := by simp
    rw [this]
    rfl
theorem shp_q : shp (.tuple [.str "?"]) = true := by decide +kernel
theorem shp_t1 {d : PyData} (h1 : d.canLay0 = true) (h2 : d.depth ≤ 63) : shp (.tuple [d]) = true := by
  unfold shp SeqAt.shaped
  have e1 : (PyData.tuple [d]).canLay0 = true := by
    show (d.canLay0 && true) = true
    rw [h1]
    rfl
  have e2 : (PyData.tuple [d]).depth ≤ 64 := by
    show max d.depth 0 + 1 ≤ 64
    omega
  rw [e1, decide_eq_true e2]
  rfl
theorem eqv_one (a b : PyData) : PyData.eqv (.tuple [a]) (.tuple [b]) = PyData.eqv a b := by simp [PyData.eqv, PyData.eqvAll]
theorem c__law_is_unknown (B : Bl mg) (D : Dfn K mg "_law_is_unknown" s__law_is_unknown ["_law_term_here"]) : Cal P w K mg base (n + 1) "_law_is_unknown" ["_law_term_here"] (spQ Any (p1 (TmP 62)) (b1 isMk)) := by
  refine defG [] D sc__law_is_unknown len1' (by simp) (fun f C hG cdv A outer s H E g0 hr => ⟨_, (qss_one (qs_ret (qe_and (qe_isi "tuple" (by decide) (fun _ h => pe_callB call_isi (by rfl) B.isinstance (by decide +kernel) (pa_cons h (pa_cons (pe_bltn (v := .ty "tuple") (by rfl) B.tuple (by decide +kernel) rfl) pa_nil))) (qv 0)) (qe_one (qe_cmp (oq_eqA hr.units) (qe_slice (qv 0) qo_none (qo_some qe_int)) (qe_tup (qa_cons qe_str qa_nil)) (nomark _)))))), ?_⟩)
  rintro _ ⟨x, rfl, t, ho, hd, rfl⟩
  rw [show b1 isMk [t.data] = fun d => d = .bool (isMk t.data) from by funext d; simp]
  rw [isMk_data ho]
  cases t with
  | int i => simp [Tm.data, isTok, Tm.isUnk]
  | wrd z => simp [Tm.data, isTok, Tm.isUnk]
  | nil =>
    simp [Tm.data, isTok, Tm.isUnk, cut1]
    exact ⟨eqA_of rfl (shpInts []) shp_q, rfl⟩
  | unk m =>
    simp [Tm.data, isTok, Tm.isUnk, cut1]
    exact ⟨eqA_of rfl shp_q shp_q, by decide +kernel⟩
  | pair a b =>
    simp [Tm.data, isTok, Tm.isUnk, cut1]
    have hda : a.depth ≤ 62 := by
      have h : max a.depth b.depth + 1 ≤ 62 := hd
      omega
    exact ⟨eqA_of rfl (shp_t1 (Tm.lay ho.1) (Nat.le_trans a.data_depth (by omega))) shp_q, by rw [eqv_one]; exact Tm.noq ho.1⟩
theorem c__law_is_pair (B : Bl mg) (D : Dfn K mg "_law_is_pair" s__law_is_pair ["_law_term_here"]) : Cal P w K mg base (n + 1) "_law_is_pair" ["_law_term_here"] (spQ Any (p1 fun x => ∃ t : Tm, t.ok ∧ x = t.data) (b1 isPr)) := by
  refine defG [] D sc__law_is_pair len1' (by simp) (fun f C hG cdv A outer s H E g0 hr => ⟨_, (qss_one (qs_ret (qe_and (qe_isi "tuple" (by decide) (fun _ h => pe_callB call_isi (by rfl) B.isinstance (by decide +kernel) (pa_cons h (pa_cons (pe_bltn (v := .ty "tuple") (by rfl) B.tuple (by decide +kernel) rfl) pa_nil))) (qv 0)) (qe_and (qe_cmp (oq_neA hr.units) (qv 0) (qe_tup qa_nil) (nomark _)) (qe_one (qe_cmp (oq_neA hr.units) (qe_ix (qv 0) qe_int (fun _ _ => rfl)) qe_str (nomark _))))))), ?_⟩)
  rintro _ ⟨x, rfl, t, ho, rfl⟩
  rw [show b1 isPr [t.data] = fun d => d = .bool (isPr t.data) from by funext d; simp]
  rw [isPr_data ho]
  cases t with
  | int i => simp [Tm.data, isTok, Tm.isPair]
  | wrd z => simp [Tm.data, isTok, Tm.isPair]
  | nil => simp [Tm.data, isTok, Tm.isPair, eqA, eqv_nil, isNil]
  | unk m => simp [Tm.data, isTok, Tm.isPair, eqA, eqv_nil, isNil, L2.atI, ixN]
  | pair a b =>
    simp [Tm.data, isTok, Tm.isPair, eqA, eqv_nil, isNil, L2.atI, ixN, Tm.noq ho.1]
    exact Tm.noTok a
theorem c__law_pick (B : Bl mg) (D : Dfn K mg "_law_pick" s__law_pick ["_law_deck_here", "_law_some"])
    (c__law_draw : Cal P w K mg base n "_law_draw" ["_law_deck_here", "_law_most"] (spQ IsDk pDraw rDraw)) : Cal P w K mg base (n + 1) "_law_pick" ["_law_deck_here", "_law_some"] (spQ IsDk (fun ds => ∃ xs : List PyData, ds = [tokD, .list xs] ∧ xs ≠ [] ∧ xs.length < 2 ^ 62) (fun ds d => ∃ xs : List PyData, ds = [tokD, .list xs] ∧ d ∈ xs)) := by
  refine defG [] D sc__law_pick (by rintro _ ⟨xs, rfl, _⟩; rfl) (by simp) (fun f C hG cdv A outer s H E g0 hr => ⟨_, (qss_one (qs_ret (qe_ix (qv 1) (qe_cal c__law_draw hG g0 hr (by rfl) (qa_cons (qv 0) (qa_cons (qe_callB cq_len (by rfl) B.len PySem.boot_len (qa_cons (qv 1) qa_nil)) qa_nil))) (fun _ _ => rfl)))), ?_⟩)
  rintro _ ⟨xs, rfl, hn, hl⟩
  have hp := List.length_pos_iff.mpr hn
  simp
  refine ⟨⟨hp, by omega⟩, fun x h0 h1 => ?_⟩
  obtain ⟨k, rfl⟩ := Int.eq_ofNat_of_zero_le h0
  have hk : k < xs.length := by omega
  exact ⟨xs[k], atI_nat (List.getElem?_eq_getElem hk), List.getElem_mem hk⟩
/-- the numbers that are drawn: rising -/
def NumsD (d : PyData) : Prop := ∃ ns : List Int, d = .list (ns.map .int) ∧ ns.length ≤ 8 ∧ (∀ k ∈ ns, 0 ≤ k ∧ k.natAbs ≤ 10 ^ 39) ∧ ns.Pairwise (· < ·)
theorem c__law_numbers (B : Bl mg) (D : Dfn K mg "_law_numbers" s__law_numbers ["_law_deck_here"])
    (c__law_draw : Cal P w K mg base n "_law_draw" ["_law_deck_here", "_law_most"] (spQ IsDk pDraw rDraw)) : Cal P w K mg base (n + 1) "_law_numbers" ["_law_deck_here"] (spQ IsDk (p1 fun x => x = tokD) (fun ds d => NumsD d)) := by
  refine defG [] D sc__law_numbers len1' (by simp) (fun f C hG cdv A outer s H E g0 hr => ⟨_, (qss_cons (qs_setX (k := 1) (by decide) sc__law_numbers.nd rfl (by first | exact Or.inl rfl | exact Or.inr rfl) (fun _ x1 => (qe_slice (qe_lst (qa_cons qe_int (qa_cons qe_int (qa_cons qe_int (qa_cons qe_int (qa_cons qe_int (qa_cons qe_int qa_nil))))))) (qo_some (qe_cal c__law_draw (hG.ext x1) g0 hr (by rfl) (qa_cons (qv 0) (qa_cons qe_int qa_nil)))) qo_none))) (qss_cons (qs_if (qt_cmp (oq_eqA hr.units) (qe_cal c__law_draw hG g0 hr (by rfl) (qa_cons (qv 0) (qa_cons qe_int qa_nil))) qe_int (nomark _)) (qss_one (qs_ret (qe_op oq_add (qe_slice (qv 1) qo_none (qo_some qe_int)) (qe_lst (qa_cons (qe_op oq_pow qe_int qe_int) (qa_cons (qe_op oq_sub (qe_op oq_pow qe_int qe_int) qe_int) qa_nil)))))) qss_nil) (qss_one (qs_ret (qe_op oq_add (qv 1) (qe_op oq_rep (qe_ix (qe_lst (qa_cons (qe_lst qa_nil) (qa_cons (qe_lst (qa_cons qe_int (qa_cons qe_int qa_nil))) (qa_cons (qe_lst (qa_cons qe_int (qa_cons qe_int qa_nil))) (qa_cons (qe_lst (qa_cons qe_int qa_nil)) qa_nil))))) (qe_cal c__law_draw hG g0 hr (by rfl) (qa_cons (qv 0) (qa_cons qe_int qa_nil))) (fun _ _ => rfl)) (qe_callTy cq_int (by rfl) B.int (by decide +kernel) (qa_cons (qe_cmp (oq_eqA hr.units) (qe_cal c__law_draw hG g0 hr (by rfl) (qa_cons (qv 0) (qa_cons qe_int qa_nil))) qe_int (nomark _)) qa_nil)))))))), ?_⟩)
  rintro _ ⟨x, rfl, rfl⟩
  simp
  intro x h0 h1 w _ _
  have c : ∃ ns : List Int, cutG [PyData.int 0, PyData.int 1, PyData.int 2, PyData.int 3, PyData.int 4, PyData.int 5] (some x) none = ns.map .int ∧ ns.length ≤ 6 ∧ 2 ≤ ns.length ∧ (∀ k ∈ ns, 0 ≤ k ∧ k ≤ 5) ∧ ns.Pairwise (· < ·) := by
    rcases (show x = 0 ∨ x = 1 ∨ x = 2 ∨ x = 3 by omega) with rfl | rfl | rfl | rfl
    · exact ⟨[0, 1, 2, 3, 4, 5], rfl, by decide, by decide, by decide, by decide⟩
    · exact ⟨[1, 2, 3, 4, 5], rfl, by decide, by decide, by decide, by decide⟩
    · exact ⟨[2, 3, 4, 5], rfl, by decide, by decide, by decide, by decide⟩
    · exact ⟨[3, 4, 5], rfl, by decide, by decide, by decide, by decide⟩
  obtain ⟨ns, c1, c2, c4, c3, c5⟩ := c
  rw [c1]
  by_cases hw : w = 5
  · rw [if_pos hw]
    have ct : cutG (ns.map PyData.int) none (some 2) = (ns.take 2).map .int := by
      unfold cutG
      rw [HT.sIx_none, show (2 : Int) = ((2 : Nat) : Int) from rfl, HT.sIx_nat, List.drop_zero, Nat.sub_zero, List.length_map, Nat.min_eq_left c4, List.map_take]
    rw [ct]
    refine ⟨⟨by decide, by decide, by decide⟩, ⟨by decide, by decide, by decide⟩, sl (by simp; omega), ns.take 2 ++ [1000000000000, 999999999999999999999999999999999999999], by simp, by simp; omega, fun k hk => ?_, ?_⟩
    · rcases List.mem_append.mp hk with hk | hk
      · have := c3 k (List.mem_of_mem_take hk)
        omega
      · simp at hk
        omega
    · rw [List.pairwise_append]
      refine ⟨c5.sublist (List.take_sublist ..), by decide, fun a ha b hb => ?_⟩
      have := (c3 a (List.mem_of_mem_take ha)).2
      simp at hb
      omega
  rw [if_neg hw]
  intro y h2 h3
  have e : ∃ l : List PyData, atI [PyData.list [], PyData.list [PyData.int 10, PyData.int 99], PyData.list [PyData.int 9, PyData.int 100], PyData.list [PyData.int 999]] y = some (.list l) ∧ l.length ≤ 2 ∧ ∃ ns : List Int, l = ns.map .int ∧ (∀ k ∈ ns, 9 ≤ k ∧ k ≤ 999) ∧ ns.Pairwise (· < ·) := by
    rcases (show y = 0 ∨ y = 1 ∨ y = 2 ∨ y = 3 by omega) with rfl | rfl | rfl | rfl
    · exact ⟨[], rfl, by decide, [], rfl, by simp, by decide⟩
    · exact ⟨[.int 10, .int 99], rfl, by decide, [10, 99], rfl, by decide, by decide⟩
    · exact ⟨[.int 9, .int 100], rfl, by decide, [9, 100], rfl, by decide, by decide⟩
    · exact ⟨[.int 999], rfl, by decide, [999], rfl, by decide, by decide⟩
  obtain ⟨l, e1, e2, ms, rfl, e4, e5⟩ := e
  refine ⟨_, e1, fun z _ _ => ⟨_, rfl, ?_⟩⟩
  rw [List.length_map] at e2
  by_cases hz : z = 1
  · simp only [hz, if_true, List.length_map]
    refine ⟨by decide, by decide, sl ?_, sl ?_, ns ++ ms, by simp, by simp; omega, fun k hk => (List.mem_append.mp hk).elim (fun h => by have := c3 k h; omega) (fun h => by have := e4 k h; omega), ?_⟩
    · show ms.length * 1 ≤ _
      omega
    · show ns.length + 1 * ms.length ≤ _
      omega
    · rw [List.pairwise_append]
      refine ⟨c5, e5, fun a ha b hb => ?_⟩
      have := (c3 a ha).2
      have := e4 b hb
      omega
  · simp only [hz, if_false, List.length_map]
    refine ⟨by decide, by decide, sl ?_, sl ?_, ns, by simp, by omega, fun k h => by have := c3 k h; omega, c5⟩
    · show ms.length * 0 ≤ _
      omega
    · show ns.length + 0 * ms.length ≤ _
      omega
theorem c__law_atom (B : Bl mg) (D : Dfn K mg "_law_atom" s__law_atom ["_law_deck_here"])
    (c__law_draw : Cal P w K mg base n "_law_draw" ["_law_deck_here", "_law_most"] (spQ IsDk pDraw rDraw))
    (c__law_pick : Cal P w K mg base n "_law_pick" ["_law_deck_here", "_law_some"] (spQ IsDk (fun ds => ∃ xs : List PyData, ds = [tokD, .list xs] ∧ xs ≠ [] ∧ xs.length < 2 ^ 62) (fun ds d => ∃ xs : List PyData, ds = [tokD, .list xs] ∧ d ∈ xs))) : Cal P w K mg base (n + 1) "_law_atom" ["_law_deck_here"] (spQ IsDk (p1 fun x => x = tokD) (fun ds d => AtD d)) := by
  refine defG [] D sc__law_atom len1' (by simp) (fun f C hG cdv A outer s H E g0 hr => ⟨_, (qss_cons (qs_setX (k := 1) (by decide) sc__law_atom.nd rfl (by first | exact Or.inl rfl | exact Or.inr rfl) (fun _ x1 => (qe_cal c__law_draw (hG.ext x1) g0 hr (by rfl) (qa_cons (qv 0) (qa_cons qe_int qa_nil))))) (qss_cons (qs_if (qt_cmp oq_lt (qv 1) qe_int (nomark _)) (qss_one (qs_ret (qe_cal c__law_pick hG g0 hr (by rfl) (qa_cons (qv 0) (qa_cons (qe_lst (qa_cons qe_int (qa_cons qe_int (qa_cons qe_str (qa_cons qe_str (qa_cons (qe_tup qa_nil) qa_nil)))))) qa_nil))))) qss_nil) (qss_cons (qs_if (qt_cmp (oq_eqA hr.units) (qv 1) qe_int (nomark _)) (qss_one (qs_ret (qe_cal c__law_pick hG g0 hr (by rfl) (qa_cons (qv 0) (qa_cons (qe_lst (qa_cons (qe_op oq_pow qe_int qe_int) (qa_cons (qe_op oq_sub qe_int (qe_op oq_pow qe_int qe_int)) (qa_cons (qe_op oq_mul (qe_cal c__law_draw hG g0 hr (by rfl) (qa_cons (qv 0) (qa_cons (qe_op oq_pow qe_int qe_int) qa_nil))) (qe_op oq_pow qe_int qe_int)) (qa_cons qe_str qa_nil))))) qa_nil))))) qss_nil) (qss_one (qs_ret (qe_cal c__law_pick hG g0 hr (by rfl) (qa_cons (qv 0) (qa_cons (qe_lst (qa_cons qe_int (qa_cons qe_int (qa_cons qe_int (qa_cons qe_int (qa_cons (qe_neg qe_int) (qa_cons (qe_neg qe_int) (qa_cons qe_int (qa_cons qe_str (qa_cons qe_str (qa_cons qe_str (qa_cons qe_str (qa_cons qe_str (qa_cons qe_str (qa_cons qe_str qa_nil))))))))))))))) qa_nil)))))))), ?_⟩)
  rintro _ ⟨x, rfl, rfl⟩
  simp
  intro x h0 h1
  by_cases ha : x < 4
  · rw [if_pos ha]
    repeat' first | exact atD_nil | exact atD_str (wdB_wd (by decide +kernel)) | (refine atD_int ?_; first | decide | omega) | refine And.intro ?_ ?_
  · rw [if_neg ha]
    by_cases hb : x = 7
    · rw [if_pos hb]
      refine ⟨⟨by decide, by decide, by decide⟩, ⟨by decide, by decide, by decide⟩, fun x h0 h1 => ⟨⟨by decide, by decide, by decide⟩, .inr ⟨by decide, by decide⟩, ?_⟩⟩
      repeat' first | exact atD_nil | exact atD_str (wdB_wd (by decide +kernel)) | (refine atD_int ?_; first | decide | omega) | refine And.intro ?_ ?_
    · rw [if_neg hb]
      repeat' first | exact atD_nil | exact atD_str (wdB_wd (by decide +kernel)) | (refine atD_int ?_; first | decide | omega) | refine And.intro ?_ ?_
end
end Kr

set_option Elab.async false
set_option linter.all false
set_option maxRecDepth 100000
namespace Kr
open PySem PySem.Spec PyProof.Rows L2
namespace Tm
/-- terms put for unknowns -/
def sub (σ : Int → Tm) : Tm → Tm
  | .unk n => σ n
  | .pair a b => .pair (sub σ a) (sub σ b)
  | .int i => .int i
  | .wrd z => .wrd z
  | .nil => .nil
theorem sub_congr {σ τ : Int → Tm} : ∀ t : Tm, (∀ n ∈ t.vars, σ n = τ n) → sub σ t = sub τ t
  | .unk n, h => h n (by simp [vars])
  | .pair a b, h => by
    rw [sub, sub, sub_congr a fun n hn => h n (by simp [vars, hn]), sub_congr b fun n hn => h n (by simp [vars, hn])]
  | .int _, _ => rfl
  | .wrd _, _ => rfl
  | .nil, _ => rfl
theorem sub_id : ∀ t : Tm, sub .unk t = t
  | .unk _ => rfl
  | .pair a b => by rw [sub, sub_id a, sub_id b]
  | .int _ => rfl
  | .wrd _ => rfl
  | .nil => rfl
theorem sub_sub (σ τ : Int → Tm) : ∀ t : Tm, sub σ (sub τ t) = sub (fun n => sub σ (τ n)) t
  | .unk _ => rfl
  | .pair a b => by rw [sub, sub, sub, sub_sub σ τ a, sub_sub σ τ b]
  | .int _ => rfl
  | .wrd _ => rfl
  | .nil => rfl
theorem vars_sub {σ : Int → Tm} : ∀ {t : Tm} {n : Int}, n ∈ (sub σ t).vars → ∃ m ∈ t.vars, n ∈ (σ m).vars
  | .unk m, n, h => ⟨m, by simp [vars], h⟩
  | .pair a b, n, h => by
    rw [sub, vars] at h
    rcases List.mem_append.mp h with h | h
    · obtain ⟨m, h1, h2⟩ := vars_sub h
      exact ⟨m, by simp [vars, h1], h2⟩
    · obtain ⟨m, h1, h2⟩ := vars_sub h
      exact ⟨m, by simp [vars, h1], h2⟩
  | .int _, n, h => by simp [sub, vars] at h
  | .wrd _, n, h => by simp [sub, vars] at h
  | .nil, n, h => by simp [sub, vars] at h
theorem sub_ok {σ : Int → Tm} : ∀ {t : Tm}, t.ok → (∀ n ∈ t.vars, (σ n).ok) → (sub σ t).ok
  | .unk m, _, h => h m (by simp [vars])
  | .pair a b, h, k => ⟨sub_ok h.1 fun n hn => k n (by simp [vars, hn]), sub_ok h.2 fun n hn => k n (by simp [vars, hn])⟩
  | .int _, _, _ => trivial
  | .wrd _, h, _ => h
  | .nil, _, _ => trivial
theorem sub_size {σ : Int → Tm} {M : Nat} (hM : 1 ≤ M) : ∀ {t : Tm}, (∀ n ∈ t.vars, (σ n).size ≤ M) → (sub σ t).size ≤ t.size * M
  | .unk m, h => by
    have := h m (by simp [vars])
    simpa [sub, size] using this
  | .pair a b, h => by
    have h1 := sub_size hM (t := a) fun n hn => h n (by simp [vars, hn])
    have h2 := sub_size hM (t := b) fun n hn => h n (by simp [vars, hn])
    simp only [sub, size, Nat.add_mul]
    omega
  | .int _, _ => by simpa [sub, size] using hM
  | .wrd _, _ => by simpa [sub, size] using hM
  | .nil, _ => by simpa [sub, size] using hM
theorem sub_depth {σ : Int → Tm} {M : Nat} (hM : 1 ≤ M) : ∀ {t : Tm}, (∀ n ∈ t.vars, (σ n).depth ≤ M) → (sub σ t).depth ≤ t.depth + M
  | .unk m, h => by
    have := h m (by simp [vars])
    simp only [sub, depth]
    omega
  | .pair a b, h => by
    have h1 := sub_depth hM (t := a) fun n hn => h n (by simp [vars, hn])
    have h2 := sub_depth hM (t := b) fun n hn => h n (by simp [vars, hn])
    simp only [sub, depth]
    omega
  | .int _, _ => by simp only [sub, depth]; omega
  | .wrd _, _ => by simp only [sub, depth]; omega
  | .nil, _ => by simp only [sub, depth]; omega
/-- a part -/
def has (p : Tm) : Tm → Bool
  | .pair a b => decide (Tm.pair a b = p) || has p a || has p b
  | t => decide (t = p)
theorem has_unk (n : Int) : ∀ t : Tm, has (.unk n) t = decide (n ∈ t.vars)
  | .pair a b => by
    rw [has, has_unk n a, has_unk n b]
    simp [vars]
  | .unk m => by
    by_cases h : m = n
    · simp [has, vars, h]
    · simp [has, vars, h, Ne.symm h]
  | .int _ => by simp [has, vars]
  | .wrd _ => by simp [has, vars]
  | .nil => by simp [has, vars]
theorem size_part {σ : Int → Tm} : ∀ {t : Tm} {n : Int}, n ∈ t.vars → (σ n).size ≤ (sub σ t).size
  | .unk m, n, h => by
    have : n = m := by simpa [vars] using h
    subst this
    exact Nat.le_refl _
  | .pair a b, n, h => by
    rcases List.mem_append.mp (show n ∈ a.vars ++ b.vars from h) with h | h
    · have := size_part (σ := σ) h
      simp only [sub, size]
      omega
    · have := size_part (σ := σ) h
      simp only [sub, size]
      omega
  | .int _, n, h => by simp [vars] at h
  | .wrd _, n, h => by simp [vars] at h
  | .nil, n, h => by simp [vars] at h
theorem size_in {σ : Int → Tm} {t : Tm} {n : Int} (h : n ∈ t.vars) (hp : t.isPair = true) : (σ n).size < (sub σ t).size := by
  match t, h, hp with
  | .pair a b, h, _ =>
    rcases List.mem_append.mp (show n ∈ a.vars ++ b.vars from h) with h | h
    · have := size_part (σ := σ) h
      simp only [sub, size]
      omega
    · have := size_part (σ := σ) h
      simp only [sub, size]
      omega
end Tm
/-! papers -/
abbrev Eqn := Tm × Tm
inductive Stp where
  | given | turn (i : Int) | thr (i j : Int) | heads (i : Int) | rests (i : Int) | ring (ns : List Int)
def atE (known : List Eqn) (i : Int) : Option Eqn := if 0 ≤ i ∧ i < known.length then known[i.toNat]? else none
def inR (n : Nat) (ns : List Int) : Bool := ns.all fun i => decide (0 ≤ i) && decide (i < n)
def headE : Eqn → Option Eqn
  | (.pair a _, .pair c _) => some (a, c)
  | _ => none
def restE : Eqn → Option Eqn
  | (.pair _ b, .pair _ d) => some (b, d)
  | _ => none
def thrE (x y : Eqn) : Option Eqn := if x.2 = y.1 then some (x.1, y.2) else none
def eqn (known : List Eqn) (g : Eqn) : Stp → Option Eqn
  | .given => some g
  | .turn i => (atE known i).map fun e => (e.2, e.1)
  | .thr i j => (atE known i).bind fun x => (atE known j).bind fun y => thrE x y
  | .heads i => (atE known i).bind headE
  | .rests i => (atE known i).bind restE
  | .ring _ => none
def isClash (e : Eqn) : Bool := !e.1.isUnk && !e.2.isUnk && !decide (e.1 = e.2) && (!e.1.isPair || !e.2.isPair)
/-- the equation at i and the one behind it in the ring -/
def linkE (x y : Option Eqn) : Bool := match x, y with
  | some (.unk _, p), some (u, _) => p.isPair && Tm.has u p
  | _, _ => false
def isRing (known : List Eqn) (ns : List Int) : Bool := !ns.isEmpty && (List.range ns.length).all fun k => linkE (atE known (ns.getD k 0)) (atE known (ns.getD ((k + 1) % ns.length) 0))
def paperGo (g : Eqn) : List Eqn → List Stp → Bool
  | _, [] => false
  | known, [s] => match s with
    | .ring ns => isRing known ns
    | s => match eqn known g s with
      | none => false
      | some e => isClash e
  | known, s :: r => match eqn known g s with
    | none => false
    | some e => paperGo g (known ++ [e]) r
def Sol (σ : Int → Tm) (e : Eqn) : Prop := Tm.sub σ e.1 = Tm.sub σ e.2
theorem atE_mem {known : List Eqn} {i : Int} {e : Eqn} (h : atE known i = some e) : e ∈ known := by
  unfold atE at h
  split at h
  · exact List.mem_of_getElem? h
  · cases h
theorem eqn_sol {σ : Int → Tm} {known : List Eqn} {g : Eqn} (hg : Sol σ g) (hk : ∀ e ∈ known, Sol σ e) {s : Stp} {e : Eqn} (h : eqn known g s = some e) : Sol σ e := by
  cases s with
  | given => cases h; exact hg
  | turn i =>
    obtain ⟨x, h1, rfl⟩ := Option.map_eq_some_iff.mp h
    exact (hk x (atE_mem h1)).symm
  | thr i j =>
    obtain ⟨x, h1, h⟩ := Option.bind_eq_some_iff.mp h
    obtain ⟨y, h2, h⟩ := Option.bind_eq_some_iff.mp h
    unfold thrE at h
    split at h
    · rename_i e1
      cases h
      have a := hk x (atE_mem h1)
      have b := hk y (atE_mem h2)
      unfold Sol at a b ⊢
      rw [a, e1, b]
    · cases h
  | heads i =>
    obtain ⟨x, h1, h⟩ := Option.bind_eq_some_iff.mp h
    obtain ⟨x1, x2⟩ := x
    have a := hk _ (atE_mem h1)
    match x1, x2, h, a with
    | .pair p q, .pair r s, h, a =>
      cases h
      exact (Tm.pair.inj a).1
  | rests i =>
    obtain ⟨x, h1, h⟩ := Option.bind_eq_some_iff.mp h
    obtain ⟨x1, x2⟩ := x
    have a := hk _ (atE_mem h1)
    match x1, x2, h, a with
    | .pair p q, .pair r s, h, a =>
      cases h
      exact (Tm.pair.inj a).2
  | ring ns => cases h
theorem clash_no {σ : Int → Tm} {e : Eqn} (h : Sol σ e) (c : isClash e = true) : False := by
  obtain ⟨a, b⟩ := e
  unfold Sol at h
  simp only at h
  cases a <;> cases b <;> simp_all [isClash, Tm.isUnk, Tm.isPair, Tm.sub]
theorem link_lt {σ : Int → Tm} {known : List Eqn} (hk : ∀ e ∈ known, Sol σ e) {i j : Int} (h : linkE (atE known i) (atE known j) = true) : ∃ n m p q, atE known i = some (.unk n, p) ∧ atE known j = some (m, q) ∧ (∀ k, m = .unk k → (σ k).size < (σ n).size) := by
  cases hi0 : atE known i with
  | none => rw [hi0] at h; cases h
  | some x =>
  cases hj0 : atE known j with
  | none => rw [hi0, hj0] at h; obtain ⟨x1, x2⟩ := x; cases x1 <;> cases h
  | some y =>
  rw [hi0, hj0] at h
  obtain ⟨x1, p⟩ := x
  obtain ⟨u, q⟩ := y
  match x1, h with
  | .unk n, h =>
    refine ⟨n, u, p, q, rfl, rfl, fun k hu => ?_⟩
    have h' : (p.isPair && Tm.has u p) = true := h
    rw [Bool.and_eq_true] at h'
    subst hu
    rw [Tm.has_unk] at h'
    have s : Sol σ (.unk n, p) := hk _ (atE_mem hi0)
    have s' : σ n = Tm.sub σ p := s
    rw [s']
    exact Tm.size_in (of_decide_eq_true h'.2) h'.1
theorem ring_no {σ : Int → Tm} {known : List Eqn} (hk : ∀ e ∈ known, Sol σ e) {ns : List Int} (h : isRing known ns = true) : False := by
  unfold isRing at h
  rw [Bool.and_eq_true, List.all_eq_true] at h
  obtain ⟨h1, h2⟩ := h
  have hl : 0 < ns.length := by
    cases ns with
    | nil => cases h1
    | cons _ _ => simp
  have link : ∀ k, k < ns.length → ∃ n m p q, atE known (ns.getD k 0) = some (.unk n, p) ∧ atE known (ns.getD ((k + 1) % ns.length) 0) = some (m, q) ∧ ∀ j, m = .unk j → (σ j).size < (σ n).size := fun k hk' => link_lt hk (h2 k (List.mem_range.mpr hk'))
  have chain : ∀ k, k < ns.length → ∃ n0 p0 n p, atE known (ns.getD 0 0) = some (.unk n0, p0) ∧ atE known (ns.getD k 0) = some (.unk n, p) ∧ (σ n).size + k ≤ (σ n0).size := by
    intro k
    induction k with
    | zero =>
      intro _
      obtain ⟨n, m, p, q, e1, e2, e3⟩ := link 0 hl
      exact ⟨n, p, n, p, e1, e1, Nat.le_refl _⟩
    | succ k ih =>
      intro hk'
      obtain ⟨n0, p0, n, p, e0, e1, e2⟩ := ih (by omega)
      obtain ⟨n', m, p', q, f1, f2, f3⟩ := link k (by omega)
      rw [e1] at f1
      cases f1
      rw [Nat.mod_eq_of_lt hk'] at f2
      obtain ⟨n2, m2, p2, q2, g1, _, _⟩ := link (k + 1) hk'
      rw [f2] at g1
      cases g1
      have := f3 n2 rfl
      exact ⟨n0, p0, n2, _, e0, f2, by omega⟩
  obtain ⟨n0, p0, n, p, e0, e1, e2⟩ := chain (ns.length - 1) (by omega)
  obtain ⟨n', m, p', q, f1, f2, f3⟩ := link (ns.length - 1) (by omega)
  rw [e1] at f1
  cases f1
  rw [show ns.length - 1 + 1 = ns.length by omega, Nat.mod_self, e0] at f2
  cases f2
  have := f3 n0 rfl
  omega
/-- what a paper that is let by says: nothing makes the two alike -/
theorem paper_no {σ : Int → Tm} {g : Eqn} (hg : Sol σ g) : ∀ (ss : List Stp) (known : List Eqn), (∀ e ∈ known, Sol σ e) → paperGo g known ss = true → False
  | [], _, _, h => by cases h
  | [s], known, hk, h => by
    have step : ∀ s, (match eqn known g s with | none => false | some e => isClash e) = true → False := by
      intro s h
      match he : eqn known g s, h with
      | some e, h => exact clash_no (eqn_sol hg hk he) h
    cases s with
    | ring ns => exact ring_no hk h
    | given => exact step .given h
    | turn i => exact step (.turn i) h
    | thr i j => exact step (.thr i j) h
    | heads i => exact step (.heads i) h
    | rests i => exact step (.rests i) h
  | s :: s2 :: r, known, hk, h => by
    have h' : (match eqn known g s with | none => false | some e => paperGo g (known ++ [e]) (s2 :: r)) = true := by
      cases s <;> exact h
    match he : eqn known g s, h' with
    | some e, h' =>
      refine paper_no hg (s2 :: r) (known ++ [e]) (fun x hx => ?_) h'
      rcases List.mem_append.mp hx with hx | hx
      · exact hk x hx
      · rw [List.mem_singleton.mp hx]
        exact eqn_sol hg hk he
end Kr

set_option Elab.async false
set_option linter.all false
set_option maxRecDepth 100000
set_option maxHeartbeats 4000000
namespace Kr
open PySem PySem.Spec PyProof.Rows L2
abbrev s__law_term : Stmt := topS 28
theorem sc__law_term : FnScope ["_law_deck_here", "_law_numbers_here", "_law_room", "_law_open_ones", "_law_way", "_law_left", "_law_head"] ["_law_deck_here", "_law_numbers_here", "_law_room", "_law_open_ones"] (defScope s__law_term) := ⟨rfl, rfl, rfl, by decide +kernel, rfl, by decide +kernel, by decide +kernel⟩
abbrev s__law_open : Stmt := topS 31
theorem sc__law_open : FnScope ["_law_term_here"] ["_law_term_here"] (defScope s__law_open) := ⟨rfl, rfl, rfl, by decide +kernel, rfl, by decide +kernel, by decide +kernel⟩
abbrev s__law_put : Stmt := topS 32
theorem sc__law_put : FnScope ["_law_term_here", "_law_rows"] ["_law_term_here", "_law_rows"] (defScope s__law_put) := ⟨rfl, rfl, rfl, by decide +kernel, rfl, by decide +kernel, by decide +kernel⟩
theorem nodup_len {α : Type} [DecidableEq α] : ∀ (us ns : List α), us.Nodup → (∀ k ∈ us, k ∈ ns) → us.length ≤ ns.length
  | [], _, _, _ => Nat.zero_le _
  | u :: us, ns, h, s => by
    have h' := List.nodup_cons.mp h
    have hu : u ∈ ns := s u (by simp)
    have := nodup_len us (ns.erase u) h'.2 fun k hk => (List.mem_erase_of_ne (fun e => h'.1 (by rw [← e]; exact hk))).mpr (s k (by simp [hk]))
    rw [List.length_erase_of_mem hu] at this
    have := List.length_pos_of_mem hu
    simp only [List.length_cons]
    omega
theorem vars_len : ∀ t : Tm, t.vars.length ≤ t.size
  | .unk _ => Nat.le_refl _
  | .pair a b => by
    have h1 := vars_len a
    have h2 := vars_len b
    simp only [Tm.vars, Tm.size, List.length_append]
    omega
  | .int _ => Nat.zero_le _
  | .wrd _ => Nat.zero_le _
  | .nil => Nat.zero_le _
/-! rows: a dict of terms by whole numbers -/
abbrev Rows := List (Int × Tm)
def dR (rs : Rows) : DL := rs.map fun p => (.inl p.1, p.2.data)
def look (rs : Rows) (n : Int) : Option Tm := (rs.find? fun p => decide (p.1 = n)).map (·.2)
def put (rs : Rows) (t : Tm) : Tm := Tm.sub (fun n => (look rs n).getD (.unk n)) t
theorem valG_dR (n : Int) : ∀ rs : Rows, valG (dR rs) (.inl n) = (look rs n).map Tm.data
  | [] => rfl
  | (m, t) :: rs => by
    have ih := valG_dR n rs
    unfold valG look dR at *
    rw [List.map_cons, List.find?_cons, List.find?_cons]
    by_cases h : m = n
    · subst h
      simp
    · have h2 : ¬ ((Sum.inl m : Key) = Sum.inl n) := fun e => h (Sum.inl.inj e)
      simp only [decide_eq_false h, decide_eq_false h2]
      exact ih
theorem look_mem {rs : Rows} {n : Int} {t : Tm} (h : look rs n = some t) : (n, t) ∈ rs := by
  unfold look at h
  obtain ⟨p, h1, h2⟩ := Option.map_eq_some_iff.mp h
  have h3 := List.find?_some h1
  have h4 := List.mem_of_find?_eq_some h1
  obtain ⟨a, b⟩ := p
  have : a = n := of_decide_eq_true h3
  subst this
  simp only at h2
  subst h2
  exact h4
@[simp] def a0 : List PyData → PyData
  | x :: _ => x
  | _ => .none
@[simp] def a1 : List PyData → PyData
  | _ :: x :: _ => x
  | _ => .none
@[simp] def a2 : List PyData → PyData
  | _ :: _ :: x :: _ => x
  | _ => .none
@[simp] def a3 : List PyData → PyData
  | _ :: _ :: _ :: x :: _ => x
  | _ => .none
@[simp] def toI : PyData → Int
  | .int i => i
  | _ => 0
def RowsOk (rs : Rows) : Prop := ∀ p ∈ rs, p.2.ok
def decR : PyData → Rows
  | .dict ps => ps.filterMap fun p => match p.1 with | .int k => some (k, decT p.2) | _ => none
  | _ => []
theorem decR_dR : ∀ {rs : Rows}, RowsOk rs → decR (dD (dR rs)) = rs
  | [], _ => rfl
  | (k, t) :: rs, h => by
    have ih := decR_dR (rs := rs) fun p hp => h p (by simp [hp])
    have e : decR (dD (dR ((k, t) :: rs))) = (k, decT t.data) :: decR (dD (dR rs)) := rfl
    rw [e, ih, decT_data (h (k, t) (by simp))]
def RowD (d : PyData) : Prop := ∃ rs : Rows, RowsOk rs ∧ d = dD (dR rs)
/-- a list of whole numbers from 0 on -/
def IntsD (d : PyData) : Prop := ∃ ns : List Int, d = .list (ns.map .int) ∧ (∀ k ∈ ns, 0 ≤ k ∧ k.natAbs ≤ 10 ^ 39) ∧ ns.length ≤ 1000
def TmR (k : Nat) (x d : PyData) : Prop := True
section
variable {P : Program} {w : World} {K : PySem.W.Frag} {mg : Str → Option Value} {base : Heap} {n : Nat}
abbrev CDraw (P : Program) (w : World) (K : PySem.W.Frag) (mg : Str → Option Value) (base : Heap) (n : Nat) : Prop := Cal P w K mg base n "_law_draw" ["_law_deck_here", "_law_most"] (spQ IsDk pDraw rDraw)
abbrev CPick (P : Program) (w : World) (K : PySem.W.Frag) (mg : Str → Option Value) (base : Heap) (n : Nat) : Prop := Cal P w K mg base n "_law_pick" ["_law_deck_here", "_law_some"] (spQ IsDk (fun ds => ∃ xs : List PyData, ds = [tokD, .list xs] ∧ xs ≠ [] ∧ xs.length < 2 ^ 62) (fun ds d => ∃ xs : List PyData, ds = [tokD, .list xs] ∧ d ∈ xs))
abbrev CAtom (P : Program) (w : World) (K : PySem.W.Frag) (mg : Str → Option Value) (base : Heap) (n : Nat) : Prop := Cal P w K mg base n "_law_atom" ["_law_deck_here"] (spQ IsDk (p1 fun x => x = tokD) (fun ds d => AtD d))
abbrev CUnk (P : Program) (w : World) (K : PySem.W.Frag) (mg : Str → Option Value) (base : Heap) (n : Nat) : Prop := Cal P w K mg base n "_law_is_unknown" ["_law_term_here"] (spQ Any (p1 (TmP 62)) (b1 isMk))
abbrev CPair (P : Program) (w : World) (K : PySem.W.Frag) (mg : Str → Option Value) (base : Heap) (n : Nat) : Prop := Cal P w K mg base n "_law_is_pair" ["_law_term_here"] (spQ Any (p1 fun x => ∃ t : Tm, t.ok ∧ x = t.data) (b1 isPr))
/-- a term of at most so many parts -/
def TmS (k : Nat) (d : PyData) : Prop := ∃ t : Tm, t.ok ∧ t.sm ∧ t.size ≤ k ∧ d = t.data
@[simp] def pTerm (m : Nat) : List PyData → Prop := fun ds => ∃ (a : PyData) (r o : Int), ds = [tokD, a, .int r, .int o] ∧ IntsD a ∧ 1 ≤ r ∧ r ≤ m
/-- of these unknowns -/
def TmV (ns : List Int) (k : Nat) (d : PyData) : Prop := ∃ t : Tm, t.ok ∧ t.sm ∧ t.size ≤ k ∧ (∀ v ∈ t.vars, v ∈ ns) ∧ d = t.data
theorem TmV.tmS {ns : List Int} {k : Nat} {d : PyData} (h : TmV ns k d) : TmS k d := h.elim fun t h => ⟨t, h.1, h.2.1, h.2.2.1, h.2.2.2.2⟩
def decI : PyData → List Int
  | .list xs => xs.filterMap fun d => match d with
    | .int i => some i
    | _ => none
  | _ => []
@[simp] theorem decI_ints (ns : List Int) : decI (.list (ns.map .int)) = ns := by
  show (ns.map PyData.int).filterMap _ = ns
  rw [List.filterMap_map]
  exact List.filterMap_some
@[simp] def rTerm : List PyData → PyData → Prop := fun ds d => TmV (decI (a1 ds)) (toI (a2 ds)).toNat d
theorem eqv_inil (ns : List Int) : (PyData.list (ns.map .int)).eqv (.list []) = ns.isEmpty := by
  rw [show PyData.list [] = PyData.list (([] : List Int).map .int) from rfl, rEqvL]
  cases ns <;> rfl
theorem eqA_inil (ns : List Int) : eqA (PyData.list (ns.map .int)) (.list []) = true := eqA_of rfl (rShpL ns) (rShpL [])
theorem c__law_term (B : Bl mg) (D : Dfn K mg "_law_term" s__law_term ["_law_deck_here", "_law_numbers_here", "_law_room", "_law_open_ones"])
    (c__law_draw : CDraw P w K mg base n) (c__law_pick : CPick P w K mg base n) (c__law_atom : CAtom P w K mg base n) : ∀ m : Nat, m ≤ 1000 → Cal P w K mg base (n + 1 + m) "_law_term" ["_law_deck_here", "_law_numbers_here", "_law_room", "_law_open_ones"] (spQ IsDk (pTerm m) rTerm)
  | 0, _ => (Cal.no D (G := IsDk) (res := rTerm)).pre (by rintro _ ⟨_, _, _, rfl, _, h1, h2⟩; simp at h2; omega) (fun _ _ _ h => h)
  | m + 1, hm => by
    have c__law_term := c__law_term B D c__law_draw c__law_pick c__law_atom m (by omega)
    have c__law_draw := c__law_draw.mono (show n ≤ n + 1 + m by omega)
    have c__law_pick := c__law_pick.mono (show n ≤ n + 1 + m by omega)
    have c__law_atom := c__law_atom.mono (show n ≤ n + 1 + m by omega)
    refine defG [] D sc__law_term (by rintro _ ⟨_, _, _, rfl, _⟩; rfl) (by simp) (fun f C hG cdv A outer s H E g0 hr => ⟨_, (qss_cons (qs_setX (k := 4) (by decide) sc__law_term.nd rfl (by first | exact Or.inl rfl | exact Or.inr rfl) (fun _ x1 => (qe_cal c__law_draw (hG.ext x1) g0 hr (by rfl) (qa_cons (qv 0) (qa_cons qe_int qa_nil))))) (qss_cons (qs_if (QW.qt (qw_or (qt_cmp oq_lt (qv 2) qe_int (nomark _)) (qw_or1 (qt_cmp oq_lt (qv 4) qe_int (nomark _))))) (qss_cons (qs_if (QW.qt (qw_and (qt_cmp (oq_neA hr.units) (qv 1) (qe_lst qa_nil) (nomark _)) (qw_and1 (qt_cmp oq_lt (qe_cal c__law_draw hG g0 hr (by rfl) (qa_cons (qv 0) (qa_cons qe_int qa_nil))) (qv 3) (nomark _))))) (qss_one (qs_ret (qe_tup (qa_cons qe_str (qa_cons (qe_cal c__law_pick hG g0 hr (by rfl) (qa_cons (qv 0) (qa_cons (qv 1) qa_nil))) qa_nil))))) qss_nil) (qss_one (qs_ret (qe_cal c__law_atom hG g0 hr (by rfl) (qa_cons (qv 0) qa_nil))))) qss_nil) (qss_cons (qs_setX (k := 5) (by decide) sc__law_term.nd rfl (by first | exact Or.inl rfl | exact Or.inr rfl) (fun _ x2 => (qe_op oq_add qe_int (qe_cal c__law_draw (hG.ext x2) g0 hr (by rfl) (qa_cons (qv 0) (qa_cons (qe_op oq_sub (qv 2) qe_int) qa_nil)))))) (qss_cons (qs_setX (k := 6) (by decide) sc__law_term.nd rfl (by first | exact Or.inl rfl | exact Or.inr rfl) (fun _ x3 => (qe_cal c__law_term (hG.ext x3) g0 hr (by rfl) (qa_cons (qv 0) (qa_cons (qv 1) (qa_cons (qv 5) (qa_cons (qv 3) qa_nil))))))) (qss_one (qs_ret (qe_tup (qa_cons (qv 6) (qa_cons (qe_cal c__law_term hG g0 hr (by rfl) (qa_cons (qv 0) (qa_cons (qv 1) (qa_cons (qe_op oq_sub (qe_op oq_sub (qv 2) qe_int) (qv 5)) (qa_cons (qv 3) qa_nil))))) qa_nil))))))))), ?_⟩)
    rintro _ ⟨a, r, o, rfl, hI, h1, h2⟩
    have hI' := hI
    obtain ⟨ns, rfl, hn, hl⟩ := hI'
    have un : ∀ k ∈ ns, TmV ns r.toNat (.tuple [.str "?", .int k]) := fun k hk => ⟨.unk k, (hn k hk).1, (hn k hk).2, by show 1 ≤ _; omega, fun v hv => by rwa [List.mem_singleton.mp hv], rfl⟩
    have at1 : ∀ d, AtD d → TmV ns r.toNat d := fun d ⟨t, e1, e0, e2, e4, e3⟩ => ⟨t, e1, e0, by omega, fun v hv => (by rw [e4] at hv; cases hv), e3⟩
    have leaf : eqA (PyData.list (List.map PyData.int ns)) (PyData.list []) = true ∧
            (((PyData.list (List.map PyData.int ns)).eqv (PyData.list []) = true ∧ ∀ (d : PyData), AtD d → TmV ns r.toNat d) ∨
              (PyData.list (List.map PyData.int ns)).eqv (PyData.list []) = false ∧
                ∀ (x : Int), 0 ≤ x → x < 8 → if x < o then (¬ns = [] ∧ ns.length < 4611686018427387904) ∧ ∀ (a : Int), a ∈ ns → TmV ns r.toNat (PyData.tuple [PyData.str (Str.ofString "?"), PyData.int a]) else ∀ (d : PyData), AtD d → TmV ns r.toNat d) := by
      refine ⟨eqA_inil ns, ?_⟩
      rw [eqv_inil]
      cases ns with
      | nil => exact .inl ⟨rfl, at1⟩
      | cons k r =>
        refine .inr ⟨rfl, fun x _ _ => ?_⟩
        by_cases hx : x < o
        · rw [if_pos hx]
          exact ⟨⟨by simp, by omega⟩, un⟩
        · rw [if_neg hx]
          exact at1
    simp [hI]
    intro x h3 h4
    by_cases hr : r < 3
    · rw [if_pos hr]
      exact leaf
    · rw [if_neg hr]
      by_cases hx : x < 2
      · rw [if_pos hx]
        exact leaf
      · rw [if_neg hx]
        refine ⟨⟨by omega, by omega⟩, fun y h5 h6 => ⟨⟨_, _, ⟨rfl, rfl⟩, hI, by omega, by omega⟩, fun d ht => ⟨⟨_, _, ⟨rfl, rfl⟩, hI, by omega, by omega⟩, fun d' ht' => ?_⟩⟩⟩
        obtain ⟨t, e1, s1, e2, v1, rfl⟩ := ht
        obtain ⟨u, e3, s2, e4, v2, rfl⟩ := ht'
        exact ⟨.pair t u, ⟨e1, e3⟩, ⟨s1, s2⟩, by show t.size + u.size + 1 ≤ _; omega, fun v hv => (List.mem_append.mp hv).elim (v1 v) (v2 v), rfl⟩
end
end Kr

set_option Elab.async false
set_option linter.all false
set_option maxRecDepth 100000
set_option maxHeartbeats 4000000
namespace Kr
open PySem PySem.Spec PyProof.Rows L2
section
variable {P : Program} {w : World} {K : PySem.W.Frag} {mg : Str → Option Value} {base : Heap} {n : Nat}
theorem tmP0 {x : PyData} : ¬ TmP 0 x := fun ⟨t, _, h, _⟩ => by have := t.depth_pos; omega
theorem tmL {m : Nat} {a b : Tm} (ho : (Tm.pair a b).ok) (hd : (Tm.pair a b).depth ≤ m + 1) : TmP m a.data ∧ TmP m b.data := by
  have h : max a.depth b.depth + 1 ≤ m + 1 := hd
  exact ⟨⟨a, ho.1, by omega, rfl⟩, ⟨b, ho.2, by omega, rfl⟩⟩
theorem exD {t : Tm} (h : t.ok) : ∃ t_1 : Tm, t_1.ok ∧ t.data = t_1.data := ⟨t, h, rfl⟩
theorem exP {a b : Tm} (h : (Tm.pair a b).ok) : ∃ t_1 : Tm, t_1.ok ∧ PyData.tuple [a.data, b.data] = t_1.data := ⟨_, h, rfl⟩
theorem decP {a b : Tm} (h : (Tm.pair a b).ok) : decT (.tuple [a.data, b.data]) = .pair a b := decT_data (t := .pair a b) h
@[simp] theorem at20 (a b : PyData) : L2.atI [a, b] 0 = some a := rfl
@[simp] theorem at21 (a b : PyData) : L2.atI [a, b] 1 = some b := rfl
theorem isPr_pair {a b : Tm} (h : (Tm.pair a b).ok) : isPr (.tuple [a.data, b.data]) = true := isPr_data (t := .pair a b) h
theorem isMk_pair {a b : Tm} (h : (Tm.pair a b).ok) : isMk (.tuple [a.data, b.data]) = false := isMk_data (t := .pair a b) h
@[simp] theorem isPr_unk (k : Int) : isPr (.tuple [.str "?", .int k]) = false := by simp [isPr]
@[simp] theorem isMk_unk (k : Int) : isMk (.tuple [.str "?", .int k]) = true := by simp [isMk]
@[simp] theorem decT_unk (k : Int) : decT (.tuple [.str "?", .int k]) = .unk k := by simp [decT]
theorem tmP_leaf {t : Tm} {m : Nat} (h : t.ok) (h1 : t.depth ≤ m) : TmP m t.data := ⟨t, h, h1, rfl⟩
abbrev CParts (P : Program) (w : World) (K : PySem.W.Frag) (mg : Str → Option Value) (base : Heap) (n m : Nat) : Prop := Cal P w K mg base n "_law_parts" ["_law_term_here"] (spQ Any (p1 (TmP m)) (r1 fun x => .int (decT x).size))
abbrev CDeep (P : Program) (w : World) (K : PySem.W.Frag) (mg : Str → Option Value) (base : Heap) (n m : Nat) : Prop := Cal P w K mg base n "_law_deep" ["_law_term_here"] (spQ Any (p1 (TmP m)) (r1 fun x => .int (decT x).depth))
theorem c__law_parts (B : Bl mg) (D : Dfn K mg "_law_parts" s__law_parts ["_law_term_here"]) (c__law_is_pair : CPair P w K mg base n) : ∀ m : Nat, CParts P w K mg base (n + 1 + m) m
  | 0 => (Cal.no D).pre (by rintro _ ⟨_, rfl, h⟩; exact tmP0 h) (fun _ _ _ h => h)
  | m + 1 => by
    have c__law_parts := c__law_parts B D c__law_is_pair m
    have c__law_is_pair := c__law_is_pair.mono (show n ≤ n + 1 + m by omega)
    refine defG [] D sc__law_parts len1' (by simp) (fun f C hG cdv A outer s H E g0 hr => ⟨_, (qss_cons (qs_if (qt_val (qe_cal c__law_is_pair trivial g0 hr (by rfl) (qa_cons (qv 0) qa_nil))) (qss_one (qs_ret (qe_op oq_add (qe_op oq_add qe_int (qe_cal c__law_parts trivial g0 hr (by rfl) (qa_cons (qe_ix (qv 0) qe_int (fun _ _ => rfl)) qa_nil))) (qe_cal c__law_parts trivial g0 hr (by rfl) (qa_cons (qe_ix (qv 0) qe_int (fun _ _ => rfl)) qa_nil))))) qss_nil) (qss_one (qs_ret qe_int))), ?_⟩)
    rintro _ ⟨x, rfl, t, ho, hd, rfl⟩
    have hx := exD ho
    cases t with
    | pair a b =>
      obtain ⟨ha, hb⟩ := tmL ho hd
      simp [Tm.data, exP ho, isPr_pair ho, decP ho, decT_data ho.1, decT_data ho.2, ha, hb, Tm.size]
      omega
    | unk k => simp [Tm.data] at hx ⊢; simp [hx, Tm.size]
    | int k => simp [Tm.data] at hx ⊢; simp [hx, isPr, decT, Tm.size]
    | wrd z => simp [Tm.data] at hx ⊢; simp [hx, isPr, decT, Tm.size]
    | nil => simp [Tm.data] at hx ⊢; simp [hx, isPr, decT, Tm.size]
theorem c__law_deep (B : Bl mg) (D : Dfn K mg "_law_deep" s__law_deep ["_law_term_here"]) (c__law_is_pair : CPair P w K mg base n) : ∀ m : Nat, CDeep P w K mg base (n + 1 + m) m
  | 0 => (Cal.no D).pre (by rintro _ ⟨_, rfl, h⟩; exact tmP0 h) (fun _ _ _ h => h)
  | m + 1 => by
    have c__law_deep := c__law_deep B D c__law_is_pair m
    have c__law_is_pair := c__law_is_pair.mono (show n ≤ n + 1 + m by omega)
    refine defG [] D sc__law_deep len1' (by simp) (fun f C hG cdv A outer s H E g0 hr => ⟨_, (qss_cons (qs_if (qt_val (qe_cal c__law_is_pair trivial g0 hr (by rfl) (qa_cons (qv 0) qa_nil))) (qss_one (qs_ret (qe_op oq_add qe_int (qe_callB (cq_max2 rfl) (by rfl) B.max (by decide +kernel) (qa_cons (qe_cal c__law_deep trivial g0 hr (by rfl) (qa_cons (qe_ix (qv 0) qe_int (fun _ _ => rfl)) qa_nil)) (qa_cons (qe_cal c__law_deep trivial g0 hr (by rfl) (qa_cons (qe_ix (qv 0) qe_int (fun _ _ => rfl)) qa_nil)) qa_nil)))))) qss_nil) (qss_one (qs_ret qe_int))), ?_⟩)
    rintro _ ⟨x, rfl, t, ho, hd, rfl⟩
    have hx := exD ho
    cases t with
    | pair a b =>
      obtain ⟨ha, hb⟩ := tmL ho hd
      simp [Tm.data, exP ho, isPr_pair ho, decP ho, decT_data ho.1, decT_data ho.2, ha, hb, Tm.depth]
      exact ⟨_, _, ⟨rfl, rfl⟩, by split <;> omega⟩
    | unk k => simp [Tm.data] at hx ⊢; simp [hx, Tm.depth]
    | int k => simp [Tm.data] at hx ⊢; simp [hx, isPr, decT, Tm.depth]
    | wrd z => simp [Tm.data] at hx ⊢; simp [hx, isPr, decT, Tm.depth]
    | nil => simp [Tm.data] at hx ⊢; simp [hx, isPr, decT, Tm.depth]
/-- the unknowns' numbers, rising -/
def OpenD (t : Tm) (d : PyData) : Prop := ∃ us : List Int, d = .list (us.map .int) ∧ us.Pairwise (· < ·) ∧ ∀ k, k ∈ us ↔ k ∈ t.vars
@[simp] def rOpen : List PyData → PyData → Prop := fun ds d => OpenD (decT (a0 ds)) d
abbrev TmZ (m z : Nat) (x : PyData) : Prop := ∃ t : Tm, t.ok ∧ t.depth ≤ m ∧ t.size ≤ z ∧ x = t.data
theorem pw_nodup {us : List Int} (h : us.Pairwise (· < ·)) : us.Nodup := h.imp fun h e => by omega
theorem c__law_open (B : Bl mg) (D : Dfn K mg "_law_open" s__law_open ["_law_term_here"]) (c__law_is_unknown : CUnk P w K mg base n) (c__law_is_pair : CPair P w K mg base n) : ∀ m : Nat, m ≤ 62 → Cal P w K mg base (n + 1 + m) "_law_open" ["_law_term_here"] (spQ Any (p1 (TmZ m 4000)) rOpen)
  | 0, _ => (Cal.no D (G := Any)).pre (by rintro _ ⟨_, rfl, t, _, h, _⟩; have := t.depth_pos; omega) (fun _ _ _ h => h)
  | m + 1, hm => by
    have c__law_open := c__law_open B D c__law_is_unknown c__law_is_pair m (by omega)
    have c__law_is_pair := c__law_is_pair.mono (show n ≤ n + 1 + m by omega)
    have c__law_is_unknown := c__law_is_unknown.mono (show n ≤ n + 1 + m by omega)
    refine defG [] D sc__law_open len1' (by simp) (fun f C hG cdv A outer s H E g0 hr => ⟨_, (qss_cons (qs_if (qt_val (qe_cal c__law_is_unknown trivial g0 hr (by rfl) (qa_cons (qv 0) qa_nil))) (qss_one (qs_ret (qe_lst (qa_cons (qe_ix (qv 0) qe_int (fun _ _ => rfl)) qa_nil)))) qss_nil) (qss_cons (qs_if (qt_val (qe_cal c__law_is_pair trivial g0 hr (by rfl) (qa_cons (qv 0) qa_nil))) (qss_one (qs_ret (qe_sortSet rfl (by rfl) B.sorted (by rfl) B.set (qe_op oq_add (qe_cal c__law_open trivial g0 hr (by rfl) (qa_cons (qe_ix (qv 0) qe_int (fun _ _ => rfl)) qa_nil)) (qe_cal c__law_open trivial g0 hr (by rfl) (qa_cons (qe_ix (qv 0) qe_int (fun _ _ => rfl)) qa_nil)))))) qss_nil) (qss_one (qs_ret (qe_lst qa_nil))))), ?_⟩)
    rintro _ ⟨x, rfl, t, ho, hd, hz, rfl⟩
    have hx := exD ho
    have hp : TmP 62 t.data := ⟨t, ho, by omega, rfl⟩
    cases t with
    | pair a b =>
      obtain ⟨ha, hb⟩ := tmL ho hd
      simp [Tm.data] at hp
      simp [Tm.data, hp, exP ho, isPr_pair ho, isMk_pair ho, decP ho, decT_data ho.1, decT_data ho.2, ha, hb, Tm.vars]
      have hs : a.size + b.size + 1 ≤ 4000 := hz
      have hq : max a.depth b.depth + 1 ≤ m + 1 := hd
      refine ⟨⟨a, ho.1, by omega, by omega, rfl⟩, fun d ⟨us, e1, e2, e3⟩ => ⟨⟨b, ho.2, by omega, by omega, rfl⟩, fun d' ⟨vs, e4, e5, e6⟩ => ?_⟩⟩
      subst e1 e4
      have l1 := nodup_len us a.vars (pw_nodup e2) fun k h => (e3 k).mp h
      have l2 := nodup_len vs b.vars (pw_nodup e5) fun k h => (e6 k).mp h
      have l3 := vars_len a
      have l4 := vars_len b
      refine ⟨sl (by rw [List.length_map, List.length_map]; omega), us ++ vs, by rw [List.map_append], by rw [List.length_append]; omega, fun ws h1 h2 => ⟨ws, rfl, h1, fun k => ?_⟩⟩
      rw [h2, List.mem_append, e3, e6]
      show _ ↔ k ∈ a.vars ++ b.vars
      rw [List.mem_append]
    | unk k => simp [Tm.data] at hx hp ⊢; simp [hx, hp, Tm.vars]; exact ⟨[k], rfl, by simp, fun _ => Iff.rfl⟩
    | int k => simp [Tm.data] at hx hp ⊢; simp [hx, hp, isPr, isMk, decT, Tm.vars]; exact ⟨[], rfl, .nil, fun _ => Iff.rfl⟩
    | wrd z => simp [Tm.data] at hx hp ⊢; simp [hx, hp, isPr, isMk, decT, Tm.vars]; exact ⟨[], rfl, .nil, fun _ => Iff.rfl⟩
    | nil => simp [Tm.data] at hx hp ⊢; simp [hx, hp, isPr, isMk, decT, Tm.vars]; exact ⟨[], rfl, .nil, fun _ => Iff.rfl⟩
theorem c__law_put (B : Bl mg) (D : Dfn K mg "_law_put" s__law_put ["_law_term_here", "_law_rows"]) (c__law_is_unknown : CUnk P w K mg base n) (c__law_is_pair : CPair P w K mg base n) : ∀ m : Nat, m ≤ 62 → Cal P w K mg base (n + 1 + m) "_law_put" ["_law_term_here", "_law_rows"] (spQ Any (fun ds => ∃ x y, ds = [x, y] ∧ TmP m x ∧ RowD y) (fun ds d => d = (put (decR (a1 ds)) (decT (a0 ds))).data))
  | 0, _ => (Cal.no D (G := Any)).pre (by rintro _ ⟨_, _, rfl, h, _⟩; exact tmP0 h) (fun _ _ _ h => h)
  | m + 1, hm => by
    have c__law_put := c__law_put B D c__law_is_unknown c__law_is_pair m (by omega)
    have c__law_is_pair := c__law_is_pair.mono (show n ≤ n + 1 + m by omega)
    have c__law_is_unknown := c__law_is_unknown.mono (show n ≤ n + 1 + m by omega)
    refine defG [] D sc__law_put (by rintro _ ⟨_, _, rfl, _⟩; rfl) (by simp) (fun f C hG cdv A outer s H E g0 hr => ⟨_, (qss_cons (qs_if (qt_val (qe_cal c__law_is_unknown trivial g0 hr (by rfl) (qa_cons (qv 0) qa_nil))) (qss_one (qs_ret (qe_dget2 (hu_of hr) (qv 1) (qe_ix (qv 0) qe_int (fun _ _ => rfl)) (qv 0) ⟨rfl, rfl, rfl, rfl⟩))) qss_nil) (qss_cons (qs_if (qt_val (qe_cal c__law_is_pair trivial g0 hr (by rfl) (qa_cons (qv 0) qa_nil))) (qss_one (qs_ret (qe_tup (qa_cons (qe_cal c__law_put trivial g0 hr (by rfl) (qa_cons (qe_ix (qv 0) qe_int (fun _ _ => rfl)) (qa_cons (qv 1) qa_nil))) (qa_cons (qe_cal c__law_put trivial g0 hr (by rfl) (qa_cons (qe_ix (qv 0) qe_int (fun _ _ => rfl)) (qa_cons (qv 1) qa_nil))) qa_nil))))) qss_nil) (qss_one (qs_ret (qv 0))))), ?_⟩)
    rintro _ ⟨x, y, rfl, ⟨t, ho, hd, rfl⟩, hR⟩
    have hR' := hR
    obtain ⟨rs, hk, rfl⟩ := hR'
    have hx := exD ho
    have hp : TmP 62 t.data := ⟨t, ho, by omega, rfl⟩
    cases t with
    | pair a b =>
      obtain ⟨ha, hb⟩ := tmL ho hd
      simp [Tm.data] at hp
      simp [Tm.data, hp, exP ho, isPr_pair ho, isMk_pair ho, decP ho, decT_data ho.1, decT_data ho.2, ha, hb, hR, decR_dR hk]
      exact ⟨⟨_, _, ⟨rfl, rfl⟩, ha, hR⟩, ⟨_, _, ⟨rfl, rfl⟩, hb, hR⟩, rfl⟩
    | unk k => simp [Tm.data] at hx hp ⊢; simp [hx, hp, decR_dR hk]; refine ⟨_, rfl, .inl k, rfl, ?_⟩; rw [valG_dR]; show _ = ((look rs k).getD (.unk k)).data; cases look rs k <;> rfl
    | int k => simp [Tm.data] at hx hp ⊢; simp [hx, hp, isPr, isMk, decT, decR_dR hk]; rfl
    | wrd z => simp [Tm.data] at hx hp ⊢; simp [hx, hp, isPr, isMk, decT, decR_dR hk]; rfl
    | nil => simp [Tm.data] at hx hp ⊢; simp [hx, hp, isPr, isMk, decT, decR_dR hk]; rfl
end
end Kr

set_option Elab.async false
set_option linter.all false
set_option maxRecDepth 100000
set_option maxHeartbeats 4000000
namespace Kr
open PySem PySem.Spec PyProof.Rows L2
section
variable {X : Cx} {C : Cz} {pos : Pos} {a b : Expr} {ta tb : P0} {Ow : List Nat} {H0 H : Hp} {w0 w : Own} {σ : L2.St} {ρ : Rho} {tg : Expr} {G : TG} {dec : Dec} {t : P0S}
/-! k in d as a test -/
theorem qt_dinG (neg : Bool) {op : CmpOp} {a b : Expr} {te : TE} {v : P0} (h : PC X op a b te) (hm : behindInMarks op b = false) (hv : ∀ σ H Q, lf C v σ H Q → te σ H Q) (mono : ∀ ρ Q Q', (∀ d, Q d → Q' d) → v ρ Q → v ρ Q') : QT X C (.Compare a [op] [b] pos) (vT v) := by
  refine ⟨PT.weak (pt_cmp h hm) fun σ H Q q => hv σ H _ ?_, fun ρ Q Q' w h => mono ρ _ _ (fun d ⟨k, e, q⟩ => ⟨k, e, w k q⟩) h⟩
  obtain ⟨ρ, he, j, q⟩ := q
  refine ⟨ρ, he, j, mono _ _ _ (fun d ⟨k, e, q⟩ v H' k1 j1 r => ?_) q⟩
  subst e
  exact ⟨k, dq_bl r, q H' k1 j1⟩
theorem dinTe (ha : QE X C a ta) (hb : QE X C b tb) (σ : L2.St) (H : Hp) (Q : VK) (h : lf C (vDin false ta tb) σ H Q) : tDIn (lf C ta) (lf C tb) σ H Q := by
  obtain ⟨ρ, he, j, h⟩ := h
  refine ⟨ρ, he, j, ha.mono _ _ _ (fun d1 h1 v H1 k1 j1 r1 => ?_) h⟩
  refine ⟨ρ, he.keep k1, j1, hb.mono _ _ _ (fun d2 ⟨l, k, e1, e2, q⟩ w H2 k2 j2 r2 => ?_) h1⟩
  subst e2
  obtain ⟨a', kvs, rfl, m, hH, hl⟩ := dq_dct r2
  rw [dq_key2 e1 (r1.keep k2)]
  refine ⟨a', valV kvs k, rfl, (.inl ⟨kvs, k, hH, rfl, rfl⟩ : DGet _ a' (kV k) (valV kvs k)), ?_⟩
  have e : (valV kvs k).isSome = (valG l k).isSome := by
    cases ev : valG l k with
    | none => rw [hl.val.2 ev]; rfl
    | some d =>
      obtain ⟨x, ex, _⟩ := hl.val.1 d ev
      rw [ex]
      rfl
  rw [e]
  have q' := q (.bl (xor false (valG l k).isSome)) H2 (k1.trans k2) j2 (.bl _)
  rw [Bool.false_xor] at q'
  exact q'
theorem vDin_mono {neg : Bool} (ha : QE X C a ta) (hb : QE X C b tb) (ρ : Rho) (Q Q' : PyData → Prop) (w : ∀ d, Q d → Q' d) (h : vDin neg ta tb ρ Q) : vDin neg ta tb ρ Q' := ha.mono _ _ _ (fun d1 h => hb.mono _ _ _ (fun d2 ⟨l, k, e1, e2, q⟩ => ⟨l, k, e1, e2, w _ q⟩) h) h
theorem qt_din (hu : X.A.units + 1 < cLine) (ha : QE X C a ta) (hb : QE X C b tb) (hm : behindInMarks .In b = false := by rfl) : QT X C (.Compare a [.In] [b] pos) (vT (vDin false ta tb)) :=
  qt_dinG false (pc_din hu ha.pe hb.pe) hm (dinTe ha hb) (vDin_mono ha hb)
/-! an own list, or dict, that changes no more -/
def dropW (w : Own) (k : Nat) : Own := fun i => if i = k then none else w i
theorem dropW_some {w : Own} {k i : Nat} {x : Addr × HO} (h : dropW w k i = some x) : i ≠ k ∧ w i = some x := by
  unfold dropW at h
  by_cases e : i = k
  · rw [if_pos e] at h
    cases h
  · rw [if_neg e] at h
    exact ⟨e, h⟩
theorem SOk.free (h : SOk C Ow H0 w0 H σ ρ w) (k : Nat) : SOk C (Ow.filter (· ≠ k)) H0 w0 H σ ρ (dropW w k) := by
  have sub : ∀ c, (C.ext (dropW w k)).M c → (C.ext w).M c := fun c m => m.elim .inl fun ⟨i, vs, e⟩ => .inr ⟨i, vs, (dropW_some e).2⟩
  refine { len := h.len, j := h.j, k := ⟨h.k.1, fun b o m n e => ?_⟩, inj := fun i j b vs us e1 e2 => h.inj i j b vs us (dropW_some e1).2 (dropW_some e2).2, dom := fun i b vs e => ?_, all := fun i hi he => ?_, at_ := fun i d hi he => ?_ }
  · obtain ⟨e1, n1⟩ := h.k.2 b o m n e
    exact ⟨e1, fun i vs z => n1 i vs (dropW_some z).2⟩
  · obtain ⟨ne, e⟩ := dropW_some e
    obtain ⟨a1, a2, a3, a4, ds, a5, a6⟩ := h.dom i b vs e
    exact ⟨List.mem_filter.mpr ⟨a1, by simpa using ne⟩, a2, a3, a4, ds, a5, a6.sub sub rfl⟩
  · obtain ⟨h1, h2⟩ := List.mem_filter.mp hi
    obtain ⟨x, hx⟩ := h.all i h1 he
    refine ⟨x, ?_⟩
    unfold dropW
    rw [if_neg (by simpa using h2)]
    exact hx
  · by_cases hk : i = k
    · subst hk
      by_cases ho : i ∈ Ow
      · obtain ⟨⟨b, vs⟩, hw⟩ := h.all i ho ⟨d, he⟩
        obtain ⟨a1, a2, a3, a4, ds, a5, a6⟩ := h.dom i b vs hw
        rw [a5] at he
        cases he
        refine ⟨.ref b, a3, (a6.sub sub rfl).dq (fun m => ?_) a4⟩
        rcases m with m | ⟨j, us, e⟩
        · exact a2 m
        · obtain ⟨ne, e⟩ := dropW_some e
          exact ne (h.inj j i b us vs e hw)
      · obtain ⟨v, e1, r⟩ := h.at_ i d ho he
        exact ⟨v, e1, r.sub sub rfl⟩
    · obtain ⟨v, e1, r⟩ := h.at_ i d (fun z => hi (List.mem_filter.mpr ⟨z, by simpa using hk⟩)) he
      exact ⟨v, e1, r.sub sub rfl⟩
@[simp] def sFree (t : P0S) : P0S := fun D ρ => t { nx := fun _ => False, rt := D.rt } ρ
/-- what stands behind ends by a return; from here on the slot's list stays as it is -/
theorem qss_free (k : Nat) {rest : List Stmt} (h : QSs X C (Ow.filter (· ≠ k)) rest t) : QSs X C Ow rest (sFree t) := by
  refine ⟨fun H0 w0 => PSs.weak (h.ps H0 w0) fun D σ H q => ?_, fun ρ D D' q l => h.mono _ _ _ q ⟨fun _ z => z.elim, l.2.1, fun _ z => z, fun _ z => z⟩⟩
  obtain ⟨ρ, w, s, q⟩ := q
  exact ⟨ρ, dropW w k, s.free k, h.mono _ _ _ q ⟨fun _ z => z.elim, fun _ z => z, fun _ z => z.elim, fun _ z => z.elim⟩⟩
/-! x = x + e, of lists, x an own one -/
@[simp] def sOwnAdd (Ow : List Nat) (k : Nat) (ta tb : P0) : P0S := fun D ρ => ta ρ fun d1 => tb ρ fun d2 => ∃ xs ys, d1 = .list xs ∧ d2 = .list ys ∧ noLs (xs ++ ys) = true ∧ xs.length + ys.length ≤ sizeLine ∧ k < ρ.length ∧ D.nx (ρ.set k (some (.list (xs ++ ys))))
theorem qs_ownAdd {k : Nat} {x : Str} {pos' pos2 : Pos} (hk : k ∈ Ow) (hN : X.N.Nodup) (hi : X.N[k]? = some x) (hx : Loc X.env.scope x) (ha : QE X C a ta) (hb : QE X C b tb) (hs : swapsWith (.BinOp a .Add b pos2) (some (.Name x pos')) pos.line X.env = pure false := by rfl) (hf : X.fn x = true ∨ X.env.scope.names.lookup x = some .local := by first | exact .inl rfl | exact .inr rfl | assumption) :
    QS X C Ow (.Assign [.Name x pos'] (.BinOp a .Add b pos2) pos) (sOwnAdd Ow k ta tb) := by
  refine ⟨fun H0 w0 => PS.weak (ps_set hN hi hx (pe_op op_catS ha.pe hb.pe) hs hf) fun D σ H q => ?_, fun ρ D D' q l => ha.mono _ _ _ (fun d1 q => hb.mono _ _ _ (fun d2 ⟨xs, ys, e1, e2, e3, e4, e5, q⟩ => ⟨xs, ys, e1, e2, e3, e4, e5, l.1 _ q⟩) q) q⟩
  obtain ⟨ρ, w, s, q⟩ := q
  refine ⟨ρ, s.env, s.j, ha.mono _ _ _ (fun d1 q v H1 k1 j1 r1 => ?_) q⟩
  refine ⟨ρ, s.env.keep k1, j1, hb.mono _ _ _ (fun d2 ⟨xs, ys, e1, e2, e3, e4, e5, q9⟩ u H2 k2 j2 r2 => ?_) q⟩
  subst e1 e2
  have r1' := r1.keep k2
  cases r1' with
  | @lst l vs _ n1 h1 q1 =>
    cases r2 with
    | @lst m us _ n2 h2 q2 =>
      refine ⟨l, m, vs, us, rfl, rfl, h1, h2, by rw [q1.length, q2.length]; exact e4, fun p np _ => ?_⟩
      have s2 := s.keep (k1.trans k2) j2
      exact q9 _ _ _ (s2.own e5 hk np (.lst (DqAll.noL e3 (q1.app q2))))
/-! a list taken apart by a target -/
def dUnl (ks : List Nat) : Dec := fun d => match d with
  | .list ds => if ds.length = ks.length then some (ks.zip ds) else none
  | _ => none
theorem qg_unl {es : List Expr} {k : Nat} {ks : List Nat} {pos : Pos} (h : PG X (.Tuple es k pos) (gUnl X.K ks.length (gNames ks))) : QG X X.K C (.Tuple es k pos) (gUnl X.K ks.length (gNames ks)) (dUnl ks) :=
  ⟨h, fun H σ x d l Q r e q => by
    rcases r with r | ⟨_, _, _, _, _, rfl, _⟩
    case inr => cases e
    cases r with
    | @lst a xs ds _ hH hr =>
      have e' : (if ds.length = ks.length then some (ks.zip ds) else none) = some l := e
      by_cases hl : ds.length = ks.length
      · rw [if_pos hl] at e'
        cases e'
        exact ⟨a, xs, rfl, .inl (.inl hH), by rw [hr.length]; exact hl, gNames_go ks xs ds σ hr hl q⟩
      · rw [if_neg hl] at e'
        cases e'
    | _ => cases e⟩
end
end Kr

set_option Elab.async false
set_option linter.all false
set_option maxRecDepth 100000
set_option maxHeartbeats 4000000
namespace Kr
open PySem PySem.Spec PyProof.Rows L2
/-! a dict that is walked: known to the object, read as before -/
def lockH (H : Hp) (a : Addr) (od : Obj) (u : HO) : Hp := upd H a (.frz od u)
theorem lock_at {H : Hp} {a b : Addr} {od : Obj} {u o : HO} (h : lockH H a od u b = some o) : (b = a ∧ o = .frz od u) ∨ (b ≠ a ∧ H b = some o) := by
  by_cases e : b = a
  · subst e
    unfold lockH at h
    rw [upd_same] at h
    cases h
    exact .inl ⟨rfl, rfl⟩
  · unfold lockH at h
    rw [upd_ne e] at h
    exact .inr ⟨e, h⟩
theorem lock_rd {H : Hp} {a b : Addr} {od : Obj} {kvs kvs' : List (Key × V)} (h : H a = some (.dK kvs)) (r : Rd H b (.dK kvs')) : Rd (lockH H a od (.dK kvs)) b (.dK kvs') := by
  by_cases e : b = a
  · subst e
    rcases r with r | ⟨o, r⟩
    · rw [h] at r
      cases r
      exact .inr ⟨od, upd_same⟩
    · rw [h] at r
      cases r
  · rcases r with r | ⟨o, r⟩
    · exact .inl (by unfold lockH; rw [upd_ne e]; exact r)
    · exact .inr ⟨o, by unfold lockH; rw [upd_ne e]; exact r⟩
mutual
theorem Dq.lock {C : Cz} {H : Hp} {a : Addr} {od : Obj} {kvs : List (Key × V)} (h : H a = some (.dK kvs)) : ∀ {v : V} {t : PyData}, Dq C H v t → Dq C (lockH H a od (.dK kvs)) v t
  | _, _, .non => .non
  | _, _, .bl b => .bl b
  | _, _, .int i => .int i
  | _, _, .str x => .str x
  | _, _, .lst n1 e r => .lst n1 (by unfold lockH; rw [upd_ne (ne_of e h (by intro z; cases z))]; exact e) (DqAll.lock h r)
  | _, _, .tup e r => .tup (e.upd h fun _ z => by cases z) (DqAll.lock h r)
  | _, _, .dct n1 e r => .dct n1 (lock_rd h e) (DqKv.lock h r)
  | _, _, .tok e => .tok e
  | _, _, .obj n1 e l r => .obj n1 (by unfold lockH; rw [upd_ne (ne_of e h (by intro z; cases z))]; exact e) l (DqAll.lock h r)
theorem DqAll.lock {C : Cz} {H : Hp} {a : Addr} {od : Obj} {kvs : List (Key × V)} (h : H a = some (.dK kvs)) : ∀ {vs : List V} {ds : List PyData}, DqAll C H vs ds → DqAll C (lockH H a od (.dK kvs)) vs ds
  | _, _, .nil => .nil
  | _, _, .cons e r => .cons (Dq.lock h e) (DqAll.lock h r)
theorem DqKv.lock {C : Cz} {H : Hp} {a : Addr} {od : Obj} {kvs : List (Key × V)} (h : H a = some (.dK kvs)) : ∀ {vs : List (Key × V)} {ds : List (PyData × PyData)}, DqKv C H vs ds → DqKv C (lockH H a od (.dK kvs)) vs ds
  | _, _, .nil => .nil
  | _, _, .cons e r => .cons (Dq.lock h e) (DqKv.lock h r)
end
theorem unlock_rd {H : Hp} {a b : Addr} {od : Obj} {kvs kvs' : List (Key × V)} (h : H a = some (.frz od (.dK kvs))) (r : Rd H b (.dK kvs')) : Rd (upd H a (.dK kvs)) b (.dK kvs') := by
  by_cases e : b = a
  · subst e
    rcases r with r | ⟨o, r⟩
    · rw [h] at r
      cases r
    · rw [h] at r
      cases r
      exact .inl upd_same
  · rcases r with r | ⟨o, r⟩
    · exact .inl (by rw [upd_ne e]; exact r)
    · exact .inr ⟨o, by rw [upd_ne e]; exact r⟩
mutual
theorem Dq.unlock {C : Cz} {H : Hp} {a : Addr} {od : Obj} {kvs : List (Key × V)} (h : H a = some (.frz od (.dK kvs))) : ∀ {v : V} {t : PyData}, Dq C H v t → Dq C (upd H a (.dK kvs)) v t
  | _, _, .non => .non
  | _, _, .bl b => .bl b
  | _, _, .int i => .int i
  | _, _, .str x => .str x
  | _, _, .lst n1 e r => .lst n1 (by rw [upd_ne (ne_of e h (by intro z; cases z))]; exact e) (DqAll.unlock h r)
  | _, _, .tup e r => .tup (e.upd h fun _ z => by cases z) (DqAll.unlock h r)
  | _, _, .dct n1 e r => .dct n1 (unlock_rd h e) (DqKv.unlock h r)
  | _, _, .tok e => .tok e
  | _, _, .obj n1 e l r => .obj n1 (by rw [upd_ne (ne_of e h (by intro z; cases z))]; exact e) l (DqAll.unlock h r)
theorem DqAll.unlock {C : Cz} {H : Hp} {a : Addr} {od : Obj} {kvs : List (Key × V)} (h : H a = some (.frz od (.dK kvs))) : ∀ {vs : List V} {ds : List PyData}, DqAll C H vs ds → DqAll C (upd H a (.dK kvs)) vs ds
  | _, _, .nil => .nil
  | _, _, .cons e r => .cons (Dq.unlock h e) (DqAll.unlock h r)
theorem DqKv.unlock {C : Cz} {H : Hp} {a : Addr} {od : Obj} {kvs : List (Key × V)} (h : H a = some (.frz od (.dK kvs))) : ∀ {vs : List (Key × V)} {ds : List (PyData × PyData)}, DqKv C H vs ds → DqKv C (upd H a (.dK kvs)) vs ds
  | _, _, .nil => .nil
  | _, _, .cons e r => .cons (Dq.unlock h e) (DqKv.unlock h r)
end
theorem DqO.lock {C : Cz} {H : Hp} {a : Addr} {od : Obj} {kvs : List (Key × V)} (h : H a = some (.dK kvs)) {o : HO} {d : PyData} : DqO C H o d → DqO C (lockH H a od (.dK kvs)) o d
  | .lst r => .lst (r.lock h)
  | .dct r => .dct (r.lock h)
theorem DqO.unlock {C : Cz} {H : Hp} {a : Addr} {od : Obj} {kvs : List (Key × V)} (h : H a = some (.frz od (.dK kvs))) {o : HO} {d : PyData} : DqO C H o d → DqO C (upd H a (.dK kvs)) o d
  | .lst r => .lst (r.unlock h)
  | .dct r => .dct (r.unlock h)
theorem EnvOk.lock {C : Cz} {H : Hp} {a : Addr} {od : Obj} {kvs : List (Key × V)} (h : H a = some (.dK kvs)) {σ : L2.St} {ρ : Rho} (e : EnvOk C H σ ρ) : EnvOk C (lockH H a od (.dK kvs)) σ ρ := ⟨e.len, fun i d q => by
  obtain ⟨v, e1, r⟩ := e.at_ i d q
  exact ⟨v, e1, r.lock h⟩⟩
theorem lock_J {C : Cz} {H : Hp} {a : Addr} {od : Obj} {kvs : List (Key × V)} {u : HO} (h : H a = some (.dK kvs)) (m : ¬ C.M a) (j : C.J H) : C.J (lockH H a od u) := C.st H _ (fun b x e => e.upd h fzDk) (fun b o mb e => by
  unfold lockH
  rw [upd_ne (fun z => m (by rw [← z]; exact mb))]
  exact e) j
theorem unlock_J {C : Cz} {H : Hp} {a : Addr} {od : Obj} {kvs : List (Key × V)} {u : HO} (h : H a = some (.frz od (.dK kvs))) (m : ¬ C.M a) (j : C.J H) : C.J (upd H a u) := C.st H _ (fun b x e => e.upd h fzFd) (fun b o mb e => by
  rw [upd_ne (fun z => m (by rw [← z]; exact mb))]
  exact e) j
/-- what has grown while it was locked -/
theorem lock_kx {C : Cz} {H H' : Hp} {a : Addr} {od : Obj} {kvs : List (Key × V)} (h : H a = some (.dK kvs)) (k : Kx C (lockH H a od (.dK kvs)) H') : Kx C H (upd H' a (.dK kvs)) := by
  refine ⟨fun b xs e => ?_, fun b o m e => ?_⟩
  · exact (k.1 b xs (e.upd h fzDk)).ne (e.neq h fzDk)
  · by_cases hb : b = a
    · subst hb
      rw [h] at e
      cases e
      exact upd_same
    · rw [upd_ne hb]
      exact k.2 b o m (by unfold lockH; rw [upd_ne hb]; exact e)
section
variable {X : Cx} {C : Cz} {pos : Pos} {Ow : List Nat} {H0 H : Hp} {w0 w : Own} {σ : L2.St} {ρ : Rho} {tg : Expr} {G : TG} {dec : Dec} {t : P0S}
theorem it_keys {H1 : Hp} {d : Addr} {od : Obj} {kvs : List (Key × V)} {l : DL} (m : ¬ C.M d) (hH : H1 d = some (.frz od (.dK kvs))) (hl : DqL C H1 kvs l) : IsIt tg C H1 (Itk d od kvs) (l.map fun p => keyD p.1) := by
  intro i H k
  have h1 := k.2 _ _ m hH
  have e1 : kvs.length = l.length := hl.length
  refine ⟨fun e => ⟨h1, by rw [e1, e, List.length_map]; exact Nat.le_refl _⟩, fun x e => ?_⟩
  rw [List.getElem?_map] at e
  have hk : (kvs.map (·.1))[i]? = (l.map (·.1))[i]? := by rw [hl.keys]
  rw [List.getElem?_map, List.getElem?_map] at hk
  cases hp : l[i]? with
  | none =>
    rw [hp] at e
    cases e
  | some p =>
    rw [hp] at e hk
    cases e
    obtain ⟨q, hq, eq⟩ := Option.map_eq_some_iff.mp hk
    obtain ⟨qk, qv⟩ := q
    simp only at eq
    subst eq
    refine ⟨⟨h1, by
      have := (List.getElem?_eq_some_iff.mp hp).1
      omega⟩, fun x H' hy => ?_⟩
    obtain ⟨rfl, k', v', e2, rfl⟩ := hy
    rw [hq] at e2
    cases e2
    refine ⟨Same.refl _, fun C2 _ => ?_⟩
    show DqT tg C2 H' (kV p.1) (keyD p.1)
    refine .inl ?_
    generalize p.1 = z
    cases z with
    | inl i => exact .int i
    | inr x => exact .str x
@[simp] def vLcK (ks : List Nat) (i : Nat) (dec : Dec) (tt : P0T) (te : P0) : P0 := fun ρ Q => ∃ l : DL, ρ[i]? = some (some (dD l)) ∧ lcGo ks dec tt te (wipeR ρ ks) Q (l.map fun p => keyD p.1) []
theorem PE.or {e : Expr} {t u : TE} (h : PE X e t) (k : PE X e u) : PE X e (fun σ H Q => t σ H Q ∨ u σ H Q) := ⟨fun pins s σ H Q I q => q.elim (h.run pins s σ H Q I) (k.run pins s σ H Q I)⟩
theorem qe_lcK {elt tg : Expr} {ifs : List Expr} {scope : Scope} {own : List (Str × Nat)} {i : Nat} {x : Str} {px : Pos} {dec : Dec} {G : TG} {tt : P0T} {te : P0} (hc : X.calm = true) (hN : X.N.Nodup) (hi : X.N[i]? = some x) (ok : BlkOk X.N X.env.scope scope own)
    (hg : ∀ (C2 : Cz) (s : Shared) (H : Hp) (Cc : Addr) (cl : List (Str × Addr)) (fp : List Addr), QG (X.blk s H scope (compEnvC scope cl Cc X.env) fp) X.K C2 tg G dec) (ht : ∀ C2, Ext C C2 → ∀ (s : Shared) (H : Hp) (Cc : Addr) (cl : List (Str × Addr)) (fp : List Addr), QTs (X.blk s H scope (compEnvC scope cl Cc X.env) fp) C2 ifs tt)
    (he : ∀ C2, Ext C C2 → ∀ (s : Shared) (H : Hp) (Cc : Addr) (cl : List (Str × Addr)) (fp : List Addr), QE (X.blk s H scope (compEnvC scope cl Cc X.env) fp) C2 elt te) (hs : ∀ v, foldedSetIterable (.Name x px) X.env v = pure v := by intro _; rfl)
    (hv : Vis X.env.scope x := by first | exact Or.inl rfl | exact Or.inr (Or.inl rfl) | exact Or.inr (Or.inr rfl)) (hd : (x == ("__debug__" : Str)) = false := by decide) (hcd : (x == ("__classdict__" : Str)) = false := by decide) :
    QE X C (.ListComp elt [⟨tg, .Name x px, ifs, 0⟩] scope pos) (vLcK (own.map (·.2)) i dec tt te) := by
  have am : ∀ ρ Q Q', (∀ d, Q d → Q' d) → tt ρ Q → tt ρ Q' := (ht C Ext.refl X.s_0 (fun _ => none) 0 [] []).mono
  have bm : ∀ ρ Q Q', (∀ d, Q d → Q' d) → te ρ Q → te ρ Q' := (he C Ext.refl X.s_0 (fun _ => none) 0 [] []).mono
  have gm := fun C2 => (hg C2 X.s_0 (fun _ => none) 0 [] []).go
  have base := pe_lc (pos := pos) hc hN (pi_keys (pe_var (pos := px) hi hv hd hcd)) ok (fun s H c cl fp => (hg C s H c cl fp).pg) (fun s H c cl fp => PTs.ex fun C2 x => ht C2 x s H c cl fp) (fun s H c cl fp => PE.ex fun C2 x => he C2 x s H c cl fp) hs
  refine ⟨PE.weak (PE.or (pe_lock base) base) fun σ H Q h => ?_, fun ρ Q Q' w ⟨l, e, h⟩ => ⟨l, e, lcGo_mono am bm w _ _ h⟩⟩
  obtain ⟨ρ, hE, j, l, e, h⟩ := h
  obtain ⟨v, ev, r⟩ := hE.at_ i _ e
  obtain ⟨d, kvs, rfl, m, hR, hl⟩ := dq_dct r
  rcases hR with hH | ⟨od, hH⟩
  · refine .inl ⟨d, .dK kvs, hH, trivial, fun od => ?_⟩
    have hL : lockH H d od (.dK kvs) d = some (.frz od (.dK kvs)) := upd_same
    refine ⟨.ref d, ev, d, od, rfl, .inl ⟨kvs, hL, fun D nD => ?_⟩⟩
    have hE1 := hE.lock (od := od) hH
    have j1 := lock_J (od := od) (u := .dK kvs) hH m j
    have hl1 : DqL C (lockH H d od (.dK kvs)) kvs l := DqKv.dl (DqKv.lock hH hl.kv)
    refine lc_core am bm gm hE1 j1 (it_keys m hL hl1) nD (lcGo_mono am bm (fun y q ys vs H' e2 k' j' hD r2 => ?_) _ _ h)
    subst e2
    have hd' := k'.2 _ _ m hL
    refine ⟨hd', q (.ref D) _ (lock_kx hH k') (unlock_J hd' m j') ?_⟩
    exact Dq.unlock hd' (.lst (freshM C j1 nD) hD (DqAll.sub (C := C.plus D) (C' := C) (fun _ m => Or.inl m) rfl r2))
  · refine .inr ⟨.ref d, ev, d, od, rfl, .inl ⟨kvs, hH, fun D nD => ?_⟩⟩
    refine lc_core am bm gm hE j (it_keys m hH hl) nD (lcGo_mono am bm (fun y q ys vs H' e2 k' j' hD r2 => ?_) _ _ h)
    subst e2
    exact q (.ref D) H' k' j' (.lst (freshM C j nD) hD (DqAll.sub (C := C.plus D) (C' := C) (fun _ m => Or.inl m) rfl r2))
/-! {k: e for x in d} -/
theorem dc_coreR {ks : List Nat} {dec : Dec} {tt : P0T} {tk te : P0} {J : It} {G : TG} {σ : L2.St} {ρ : Rho} {H1 : Hp} {Qd : Hp → Prop} {ds : List PyData} {D : Addr}
    (am : ∀ ρ Q Q', (∀ d, Q d → Q' d) → tt ρ Q → tt ρ Q') (km : ∀ ρ Q Q', (∀ d, Q d → Q' d) → tk ρ Q → tk ρ Q') (bm : ∀ ρ Q Q', (∀ d, Q d → Q' d) → te ρ Q → te ρ Q')
    (gm : ∀ H σ x d l Q, DqT tg C H x d → dec d = some l → (∀ vs, Got C H vs l → Q (setsS σ vs) H) → G x σ H Q) (he1 : EnvOk C H1 σ ρ) (j1 : C.J H1) (it : IsIt tg C H1 J ds) (nD : H1 D = none)
    (q : dcGo ks dec tt tk te (wipeR ρ ks) (fun d => ∀ l kvs H', d = dD l → Kx C H1 H' → C.J H' → H' D = some (.dK kvs) → DqL C H' kvs l → Qd H') ds []) :
    ∃ W : Nat → Nat → Hp → Prop, (∃ m, W 0 m (upd H1 D (.dK []))) ∧ ∀ i m H, W i m H → (J.stop i H ∧ Qd H) ∨ (J.go i H ∧ ∃ Nx : Hp → Prop, (∀ H', Nx H' → ∃ m', m' < m ∧ W (i + 1) m' H') ∧ ∀ x H', J.yld i H x H' → G x (wipe σ ks) H' fun σ2 H2 => wipe σ2 ks = wipe σ ks ∧ lfT C tt σ2 H2 fun b H3 =>
      if b = true then lf C tk σ2 H3 fun y H4 => lf C te σ2 H4 fun z H5 => ∃ kvs k, y = kV k ∧ H5 D = some (.dK kvs) ∧ kvs.length < sizeLine ∧ Nx (upd H5 D (.dK (putK kvs k z))) else Nx H3) := by
  have mD : ¬ C.M D := freshM C j1 nD
  have st0 : EnvOk (C.plus D) H1 σ ρ := ⟨he1.len, fun i d e => by
    obtain ⟨v, e1, r⟩ := he1.at_ i d e
    exact ⟨v, e1, r.clear nD⟩⟩
  generalize hz : (fun d => ∀ l kvs H', d = dD l → Kx C H1 H' → C.J H' → H' D = some (.dK kvs) → DqL C H' kvs l → Qd H') = Z at q
  refine ⟨fun i m H => m = ds.length - i ∧ i ≤ ds.length ∧ ∃ (acc : List (Key × V)) (ys : DL), Kx C H1 H ∧ C.J H ∧ H D = some (.dK acc) ∧ DqL (C.plus D) H acc ys ∧ (∀ p ∈ ys, noL p.2 = true) ∧ EnvOk (C.plus D) H (wipe σ ks) (wipeR ρ ks) ∧
    dcGo ks dec tt tk te (wipeR ρ ks) Z (ds.drop i) ys, ⟨ds.length, by omega, Nat.zero_le _, [], [], kxSame (same_upd nD), C.same _ _ (same_upd nD) j1, upd_same, .nil, by simp, (st0.wipe ks).keep (kxSame (same_upd nD)), q⟩, ?_⟩
  rintro i m H ⟨rfl, hi, acc, ys, kx, jH, hD, hA, hn, hEn, go⟩
  obtain ⟨fin, step⟩ := it i H kx
  by_cases hlt : i < ds.length
  · have hd : ds[i]? = some ds[i] := List.getElem?_eq_getElem hlt
    obtain ⟨g1, g2⟩ := step _ hd
    rw [← List.getElem_cons_drop hlt] at go
    obtain ⟨l, e, c, go⟩ := go
    refine .inr ⟨g1, fun H => ∃ (acc : List (Key × V)) (ys : DL), Kx C H1 H ∧ C.J H ∧ H D = some (.dK acc) ∧ DqL (C.plus D) H acc ys ∧ (∀ p ∈ ys, noL p.2 = true) ∧ EnvOk (C.plus D) H (wipe σ ks) (wipeR ρ ks) ∧
      dcGo ks dec tt tk te (wipeR ρ ks) Z (ds.drop (i + 1)) ys, fun H' h => ⟨_, by omega, rfl, hlt, h⟩, fun x H' hy => ?_⟩
    obtain ⟨s1, r⟩ := g2 x H' hy
    have k1' : Kx C H H' := kxSame s1
    have j1' := C.same _ _ s1 jH
    refine gm H' _ x _ l _ (r C ⟨rfl, fun _ _ _ m => m⟩) e fun vs hv => ⟨wipe_sets (hv.keys c), ?_⟩
    have hE1 := hEn.keep (Kx.plus k1')
    have hE2 : EnvOk C H' (wipe σ ks) (wipeR ρ ks) := EnvOk.sub (C := C.plus D) (fun _ m => Or.inl m) rfl hE1
    have hE3 := EnvOk.sets _ _ _ _ hE2 hv
    refine ⟨setsR (wipeR ρ ks) l, hE3, j1', am _ _ _ (fun b q H3 k3 j3 => ?_) go⟩
    cases b with
    | true =>
      refine ⟨setsR (wipeR ρ ks) l, hE3.keep k3, j3, km _ _ _ (fun y q vk H4 k4 j4 r4 => ?_) q⟩
      refine ⟨setsR (wipeR ρ ks) l, (hE3.keep k3).keep k4, j4, bm _ _ _ (fun z ⟨k, ey, nz, hl, q5⟩ v H5 k5 j5 r5 => ?_) q⟩
      subst ey
      have k15 : Kx C H H5 := k1'.trans (k3.trans (k4.trans k5))
      have hD5 := k15.2 D _ mD hD
      have kD : Kx (C.plus D) H5 (upd H5 D (.dK (putK acc k v))) := ⟨fun b xs eb => eb.upd hD5 fzDk, fun b o m eb => by rw [upd_ne (fun z => m (.inr z))]; exact eb⟩
      refine ⟨acc, k, dq_key r4, hD5, by rw [hA.length]; exact hl, putK acc k v, putG ys k z, ?_, C.st H5 _ kD.1 (fun b o (m : C.M b) eb => by rw [upd_ne (show b ≠ D from fun z => mD (by rw [← z]; exact m))]; exact eb) j5, upd_same, ?_, ?_, (hEn.keep (Kx.plus k15)).keep kD, q5⟩
      · refine ⟨fun b xs eb => ?_, fun b o m eb => ?_⟩
        · exact ((kx.trans k15).1 b xs eb).upd hD5 fzDk
        · rw [upd_ne (ne_of_none eb nD)]
          exact (kx.trans k15).2 b o m eb
      · exact ((hA.keep (Kx.plus k15)).put (r5.noL nz)).keep kD
      · intro p hp
        unfold putG at hp
        by_cases ea : (ys.any fun kv => decide (kv.1 = k)) = true
        · rw [if_pos ea] at hp
          obtain ⟨p0, hp0, rfl⟩ := List.mem_map.mp hp
          by_cases e2 : p0.1 = k
          · rw [if_pos e2]
            exact nz
          · rw [if_neg e2]
            exact hn p0 hp0
        · rw [if_neg ea] at hp
          rcases List.mem_append.mp hp with hp | hp
          · exact hn p hp
          · rw [List.mem_singleton.mp hp]
            exact nz
    | false =>
      have k13 : Kx C H H3 := k1'.trans k3
      exact ⟨acc, ys, kx.trans k13, j3, k13.2 D _ mD hD, hA.keep (Kx.plus k13), hn, hEn.keep (Kx.plus k13), q⟩
  · have e : i = ds.length := by omega
    subst e
    rw [List.drop_length] at go
    have sub : ∀ {kvs : List (Key × V)} {l : DL}, DqL (C.plus D) H kvs l → DqL C H kvs l := by
      intro kvs l h
      induction h with
      | nil => exact .nil
      | cons h _ ih => exact .cons (Dq.sub (C := C.plus D) (C' := C) (fun _ m => Or.inl m) rfl h) ih
    subst hz
    exact .inl ⟨fin rfl, go ys acc H rfl kx jH hD (sub hA)⟩
@[simp] def vDcK (ks : List Nat) (i : Nat) (dec : Dec) (tt : P0T) (tk te : P0) : P0 := fun ρ Q => ∃ l : DL, ρ[i]? = some (some (dD l)) ∧ dcGo ks dec tt tk te (wipeR ρ ks) Q (l.map fun p => keyD p.1) []
theorem dcGo_is {ks : List Nat} {dec : Dec} {tt : P0T} {tk te : P0} (am : ∀ ρ Q Q', (∀ d, Q d → Q' d) → tt ρ Q → tt ρ Q') (km : ∀ ρ Q Q', (∀ d, Q d → Q' d) → tk ρ Q → tk ρ Q') (bm : ∀ ρ Q Q', (∀ d, Q d → Q' d) → te ρ Q → te ρ Q') {ρ : Rho} {Q Q' : PyData → Prop} : ∀ (ds : List PyData) (acc : DL), (∀ l : DL, Q (dD l) → Q' (dD l)) → dcGo ks dec tt tk te ρ Q ds acc → dcGo ks dec tt tk te ρ Q' ds acc
  | [], acc, w, h => w _ h
  | d :: ds, acc, w, ⟨l, e, c, h⟩ => ⟨l, e, c, am _ _ _ (fun b q => by
      cases b with
      | true => exact km _ _ _ (fun y q => bm _ _ _ (fun z ⟨k, e1, e2, e3, q⟩ => ⟨k, e1, e2, e3, dcGo_is am km bm ds _ w q⟩) q) q
      | false => exact dcGo_is am km bm ds _ w q) h⟩
theorem dD_inj {l m : DL} (h : dD l = dD m) : l = m := by
  have h' := PyData.dict.inj h
  clear h
  induction l generalizing m with
  | nil =>
    cases m with
    | nil => rfl
    | cons _ _ => cases h'
  | cons p l ih =>
    cases m with
    | nil => cases h'
    | cons q m =>
      rw [List.map_cons, List.map_cons] at h'
      obtain ⟨h1, h2⟩ := List.cons.inj h'
      obtain ⟨k, v⟩ := p
      obtain ⟨k', v'⟩ := q
      have e1 := keyD_inj (congrArg Prod.fst h1)
      have e2 : v = v' := congrArg Prod.snd h1
      simp only at e1
      rw [e1, e2, ih h2]
theorem qe_dcK {kx vx tg : Expr} {ifs : List Expr} {scope : Scope} {own : List (Str × Nat)} {i : Nat} {x : Str} {px : Pos} {dec : Dec} {G : TG} {tt : P0T} {tk te : P0} (hc : X.calm = true) (hN : X.N.Nodup) (hi : X.N[i]? = some x) (ok : BlkOk X.N X.env.scope scope own)
    (hg : ∀ (s : Shared) (H : Hp) (Cc : Addr) (cl : List (Str × Addr)) (fp : List Addr), QG (X.blk s H scope (compEnvC scope cl Cc X.env) fp) X.K C tg G dec) (ht : ∀ (s : Shared) (H : Hp) (Cc : Addr) (cl : List (Str × Addr)) (fp : List Addr), QTs (X.blk s H scope (compEnvC scope cl Cc X.env) fp) C ifs tt)
    (hk : ∀ (s : Shared) (H : Hp) (Cc : Addr) (cl : List (Str × Addr)) (fp : List Addr), QE (X.blk s H scope (compEnvC scope cl Cc X.env) fp) C kx tk) (he : ∀ (s : Shared) (H : Hp) (Cc : Addr) (cl : List (Str × Addr)) (fp : List Addr), QE (X.blk s H scope (compEnvC scope cl Cc X.env) fp) C vx te) (hs : ∀ v, foldedSetIterable (.Name x px) X.env v = pure v := by intro _; rfl)
    (hv : Vis X.env.scope x := by first | exact Or.inl rfl | exact Or.inr (Or.inl rfl) | exact Or.inr (Or.inr rfl)) (hd : (x == ("__debug__" : Str)) = false := by decide) (hcd : (x == ("__classdict__" : Str)) = false := by decide) :
    QE X C (.DictComp kx vx [⟨tg, .Name x px, ifs, 0⟩] scope pos) (vDcK (own.map (·.2)) i dec tt tk te) := by
  have am := (ht X.s_0 (fun _ => none) 0 [] []).mono
  have km := (hk X.s_0 (fun _ => none) 0 [] []).mono
  have bm := (he X.s_0 (fun _ => none) 0 [] []).mono
  have gm := (hg X.s_0 (fun _ => none) 0 [] []).go
  have base := pe_dc (pos := pos) hc hN (pi_keys (pe_var (pos := px) hi hv hd hcd)) ok (fun s H c cl fp => (hg s H c cl fp).pg) (fun s H c cl fp => (ht s H c cl fp).pts) (fun s H c cl fp => (hk s H c cl fp).pe) (fun s H c cl fp => (he s H c cl fp).pe) hs
  refine ⟨PE.weak (PE.or (pe_lock base) base) fun σ H Q h => ?_, fun ρ Q Q' w ⟨l, e, h⟩ => ⟨l, e, dcGo_mono am km bm w _ _ h⟩⟩
  obtain ⟨ρ, hE, j, l, e, h⟩ := h
  obtain ⟨v, ev, r⟩ := hE.at_ i _ e
  obtain ⟨d, kvs, rfl, m, hR, hl⟩ := dq_dct r
  rcases hR with hH | ⟨od, hH⟩
  · refine .inl ⟨d, .dK kvs, hH, trivial, fun od => ?_⟩
    have hL : lockH H d od (.dK kvs) d = some (.frz od (.dK kvs)) := upd_same
    refine ⟨.ref d, ev, d, od, rfl, .inl ⟨kvs, hL, fun D nD => ?_⟩⟩
    have hE1 := hE.lock (od := od) hH
    have j1 := lock_J (od := od) (u := .dK kvs) hH m j
    have hl1 : DqL C (lockH H d od (.dK kvs)) kvs l := DqKv.dl (DqKv.lock hH hl.kv)
    refine dc_coreR am km bm gm hE1 j1 (it_keys m hL hl1) nD (dcGo_is am km bm _ _ (fun y q l' kvs' H' e2 k' j' hD r2 => ?_) h)
    have e2 := dD_inj e2
    subst e2
    have hd' := k'.2 _ _ m hL
    refine ⟨hd', q (.ref D) _ (lock_kx hH k') (unlock_J hd' m j') ?_⟩
    exact Dq.unlock hd' (.dct (freshM C j1 nD) (.inl hD) r2.kv)
  · refine .inr ⟨.ref d, ev, d, od, rfl, .inl ⟨kvs, hH, fun D nD => ?_⟩⟩
    refine dc_coreR am km bm gm hE j (it_keys m hH hl) nD (dcGo_is am km bm _ _ (fun y q l' kvs' H' e2 k' j' hD r2 => ?_) h)
    have e2 := dD_inj e2
    subst e2
    exact q (.ref D) H' k' j' (.dct (freshM C j nD) (.inl hD) r2.kv)
end
end Kr

set_option Elab.async false
set_option linter.all false
set_option maxRecDepth 100000
set_option maxHeartbeats 4000000
namespace Kr
open PySem PySem.Spec PyProof.Rows L2
theorem DqL.get {C : Cz} {H : Hp} : ∀ {kvs : List (Key × V)} {l : DL} {i : Nat} {p : Key × PyData}, DqL C H kvs l → l[i]? = some p → ∃ v, kvs[i]? = some (p.1, v) ∧ Dq C H v p.2
  | _, _, _, _, .nil, e => by simp at e
  | _, _, 0, _, .cons h _, e => by simp at e; subst e; exact ⟨_, rfl, h⟩
  | _, _, i + 1, _, .cons _ r, e => DqL.get (i := i) r (by simpa using e)
section
variable {X : Cx} {C : Cz} {pos : Pos} {Ow : List Nat} {H0 H : Hp} {w0 w : Own} {σ : L2.St} {ρ : Rho} {tg : Expr} {G : TG} {dec : Dec} {t : P0S}
def itemsL (l : DL) : List PyData := l.map fun p => .tuple [keyD p.1, p.2]
theorem it_items {H1 : Hp} {d : Addr} {od : Obj} {kvs : List (Key × V)} {l : DL} (m : ¬ C.M d) (hH : H1 d = some (.frz od (.dK kvs))) (hl : DqL C H1 kvs l) {elts : List Expr} {kk : Nat} {tpos : Pos} : IsIt (.Tuple elts kk tpos) C H1 (Iti d od kvs) (itemsL l) := by
  intro i H k
  have h1 := k.2 _ _ m hH
  have e1 : kvs.length = l.length := hl.length
  refine ⟨fun e => ⟨h1, by rw [e1, e, itemsL, List.length_map]; exact Nat.le_refl _⟩, fun x e => ?_⟩
  unfold itemsL at e
  rw [List.getElem?_map] at e
  cases hp : l[i]? with
  | none =>
    rw [hp] at e
    cases e
  | some p =>
    rw [hp] at e
    cases e
    obtain ⟨v, hv, r⟩ := hl.get hp
    refine ⟨⟨h1, by
      have := (List.getElem?_eq_some_iff.mp hp).1
      omega⟩, fun x H' hy => ?_⟩
    obtain ⟨T, k', v', e2, rfl, nT, rfl⟩ := hy
    rw [hv] at e2
    cases e2
    have sm := same_upd (o := .tup [kV p.1, v]) nT
    refine ⟨sm, fun C2 f => .tw upd_same (.cons ?_ (.cons ((r.carry k f).keep (kxSame sm)) .nil))⟩
    generalize p.1 = z
    cases z with
    | inl i => exact .int i
    | inr x => exact .str x
def sForItems (Ow : List Nat) (i : Nat) (dec : Dec) (t : P0S) : P0S := fun D ρ => ∃ l : DL, (hide Ow ρ)[i]? = some (some (dD l)) ∧ ∃ W : Nat → Rho → Prop, W 0 ρ ∧ ∀ j ρ, W j ρ → (j = l.length → D.nx ρ) ∧ ∀ p, l[j]? = some p → ∃ m, dec (.tuple [keyD p.1, p.2]) = some m ∧ (∀ q ∈ m, q.1 ∉ Ow) ∧
  t { nx := W (j + 1), rt := fun _ => False, ct := W (j + 1) } (setsR ρ m)
/-- the loop over a dict that is known to the object -/
theorem items_core {tb : TS} {d : Addr} {od : Obj} {kvs : List (Key × V)} {l : DL} {HX : Hp} {D2 : Ends} {nxP : Rho → Prop} {elts : List Expr} {kk : Nat} {tpos : Pos} (hg : ∀ C2, QG X X.K C2 (.Tuple elts kk tpos) G dec) (mono : ∀ ρ D D', t D ρ → End0.le D D' → t D' ρ)
    (htb : ∀ D σ H, (∃ H0 w0, lfS C Ow H0 w0 t D σ H) → tb D σ H) (hX : HX d = some (.frz od (.dK kvs))) (m : ¬ (C.ext w).M d) (hl : DqL (C.ext w) HX kvs l) (s : SOk C Ow HX w HX σ ρ w)
    (q : ∃ W : Nat → Rho → Prop, W 0 ρ ∧ ∀ j ρ, W j ρ → (j = l.length → nxP ρ) ∧ ∀ p, l[j]? = some p → ∃ m, dec (.tuple [keyD p.1, p.2]) = some m ∧ (∀ q ∈ m, q.1 ∉ Ow) ∧ t { nx := W (j + 1), rt := fun _ => False, ct := W (j + 1) } (setsR ρ m))
    (fin : ∀ σ' H' ρ' w', SOk C Ow HX w H' σ' ρ' w' → nxP ρ' → D2.nx σ' H') :
    ∃ W : Nat → Nat → L2.St → Hp → Prop, (∃ m, W 0 m σ HX) ∧ ∀ i m σ H, W i m σ H →
      ((Iti d od kvs).stop i H ∧ D2.nx σ H) ∨ ((Iti d od kvs).go i H ∧ ∃ N : L2.St → Hp → Prop, (∀ σ' H', N σ' H' → ∃ m', m' < m ∧ W (i + 1) m' σ' H') ∧ ∀ x H', (Iti d od kvs).yld i H x H' → G x σ H' fun σ2 H2 => tb { D2 with nx := N, ct := N, bk := D2.nx } σ2 H2) := by
  have it := it_items (C := C.ext w) m hX hl (elts := elts) (kk := kk) (tpos := tpos)
  obtain ⟨W, wz, turn⟩ := q
  have el : (itemsL l).length = l.length := by simp [itemsL]
  refine ⟨fun i m σ H => m = l.length - i ∧ i ≤ l.length ∧ ∃ ρ w2, SOk C Ow HX w H σ ρ w2 ∧ W i ρ, ⟨l.length, by omega, Nat.zero_le _, ρ, w, s, wz⟩, ?_⟩
  rintro i m σ H ⟨rfl, hi, ρ, w2, s, wi⟩
  obtain ⟨fn, go⟩ := it i H s.k.kx.ext
  obtain ⟨t1, t2⟩ := turn i ρ wi
  by_cases hlt : i < l.length
  · obtain ⟨p, hp⟩ : ∃ p, l[i]? = some p := ⟨_, List.getElem?_eq_getElem hlt⟩
    have hd : (itemsL l)[i]? = some (.tuple [keyD p.1, p.2]) := by
      unfold itemsL
      rw [List.getElem?_map, hp]
      rfl
    obtain ⟨g1, g2⟩ := go _ hd
    obtain ⟨l', e, c1, q⟩ := t2 p hp
    refine .inr ⟨g1, fun σ' H' => ∃ ρ w2, SOk C Ow HX w H' σ' ρ w2 ∧ W (i + 1) ρ, fun σ' H' h => ⟨_, by omega, rfl, hlt, h⟩, fun x H' hy => ?_⟩
    obtain ⟨k2, r⟩ := g2 x H' hy
    have fr : Far (C.ext w) (C.ext w2) HX := ⟨rfl, fun b o e m z => z.elim (fun z => m (.inl z)) fun ⟨i, vs, z⟩ => (s.k.2 b o (fun z => m (.inl z)) (fun i vs z => m (.inr ⟨i, vs, z⟩)) e).2 i vs z⟩
    refine (hg (C.ext w2)).go H' σ x _ l' _ (r _ fr) e fun vs hv => htb _ _ _ ⟨HX, w, setsR ρ l', w2, SOk.setsX _ _ _ _ (s.keep (kxSame k2) (C.same _ _ k2 s.j)) c1 hv, ?_⟩
    refine mono _ _ _ q ⟨?_, fun _ z => z.elim, fun _ z => z.elim, ?_⟩
    · intro ρ' q σ' H2 w' s'
      exact ⟨ρ', w', s', q⟩
    · intro ρ' q σ' H2 w' s'
      exact ⟨ρ', w', s', q⟩
  · have e : i = l.length := by omega
    exact .inl ⟨fn (by rw [el]; exact e), fin σ H ρ w2 s (t1 e)⟩
theorem SOk.lock {d : Addr} {od : Obj} {kvs : List (Key × V)} (s : SOk C Ow H0 w0 H σ ρ w) (hH : H d = some (.dK kvs)) (m : ¬ (C.ext w).M d) : SOk C Ow (lockH H d od (.dK kvs)) w (lockH H d od (.dK kvs)) σ ρ w := by
  refine { len := s.len, j := lock_J hH (fun z => m (.inl z)) s.j, k := St.refl, inj := s.inj, dom := fun i b vs e => ?_, all := s.all, at_ := fun i x hi e => ?_ }
  · obtain ⟨a1, a2, a3, a4, ds, a5, a6⟩ := s.dom i b vs e
    have ne : b ≠ d := fun z => m (.inr ⟨i, vs, by rw [← z]; exact e⟩)
    exact ⟨a1, a2, a3, by unfold lockH; rw [upd_ne ne]; exact a4, ds, a5, a6.lock hH⟩
  · obtain ⟨v, e1, r⟩ := s.at_ i x hi e
    exact ⟨v, e1, r.lock hH⟩
theorem SOk.unlock {d : Addr} {od : Obj} {kvs : List (Key × V)} {H' : Hp} {σ' : L2.St} {ρ' : Rho} {w' : Own} (s : SOk C Ow H0 w0 H σ ρ w) (hH : H d = some (.dK kvs)) (m : ¬ (C.ext w).M d) (s' : SOk C Ow (lockH H d od (.dK kvs)) w H' σ' ρ' w') :
    H' d = some (.frz od (.dK kvs)) ∧ SOk C Ow H0 w0 (upd H' d (.dK kvs)) σ' ρ' w' := by
  obtain ⟨hd, nd⟩ := s'.k.2 d _ (fun z => m (.inl z)) (fun i vs z => m (.inr ⟨i, vs, z⟩)) (show lockH H d od (.dK kvs) d = some (.frz od (.dK kvs)) from upd_same)
  refine ⟨hd, { len := s'.len, j := unlock_J hd (fun z => m (.inl z)) s'.j, k := s.k.trans ⟨fun c xs e => ?_, fun b o mb n e => ?_⟩, inj := s'.inj, dom := fun i b vs e => ?_, all := s'.all, at_ := fun i x hi e => ?_ }⟩
  · exact (s'.k.1 c xs (e.upd hH fzDk)).ne (e.neq hH fzDk)
  · by_cases hb : b = d
    · subst hb
      rw [hH] at e
      cases e
      exact ⟨upd_same, nd⟩
    · obtain ⟨e1, n1⟩ := s'.k.2 b o mb n (by unfold lockH; rw [upd_ne hb]; exact e)
      exact ⟨by rw [upd_ne hb]; exact e1, n1⟩
  · obtain ⟨a1, a2, a3, a4, ds, a5, a6⟩ := s'.dom i b vs e
    have ne : b ≠ d := fun z => nd i vs (by rw [← z]; exact e)
    exact ⟨a1, a2, a3, by rw [upd_ne ne]; exact a4, ds, a5, a6.unlock hd⟩
  · obtain ⟨v, e1, r⟩ := s'.at_ i x hi e
    exact ⟨v, e1, r.unlock hd⟩
theorem PS.or {e : Stmt} {t u : TS} (h : PS X e t) (k : PS X e u) : PS X e (fun D σ H => t D σ H ∨ u D σ H) := ⟨fun pins s σ H D I q => q.elim (h.run pins s σ H D I) (k.run pins s σ H D I)⟩
theorem qs_forItems {elts : List Expr} {kk : Nat} {tpos : Pos} {body : List Stmt} {i : Nat} {x : Str} {px apos cpos : Pos} (hp : PassesOwn (model X.prog X.w) X.A X.env X.xe) (hc : X.calm = true) (hi : X.N[i]? = some x) (hg : ∀ C2, QG X X.K C2 (.Tuple elts kk tpos) G dec) (hb : QSs X C Ow body t)
    (hbase : attributeBase (.Name x px) "items" X.env (eval (.Name x px) X.env) = eval (.Name x px) X.env := by rfl) (hline : (apos.endLine == cpos.line) = true := by rfl) (hs : ∀ v, foldedSetIterable (.Call (.Attribute (.Name x px) "items" apos) [] [] cpos) X.env v = pure v := by intro _; rfl)
    (hv : Vis X.env.scope x := by first | exact Or.inl rfl | exact Or.inr (Or.inl rfl) | exact Or.inr (Or.inr rfl)) (hd : (x == ("__debug__" : Str)) = false := by decide) (hcd : (x == ("__classdict__" : Str)) = false := by decide) :
    QS X C Ow (.For (.Tuple elts kk tpos) (.Call (.Attribute (.Name x px) "items" apos) [] [] cpos) body [] pos) (sForItems Ow i dec t) := by
  have base := ps_for (pos := pos) hp hc (pi_items (elts := elts) (kk := kk) (tpos := tpos) (pe_var (pos := px) hi hv hd hcd) hbase hline) (hg C).pg (PSs.ex hb.ps) hs
  refine ⟨fun H0 w0 => PS.weak (PS.or (ps_lock base) base) fun D σ H q => ?_, fun ρ D D' ⟨l, e, W, wz, turn⟩ le => ⟨l, e, W, wz, fun j ρ wj => ⟨fun e => le.1 _ ((turn j ρ wj).1 e), (turn j ρ wj).2⟩⟩⟩
  obtain ⟨ρ, w, s, l, e, q⟩ := q
  obtain ⟨he, hj⟩ := s.envX
  obtain ⟨v, ev, r⟩ := he.at_ i _ e
  obtain ⟨d, kvs, rfl, m, hR, hl⟩ := dq_dct r
  rcases hR with hH | ⟨od, hH⟩
  · refine .inl ⟨d, .dK kvs, hH, trivial, fun od => ?_⟩
    have hL : lockH H d od (.dK kvs) d = some (.frz od (.dK kvs)) := upd_same
    have hl1 : DqL (C.ext w) (lockH H d od (.dK kvs)) kvs l := DqKv.dl (DqKv.lock hH hl.kv)
    refine ⟨.ref d, ev, d, od, kvs, rfl, hL, ?_⟩
    refine items_core hg hb.mono (fun _ _ _ z => z) hL m hl1 (s.lock hH m) q fun σ' H' ρ' w' s' nx => ?_
    obtain ⟨hd', s2⟩ := s.unlock hH m s'
    exact ⟨hd', nx σ' _ w' s2⟩
  · refine .inr ⟨.ref d, ev, d, od, kvs, rfl, hH, ?_⟩
    exact items_core hg hb.mono (fun _ _ _ z => z) hH m hl s.rebase q fun σ' H' ρ' w' s' nx => nx σ' H' w' (s'.based s.k)
/-! x, y = [e for t in own.pop()] -/
def sLcPop (Ow : List Nat) (k : Nat) (kso ks : List Nat) (dec : Dec) (te : P0) : P0S := fun D ρ => k ∈ Ow ∧ ∃ ds ts, ρ[k]? = some (some (.list (ds ++ [.tuple ts]))) ∧ (∀ i ∈ ks, i ∉ Ow) ∧
  lcGo kso dec wYes te (wipeR (ρ.set k (some (.list ds))) kso) (fun d => ∃ ys, d = .list ys ∧ noLs ys = true ∧ ys.length = ks.length ∧ D.nx (setsR (ρ.set k (some (.list ds))) (ks.zip ys))) ts []
theorem zip_noL : ∀ (ks : List Nat) (ys : List PyData), noLs ys = true → noLp (ks.zip ys) = true
  | [], _, _ => rfl
  | _ :: _, [], _ => rfl
  | k :: ks, y :: ys, h => by
    have h' : (noL y && noLs ys) = true := h
    rw [Bool.and_eq_true] at h'
    show (noL y && noLp (ks.zip ys)) = true
    rw [h'.1, zip_noL ks ys h'.2]
    rfl
theorem zip_mem : ∀ {ks : List Nat} {ys : List PyData} {p : Nat × PyData}, p ∈ ks.zip ys → p.1 ∈ ks := fun h => (List.of_mem_zip h).1
theorem qs_lcPop {k : Nat} {elt tgc tg : Expr} {scope : Scope} {own : List (Str × Nat)} {call : Expr} {cp : Pos} {Gc G : TG} {ks : List Nat} {te : P0} (hc : X.calm = true) (hN : X.N.Nodup) (hp : PE X call (tBM0 X.K "list" rPop (tVar k))) (ok : BlkOk X.N X.env.scope scope own)
    (hgc : ∀ (C2 : Cz) (s : Shared) (H : Hp) (Cc : Addr) (cl : List (Str × Addr)) (fp : List Addr), QG (X.blk s H scope (compEnvC scope cl Cc X.env) fp) X.K C2 tgc Gc dec)
    (he : ∀ C2, Ext C C2 → ∀ (s : Shared) (H : Hp) (Cc : Addr) (cl : List (Str × Addr)) (fp : List Addr), QE (X.blk s H scope (compEnvC scope cl Cc X.env) fp) C2 elt te)
    (hg : ∀ C2, QG X X.K C2 tg G (dUnl ks)) (hfs : ∀ v, foldedSetIterable call X.env v = pure v := by intro _; rfl)
    (hs : swapsWithSole [tg] (.ListComp elt [⟨tgc, call, [], 0⟩] scope cp) pos.line X.env = pure false := by rfl) (hw : swappedStores [tg] (.ListComp elt [⟨tgc, call, [], 0⟩] scope cp) X.env = pure none := by rfl) (h1 : (assignEach [tg] X.env).map (·.2) = [assign tg X.env] := by rfl) :
    QS X C Ow (.Assign [tg] (.ListComp elt [⟨tgc, call, [], 0⟩] scope cp) pos) (sLcPop Ow k (own.map (·.2)) ks dec te) := by
  have bm : ∀ ρ Q Q', (∀ d, Q d → Q' d) → te ρ Q → te ρ Q' := (he C Ext.refl X.s_0 (fun _ => none) 0 [] []).mono
  have gm := fun C2 => (hgc C2 X.s_0 (fun _ => none) 0 [] []).go
  have base := pe_lc (pos := cp) hc hN (pi_tup hp) ok (fun s H c cl fp => (hgc C s H c cl fp).pg) (fun s H c cl fp => PTs.ex (C := C) (t := wYes) fun C2 _ => qts_nil) (fun s H c cl fp => PE.ex fun C2 x => he C2 x s H c cl fp) hfs
  refine ⟨fun H0 w0 => PS.weak (ps_asg base (hg C).pg hs hw h1) fun D σ H q => ?_, fun ρ D D' ⟨hk, ds, ts, e, c, q⟩ l => ⟨hk, ds, ts, e, c, lcGo_mono (fun _ _ _ w h => w _ h) bm (fun d ⟨ys, e1, e2, e3, q⟩ => ⟨ys, e1, e2, e3, l.1 _ q⟩) _ _ q⟩⟩
  obtain ⟨ρ, w, s, hk, ds, ts, e, c, q⟩ := q
  obtain ⟨b, vs, hw, e1, e2, r⟩ := s.slot hk e
  obtain ⟨v, us, rfl, r1, r2⟩ := dq_last r
  have s1 := s.put hw (.lst r2)
  have r3 : Dq (C.ext (putW w k (b, .lst us))) (upd H b (.lst us)) v (.tuple ts) := by
    have kD : Kx (C.ext w) H (upd H b (.lst us)) := ⟨fun c xs ec => ec.upd e2 fzLst, fun c o m ec => by rw [upd_ne (fun z => m (.inr ⟨k, .lst (us ++ [v]), by rw [z]; exact hw⟩))]; exact ec⟩
    refine Dq.sub (C := C.ext w) (C' := C.ext (putW w k (b, .lst us))) (fun c m => ?_) rfl (r1.keep kD)
    rcases m with m | ⟨i, xs, ei⟩
    · exact .inl m
    · by_cases hi : i = k
      · rw [hi, putW_same] at ei
        cases ei
        exact .inr ⟨k, _, hw⟩
      · rw [putW_ne hi] at ei
        exact .inr ⟨i, xs, ei⟩
  refine ⟨.ref b, e1, .inl ⟨rfl, _, .inl (.inl e2)⟩, b, _, v, rfl, rfl, e2, by simp, ?_⟩
  rw [List.dropLast_concat]
  have r4 := ext_sub r3
  generalize upd H b (.lst us) = H1 at *
  cases r4 with
  | @tup ta xs _ hT hr =>
    refine ⟨ta, rfl, ⟨xs, hT.sq⟩, fun D' nD => ?_⟩
    have it : IsIt tgc C H1 (Itt X.K ta) ts := by
      intro i H2 k2
      have hH2 := k2.1 _ (.tup _) hT
      refine ⟨fun e => ⟨xs, hH2.sq, by rw [hr.length]; omega⟩, fun d e => ?_⟩
      obtain ⟨x, hx, hd⟩ := hr.get e
      refine ⟨⟨xs, x, hH2.sq, hx⟩, fun y H3 hy => ?_⟩
      obtain ⟨rfl, hy⟩ := hy
      have : y = x := Option.some.inj ((hy xs hH2.sq).symm.trans hx)
      subst this
      exact ⟨Same.refl _, fun C2 f => .inl (hd.carry k2 f)⟩
    refine lc_core (fun _ _ _ w h => w _ h) bm gm s1.env s1.j it nD (lcGo_mono (fun _ _ _ w h => w _ h) bm (fun y q ys vs H' e2 k' j' hD r2 => ?_) _ _ q)
    obtain ⟨ys', e3, e4, e5, q⟩ := q
    rw [e2] at e3
    cases e3
    subst e2
    have mD := freshM C s1.j nD
    have rD : Dq C H' (.ref D') (.list ys) := .lst mD hD (DqAll.sub (C := C.plus D') (C' := C) (fun _ m => Or.inl m) rfl r2)
    have s2 := s1.keep k' j'
    refine (hg C).go H' σ _ _ (ks.zip ys) _ (.inl rD) ?_ fun ws hv => q _ _ _ (SOk.sets _ _ _ _ s2 (fun p hp => c _ (zip_mem hp)) (.inr (zip_noL ks ys e4)) hv)
    show (if ys.length = ks.length then some (ks.zip ys) else none) = _
    rw [if_pos e5]
end
end Kr

set_option Elab.async false
set_option linter.all false
set_option maxRecDepth 100000
set_option maxHeartbeats 4000000
namespace Kr
open PySem PySem.Spec PyProof.Rows L2
theorem Tp.cut {H H' : Hp} {a b : Addr} {xs : List V} {u : HO} (t : Tp H b xs) (h : H a = some u) (n : ∀ o, u ≠ .frz o (.tup xs)) (e : ∀ c, c ≠ a → H' c = H c) : Tp H' b xs := t.elim fun o z => ⟨o, (e b (ne_of z.1 h fun q => n o q.symm)).trans z.1, z.2⟩
section
variable {X : Cx} {C : Cz} {Ow : List Nat} {pos : Pos}
/-! a rest that simp leaves as it is -/
@[irreducible] def Later (t : P0S) : P0S := t
theorem Later.is (t : P0S) : Later t = t := by unfold Later; rfl
theorem qss_later {rest : List Stmt} {t : P0S} (h : QSs X C Ow rest t) : QSs X C Ow rest (Later t) := by
  rw [Later.is]
  exact h
theorem Later.go {t : P0S} {D : End0} {ρ : Rho} (h : t D ρ) : Later t D ρ := by
  rw [Later.is]
  exact h
theorem cut2 {goal : Prop} {A : Type} {T : P0S} {D : End0} (f : A → Rho) (hyp : A → Prop) (h1 : (∀ a, hyp a → Later T D (f a)) → goal) (h2 : ∀ a, hyp a → Later T D (f a)) : goal := h1 h2
/-! x, y = e, f -/
@[simp] def sPar (Ow : List Nat) (i j : Nat) (t : P0A) : P0S := fun D ρ => t ρ fun ds => ∃ d e, ds = [d, e] ∧ (Ow = [] ∨ (noL d = true ∧ noL e = true)) ∧ D.nx ((ρ.set i (some d)).set j (some e))
theorem qs_par {i j : Nat} {x y : Str} {a b : Expr} {t : P0A} {px py pt : Pos} {kt k2 pt2} (hio : i ∉ Ow) (hjo : j ∉ Ow) (hc : X.calm = true) (hN : X.N.Nodup) (hi : X.N[i]? = some x) (hj : X.N[j]? = some y) (hij : i ≠ j)
    (hx : X.env.scope.names.lookup x = some .local) (hy : X.env.scope.names.lookup y = some .local) (ha : QA X C [a, b] t)
    (hw : swappedStores [.Tuple [.Name x px, .Name y py] kt pt] (.Tuple [a, b] k2 pt2) X.env = pure (some [x, y]) := by rfl)
    (hs : swapsWithSole [.Tuple [.Name x px, .Name y py] kt pt] (.Tuple [a, b] k2 pt2) pos.line X.env = pure false := by rfl) :
    QS X C Ow (.Assign [.Tuple [.Name x px, .Name y py] kt pt] (.Tuple [a, b] k2 pt2) pos) (sPar Ow i j t) := by
  refine ⟨fun H0 w0 => PS.weak (ps_par hc hN hi hj hij hx hy ha.pa hw hs) fun D σ H q => ?_, fun ρ D D' q l => ha.mono _ _ _ (fun ds ⟨d, e, e1, e2, q⟩ => ⟨d, e, e1, e2, l.1 _ q⟩) q⟩
  obtain ⟨ρ, w, s, q⟩ := q
  refine ⟨ρ, s.env, s.j, ha.mono _ _ _ (fun ds ⟨d, e, e1, e2, q9⟩ vs H' k1 j1 r => ?_) q⟩
  subst e1
  cases r with
  | cons r1 r =>
    cases r with
    | cons r2 r =>
      cases r
      refine ⟨_, _, rfl, q9 _ _ _ (((s.keep k1 j1).set hio r1 ?_).set hjo r2 ?_)⟩
      · exact e2.imp id And.left
      · exact e2.imp id And.right
/-! an own dict, made by a display -/
theorem qfd_disp {keys : List (Option Expr)} {vals : List Expr} {ts : List (P0 × P0)} (h : QPs X C pos keys vals ts) (hall : keys.all (·.isSome) = true := by rfl) (hl : keys.length = vals.length := by rfl) (h0 : keys ≠ [] := by simp) (h15 : keys.length ≤ 15 := by decide) : QFd X C (.Dict keys vals pos) (fun ρ Q => vPs ts ρ fun l => l.length ≤ 15 ∧ Q (mergeG [] l)) := by
  refine ⟨PE.weak (pe_disp h.pps hall hl h0 h15) fun σ H Q q => ?_, fun ρ Q Q' w q => vPs_mono h.mono (fun l q => ⟨q.1, w _ q.2⟩) q⟩
  obtain ⟨ρ, he, j, q⟩ := q
  intro p np
  have sm := same_upd (o := .dK []) np
  have mp := freshM C j np
  have he2 : EnvOk (C.ext (ownD1 p (.dK []))) (upd H p (.dK [])) σ ρ := ⟨he.len, fun i d e => by
    obtain ⟨v, e1, r⟩ := he.at_ i d e
    refine ⟨v, e1, Dq.sub (C := C.plus p) (C' := C.ext (ownD1 p (.dK []))) (fun b m => ?_) rfl ((r.clear np).keep (kxSame sm))⟩
    exact m.elim .inl fun ⟨_, _, e⟩ => .inr (ownD1_eq e).1⟩
  refine ps_go mp h.mono he2 ⟨C.same _ _ sm j, fun i b vs e => by obtain ⟨rfl, rfl⟩ := ownD1_eq e; exact upd_same⟩ (vPs_mono h.mono (fun l q kvs H2 k2 j2 r2 => ?_) q)
  have hp2 : H2 p = some (.dK []) := j2.2 0 p _ rfl
  refine ⟨hp2, kvs, rfl, by rw [r2.length]; exact q.1, ?_⟩
  have eH : upd H2 p (.dK (mergeK [] kvs)) = upd (fun b => if b = p then none else H2 b) p (.dK (mergeK [] kvs)) := by
    funext b
    unfold upd
    by_cases hb : b = p
    · rw [if_pos hb, if_pos hb]
    · rw [if_neg hb, if_neg hb]
      exact (if_neg hb).symm
  rw [eH]
  have ne1 : ∀ b, b ≠ p → (fun b => if b = p then none else H2 b) b = H2 b := fun b hb => if_neg hb
  refine q.2 p _ _ ⟨fun b xs eb => ?_, fun b o m eb => ?_⟩ (C.st H2 _ (fun b x eb => eb.cut hp2 fzDk ne1) (fun b o (m : C.M b) eb => ?_) j2.1) (if_pos rfl) ?_
  · exact (k2.1 b xs (eb.updN np)).cut hp2 fzDk ne1
  · have ne : b ≠ p := ne_of_none eb np
    rw [ne1 b ne]
    exact k2.2 b o (fun z => z.elim m fun ⟨_, _, e⟩ => ne (ownD1_eq e).1) (sm _ _ eb)
  · exact (ne1 b (fun z => mp (by rw [← z]; exact m))).trans eb
  · have kD : Kx (C.ext (ownD1 p (.dK []))) H2 (fun b => if b = p then none else H2 b) := ⟨fun b xs eb => eb.cut hp2 fzDk ne1, fun b o m eb => by rw [ne1 b (fun z => m (.inr ⟨0, .dK [], by rw [z]; rfl⟩))]; exact eb⟩
    exact DqL.sub (C1 := C.ext (ownD1 p (.dK []))) (C2 := C) (fun _ m => Or.inl m) rfl ((DqL.merge (.nil) r2).keep kD)
/-! an own list, of another list -/
theorem qf_listL {a : Expr} {ta : P0} {p : Pos} (hg : Gl X "list") (hm : X.mg "list" = none) (h : QE X C a ta) (hs : starEach [a] X.env = (false, eval a X.env) :: starEach [] X.env := by rfl) : QF X C (.Call (.Name "list" p) [a] [] pos) (fun ρ Q => ta ρ fun d => ∃ ds, d = .list ds ∧ Q ds) := by
  refine ⟨PE.weak (pe_callTy call_list_of hg hm (by decide +kernel) (pa_cons h.pe pa_nil hs) (he := hs)) fun σ H Q q => ?_, fun ρ Q Q' w q => h.mono _ _ _ (fun d ⟨l, e, q⟩ => ⟨l, e, w _ q⟩) q⟩
  obtain ⟨ρ, he, j, q⟩ := q
  refine ⟨ρ, he, j, h.mono _ _ _ (fun d ⟨ds, e, q⟩ v H1 k1 j1 r => ?_) q⟩
  subst e
  cases r with
  | @lst a xs _ n1 hH hr => exact ⟨a, xs, rfl, .inl (.inl (.inl hH)), fun p np => q p xs H1 k1 j1 np hr⟩
/-! a < b < c as a test -/
theorem qt_chain {a b c : Expr} {ta tb tc : P0} {op op' : CmpOp} {r r' : R0} (ho : OQ X C (compareOp op) r) (ho' : OQ X C (compareOp op') r') (ha : QE X C a ta) (hb : QE X C b tb) (hc : QE X C c tc)
    (hp : ∀ {ta tb tc : TE} {r r' : R2}, OpR X (compareOp op) r → OpR X (compareOp op') r' → PE X a ta → PE X b tb → PE X c tc → PT X (.Compare a [op, op'] [b, c] pos) (tTest (tChain r r' ta tb tc))) : QT X C (.Compare a [op, op'] [b, c] pos) (vT (vChain r r' ta tb tc)) := by
  refine ⟨PT.weak (hp ho.op ho'.op ha.pe hb.pe hc.pe) fun σ H Q h => ?_, fun ρ Q Q' w h => ha.mono _ _ _ (fun d1 h => hb.mono _ _ _ (fun d2 h => ho.mono _ _ _ _ (fun k ⟨z, e, q⟩ => ⟨z, e, ?_⟩) h) h) h⟩
  · obtain ⟨ρ, he, j, h⟩ := h
    refine ⟨ρ, he, j, ha.mono _ _ _ (fun d1 h1 v H1 k1 j1 r1 => ?_) h⟩
    refine ⟨ρ, he.keep k1, j1, hb.mono _ _ _ (fun d2 h2 u H2 k2 j2 r2 => ?_) h1⟩
    refine ⟨d1, d2, r1.keep k2, r2, j2, ho.mono _ _ _ _ (fun k ⟨z, e, q⟩ x H3 k3 j3 r3 => ?_) h2⟩
    subst e
    refine ⟨z, dq_bl r3, ?_⟩
    have k13 := k1.trans (k2.trans k3)
    cases z with
    | true => exact ⟨ρ, he.keep k13, j3, hc.mono _ _ _ (fun d3 h4 y H4 k4 j4 r4 => ⟨d2, d3, (r2.keep k3).keep k4, r4, j4, ho'.mono _ _ _ _ (fun d ⟨m, e, q⟩ v5 H5 k5 j5 r5 => by subst e; exact ⟨m, dq_bl r5, q H5 (k13.trans (k4.trans k5)) j5⟩) h4⟩) q⟩
    | false =>
      obtain ⟨m, e, q⟩ := q
      cases e
      exact ⟨false, rfl, q H3 k13 j3⟩
  · cases z with
    | true => exact hc.mono _ _ _ (fun d3 h => ho'.mono _ _ _ _ (fun d ⟨m, e, q⟩ => ⟨m, e, w m q⟩) h) q
    | false =>
      obtain ⟨m, e, q⟩ := q
      exact ⟨m, e, w m q⟩
end
end Kr

set_option Elab.async false
set_option linter.all false
set_option maxRecDepth 100000
set_option maxHeartbeats 1000000
namespace Kr
open PySem PySem.Spec PyProof.Rows L2
@[simp] theorem w_given_turn : (Str.ofString "given" = Str.ofString "turn") = False := eq_false (by decide +kernel)
@[simp] theorem v_given_turn : PyData.eqv (.str (Str.ofString "given")) (.str (Str.ofString "turn")) = false := by decide +kernel
@[simp] theorem w_given_through : (Str.ofString "given" = Str.ofString "through") = False := eq_false (by decide +kernel)
@[simp] theorem v_given_through : PyData.eqv (.str (Str.ofString "given")) (.str (Str.ofString "through")) = false := by decide +kernel
@[simp] theorem w_given_heads : (Str.ofString "given" = Str.ofString "heads") = False := eq_false (by decide +kernel)
@[simp] theorem v_given_heads : PyData.eqv (.str (Str.ofString "given")) (.str (Str.ofString "heads")) = false := by decide +kernel
@[simp] theorem w_given_rests : (Str.ofString "given" = Str.ofString "rests") = False := eq_false (by decide +kernel)
@[simp] theorem v_given_rests : PyData.eqv (.str (Str.ofString "given")) (.str (Str.ofString "rests")) = false := by decide +kernel
@[simp] theorem w_given_ring : (Str.ofString "given" = Str.ofString "ring") = False := eq_false (by decide +kernel)
@[simp] theorem v_given_ring : PyData.eqv (.str (Str.ofString "given")) (.str (Str.ofString "ring")) = false := by decide +kernel
@[simp] theorem w_given_q : (Str.ofString "given" = Str.ofString "?") = False := eq_false (by decide +kernel)
@[simp] theorem v_given_q : PyData.eqv (.str (Str.ofString "given")) (.str (Str.ofString "?")) = false := by decide +kernel
@[simp] theorem w_given_far : (Str.ofString "given" = Str.ofString "far") = False := eq_false (by decide +kernel)
@[simp] theorem v_given_far : PyData.eqv (.str (Str.ofString "given")) (.str (Str.ofString "far")) = false := by decide +kernel
@[simp] theorem v_given : PyData.eqv (.str (Str.ofString "given")) (.str (Str.ofString "given")) = true := by decide +kernel
@[simp] theorem w_turn_given : (Str.ofString "turn" = Str.ofString "given") = False := eq_false (by decide +kernel)
@[simp] theorem v_turn_given : PyData.eqv (.str (Str.ofString "turn")) (.str (Str.ofString "given")) = false := by decide +kernel
@[simp] theorem w_turn_through : (Str.ofString "turn" = Str.ofString "through") = False := eq_false (by decide +kernel)
@[simp] theorem v_turn_through : PyData.eqv (.str (Str.ofString "turn")) (.str (Str.ofString "through")) = false := by decide +kernel
@[simp] theorem w_turn_heads : (Str.ofString "turn" = Str.ofString "heads") = False := eq_false (by decide +kernel)
@[simp] theorem v_turn_heads : PyData.eqv (.str (Str.ofString "turn")) (.str (Str.ofString "heads")) = false := by decide +kernel
@[simp] theorem w_turn_rests : (Str.ofString "turn" = Str.ofString "rests") = False := eq_false (by decide +kernel)
@[simp] theorem v_turn_rests : PyData.eqv (.str (Str.ofString "turn")) (.str (Str.ofString "rests")) = false := by decide +kernel
@[simp] theorem w_turn_ring : (Str.ofString "turn" = Str.ofString "ring") = False := eq_false (by decide +kernel)
@[simp] theorem v_turn_ring : PyData.eqv (.str (Str.ofString "turn")) (.str (Str.ofString "ring")) = false := by decide +kernel
@[simp] theorem w_turn_q : (Str.ofString "turn" = Str.ofString "?") = False := eq_false (by decide +kernel)
@[simp] theorem v_turn_q : PyData.eqv (.str (Str.ofString "turn")) (.str (Str.ofString "?")) = false := by decide +kernel
@[simp] theorem w_turn_far : (Str.ofString "turn" = Str.ofString "far") = False := eq_false (by decide +kernel)
@[simp] theorem v_turn_far : PyData.eqv (.str (Str.ofString "turn")) (.str (Str.ofString "far")) = false := by decide +kernel
@[simp] theorem v_turn : PyData.eqv (.str (Str.ofString "turn")) (.str (Str.ofString "turn")) = true := by decide +kernel
@[simp] theorem w_through_given : (Str.ofString "through" = Str.ofString "given") = False := eq_false (by decide +kernel)
@[simp] theorem v_through_given : PyData.eqv (.str (Str.ofString "through")) (.str (Str.ofString "given")) = false := by decide +kernel
@[simp] theorem w_through_turn : (Str.ofString "through" = Str.ofString "turn") = False := eq_false (by decide +kernel)
@[simp] theorem v_through_turn : PyData.eqv (.str (Str.ofString "through")) (.str (Str.ofString "turn")) = false := by decide +kernel
@[simp] theorem w_through_heads : (Str.ofString "through" = Str.ofString "heads") = False := eq_false (by decide +kernel)
@[simp] theorem v_through_heads : PyData.eqv (.str (Str.ofString "through")) (.str (Str.ofString "heads")) = false := by decide +kernel
@[simp] theorem w_through_rests : (Str.ofString "through" = Str.ofString "rests") = False := eq_false (by decide +kernel)
@[simp] theorem v_through_rests : PyData.eqv (.str (Str.ofString "through")) (.str (Str.ofString "rests")) = false := by decide +kernel
@[simp] theorem w_through_ring : (Str.ofString "through" = Str.ofString "ring") = False := eq_false (by decide +kernel)
@[simp] theorem v_through_ring : PyData.eqv (.str (Str.ofString "through")) (.str (Str.ofString "ring")) = false := by decide +kernel
@[simp] theorem w_through_q : (Str.ofString "through" = Str.ofString "?") = False := eq_false (by decide +kernel)
@[simp] theorem v_through_q : PyData.eqv (.str (Str.ofString "through")) (.str (Str.ofString "?")) = false := by decide +kernel
@[simp] theorem w_through_far : (Str.ofString "through" = Str.ofString "far") = False := eq_false (by decide +kernel)
@[simp] theorem v_through_far : PyData.eqv (.str (Str.ofString "through")) (.str (Str.ofString "far")) = false := by decide +kernel
@[simp] theorem v_through : PyData.eqv (.str (Str.ofString "through")) (.str (Str.ofString "through")) = true := by decide +kernel
@[simp] theorem w_heads_given : (Str.ofString "heads" = Str.ofString "given") = False := eq_false (by decide +kernel)
@[simp] theorem v_heads_given : PyData.eqv (.str (Str.ofString "heads")) (.str (Str.ofString "given")) = false := by decide +kernel
@[simp] theorem w_heads_turn : (Str.ofString "heads" = Str.ofString "turn") = False := eq_false (by decide +kernel)
@[simp] theorem v_heads_turn : PyData.eqv (.str (Str.ofString "heads")) (.str (Str.ofString "turn")) = false := by decide +kernel
@[simp] theorem w_heads_through : (Str.ofString "heads" = Str.ofString "through") = False := eq_false (by decide +kernel)
@[simp] theorem v_heads_through : PyData.eqv (.str (Str.ofString "heads")) (.str (Str.ofString "through")) = false := by decide +kernel
@[simp] theorem w_heads_rests : (Str.ofString "heads" = Str.ofString "rests") = False := eq_false (by decide +kernel)
@[simp] theorem v_heads_rests : PyData.eqv (.str (Str.ofString "heads")) (.str (Str.ofString "rests")) = false := by decide +kernel
@[simp] theorem w_heads_ring : (Str.ofString "heads" = Str.ofString "ring") = False := eq_false (by decide +kernel)
@[simp] theorem v_heads_ring : PyData.eqv (.str (Str.ofString "heads")) (.str (Str.ofString "ring")) = false := by decide +kernel
@[simp] theorem w_heads_q : (Str.ofString "heads" = Str.ofString "?") = False := eq_false (by decide +kernel)
@[simp] theorem v_heads_q : PyData.eqv (.str (Str.ofString "heads")) (.str (Str.ofString "?")) = false := by decide +kernel
@[simp] theorem w_heads_far : (Str.ofString "heads" = Str.ofString "far") = False := eq_false (by decide +kernel)
@[simp] theorem v_heads_far : PyData.eqv (.str (Str.ofString "heads")) (.str (Str.ofString "far")) = false := by decide +kernel
@[simp] theorem v_heads : PyData.eqv (.str (Str.ofString "heads")) (.str (Str.ofString "heads")) = true := by decide +kernel
@[simp] theorem w_rests_given : (Str.ofString "rests" = Str.ofString "given") = False := eq_false (by decide +kernel)
@[simp] theorem v_rests_given : PyData.eqv (.str (Str.ofString "rests")) (.str (Str.ofString "given")) = false := by decide +kernel
@[simp] theorem w_rests_turn : (Str.ofString "rests" = Str.ofString "turn") = False := eq_false (by decide +kernel)
@[simp] theorem v_rests_turn : PyData.eqv (.str (Str.ofString "rests")) (.str (Str.ofString "turn")) = false := by decide +kernel
@[simp] theorem w_rests_through : (Str.ofString "rests" = Str.ofString "through") = False := eq_false (by decide +kernel)
@[simp] theorem v_rests_through : PyData.eqv (.str (Str.ofString "rests")) (.str (Str.ofString "through")) = false := by decide +kernel
@[simp] theorem w_rests_heads : (Str.ofString "rests" = Str.ofString "heads") = False := eq_false (by decide +kernel)
@[simp] theorem v_rests_heads : PyData.eqv (.str (Str.ofString "rests")) (.str (Str.ofString "heads")) = false := by decide +kernel
@[simp] theorem w_rests_ring : (Str.ofString "rests" = Str.ofString "ring") = False := eq_false (by decide +kernel)
@[simp] theorem v_rests_ring : PyData.eqv (.str (Str.ofString "rests")) (.str (Str.ofString "ring")) = false := by decide +kernel
@[simp] theorem w_rests_q : (Str.ofString "rests" = Str.ofString "?") = False := eq_false (by decide +kernel)
@[simp] theorem v_rests_q : PyData.eqv (.str (Str.ofString "rests")) (.str (Str.ofString "?")) = false := by decide +kernel
@[simp] theorem w_rests_far : (Str.ofString "rests" = Str.ofString "far") = False := eq_false (by decide +kernel)
@[simp] theorem v_rests_far : PyData.eqv (.str (Str.ofString "rests")) (.str (Str.ofString "far")) = false := by decide +kernel
@[simp] theorem v_rests : PyData.eqv (.str (Str.ofString "rests")) (.str (Str.ofString "rests")) = true := by decide +kernel
@[simp] theorem w_ring_given : (Str.ofString "ring" = Str.ofString "given") = False := eq_false (by decide +kernel)
@[simp] theorem v_ring_given : PyData.eqv (.str (Str.ofString "ring")) (.str (Str.ofString "given")) = false := by decide +kernel
@[simp] theorem w_ring_turn : (Str.ofString "ring" = Str.ofString "turn") = False := eq_false (by decide +kernel)
@[simp] theorem v_ring_turn : PyData.eqv (.str (Str.ofString "ring")) (.str (Str.ofString "turn")) = false := by decide +kernel
@[simp] theorem w_ring_through : (Str.ofString "ring" = Str.ofString "through") = False := eq_false (by decide +kernel)
@[simp] theorem v_ring_through : PyData.eqv (.str (Str.ofString "ring")) (.str (Str.ofString "through")) = false := by decide +kernel
@[simp] theorem w_ring_heads : (Str.ofString "ring" = Str.ofString "heads") = False := eq_false (by decide +kernel)
@[simp] theorem v_ring_heads : PyData.eqv (.str (Str.ofString "ring")) (.str (Str.ofString "heads")) = false := by decide +kernel
@[simp] theorem w_ring_rests : (Str.ofString "ring" = Str.ofString "rests") = False := eq_false (by decide +kernel)
@[simp] theorem v_ring_rests : PyData.eqv (.str (Str.ofString "ring")) (.str (Str.ofString "rests")) = false := by decide +kernel
@[simp] theorem w_ring_q : (Str.ofString "ring" = Str.ofString "?") = False := eq_false (by decide +kernel)
@[simp] theorem v_ring_q : PyData.eqv (.str (Str.ofString "ring")) (.str (Str.ofString "?")) = false := by decide +kernel
@[simp] theorem w_ring_far : (Str.ofString "ring" = Str.ofString "far") = False := eq_false (by decide +kernel)
@[simp] theorem v_ring_far : PyData.eqv (.str (Str.ofString "ring")) (.str (Str.ofString "far")) = false := by decide +kernel
@[simp] theorem v_ring : PyData.eqv (.str (Str.ofString "ring")) (.str (Str.ofString "ring")) = true := by decide +kernel
@[simp] theorem w_q_given : (Str.ofString "?" = Str.ofString "given") = False := eq_false (by decide +kernel)
@[simp] theorem v_q_given : PyData.eqv (.str (Str.ofString "?")) (.str (Str.ofString "given")) = false := by decide +kernel
@[simp] theorem w_q_turn : (Str.ofString "?" = Str.ofString "turn") = False := eq_false (by decide +kernel)
@[simp] theorem v_q_turn : PyData.eqv (.str (Str.ofString "?")) (.str (Str.ofString "turn")) = false := by decide +kernel
@[simp] theorem w_q_through : (Str.ofString "?" = Str.ofString "through") = False := eq_false (by decide +kernel)
@[simp] theorem v_q_through : PyData.eqv (.str (Str.ofString "?")) (.str (Str.ofString "through")) = false := by decide +kernel
@[simp] theorem w_q_heads : (Str.ofString "?" = Str.ofString "heads") = False := eq_false (by decide +kernel)
@[simp] theorem v_q_heads : PyData.eqv (.str (Str.ofString "?")) (.str (Str.ofString "heads")) = false := by decide +kernel
@[simp] theorem w_q_rests : (Str.ofString "?" = Str.ofString "rests") = False := eq_false (by decide +kernel)
@[simp] theorem v_q_rests : PyData.eqv (.str (Str.ofString "?")) (.str (Str.ofString "rests")) = false := by decide +kernel
@[simp] theorem w_q_ring : (Str.ofString "?" = Str.ofString "ring") = False := eq_false (by decide +kernel)
@[simp] theorem v_q_ring : PyData.eqv (.str (Str.ofString "?")) (.str (Str.ofString "ring")) = false := by decide +kernel
@[simp] theorem w_q_far : (Str.ofString "?" = Str.ofString "far") = False := eq_false (by decide +kernel)
@[simp] theorem v_q_far : PyData.eqv (.str (Str.ofString "?")) (.str (Str.ofString "far")) = false := by decide +kernel
@[simp] theorem v_q : PyData.eqv (.str (Str.ofString "?")) (.str (Str.ofString "?")) = true := by decide +kernel
@[simp] theorem w_far_given : (Str.ofString "far" = Str.ofString "given") = False := eq_false (by decide +kernel)
@[simp] theorem v_far_given : PyData.eqv (.str (Str.ofString "far")) (.str (Str.ofString "given")) = false := by decide +kernel
@[simp] theorem w_far_turn : (Str.ofString "far" = Str.ofString "turn") = False := eq_false (by decide +kernel)
@[simp] theorem v_far_turn : PyData.eqv (.str (Str.ofString "far")) (.str (Str.ofString "turn")) = false := by decide +kernel
@[simp] theorem w_far_through : (Str.ofString "far" = Str.ofString "through") = False := eq_false (by decide +kernel)
@[simp] theorem v_far_through : PyData.eqv (.str (Str.ofString "far")) (.str (Str.ofString "through")) = false := by decide +kernel
@[simp] theorem w_far_heads : (Str.ofString "far" = Str.ofString "heads") = False := eq_false (by decide +kernel)
@[simp] theorem v_far_heads : PyData.eqv (.str (Str.ofString "far")) (.str (Str.ofString "heads")) = false := by decide +kernel
@[simp] theorem w_far_rests : (Str.ofString "far" = Str.ofString "rests") = False := eq_false (by decide +kernel)
@[simp] theorem v_far_rests : PyData.eqv (.str (Str.ofString "far")) (.str (Str.ofString "rests")) = false := by decide +kernel
@[simp] theorem w_far_ring : (Str.ofString "far" = Str.ofString "ring") = False := eq_false (by decide +kernel)
@[simp] theorem v_far_ring : PyData.eqv (.str (Str.ofString "far")) (.str (Str.ofString "ring")) = false := by decide +kernel
@[simp] theorem w_far_q : (Str.ofString "far" = Str.ofString "?") = False := eq_false (by decide +kernel)
@[simp] theorem v_far_q : PyData.eqv (.str (Str.ofString "far")) (.str (Str.ofString "?")) = false := by decide +kernel
@[simp] theorem v_far : PyData.eqv (.str (Str.ofString "far")) (.str (Str.ofString "far")) = true := by decide +kernel
theorem cut_from1 {α : Type} (x : α) (xs : List α) : cutG (x :: xs) (some 1) none = xs := by
  unfold cutG
  rw [HT.sIx_none, show (1 : Int) = ((1 : Nat) : Int) from rfl, HT.sIx_nat]
  have : min 1 (x :: xs).length = 1 := by simp
  rw [this]
  simp
theorem at_h {α : Type} (x : α) (xs : List α) : L2.atI (x :: xs) 0 = some x := atI_nat (j := 0) rfl
theorem at_h2 {α : Type} (x y : α) (xs : List α) : L2.atI (x :: y :: xs) 1 = some y := atI_nat (j := 1) rfl
theorem at_h3 {α : Type} (x y z : α) (xs : List α) : L2.atI (x :: y :: z :: xs) 2 = some z := atI_nat (j := 2) rfl
theorem eqv_tt (x y : PyData) (xs ys : List PyData) : PyData.eqv (.tuple (x :: xs)) (.tuple (y :: ys)) = (PyData.eqv x y && PyData.eqv (.tuple xs) (.tuple ys)) := by
  simp [PyData.eqv, PyData.eqvAll]
theorem eqv_tn (x : PyData) (xs : List PyData) : PyData.eqv (.tuple (x :: xs)) (.tuple []) = false := by
  simp [PyData.eqv, PyData.eqvAll]
theorem eqv_nn : PyData.eqv (.tuple []) (.tuple []) = true := by
  simp [PyData.eqv, PyData.eqvAll]
theorem eqv_nt (x : PyData) (xs : List PyData) : PyData.eqv (.tuple []) (.tuple (x :: xs)) = false := by
  simp [PyData.eqv, PyData.eqvAll]
end Kr

set_option Elab.async false
set_option linter.all false
set_option maxRecDepth 100000
set_option maxHeartbeats 4000000
namespace Kr
open PySem PySem.Spec PyProof.Rows L2
section
variable {X : Cx} {C : Cz} {pos : Pos} {Ow : List Nat}
/-! x = [.. for ..], x an own list -/
@[simp] def sOwnLc (Ow : List Nat) (k : Nat) (t : P0) : P0S := fun D ρ => t (hide Ow ρ) fun d => ∃ ds, d = .list ds ∧ k < ρ.length ∧ D.nx (ρ.set k (some (.list ds)))
theorem qs_ownLc {k : Nat} {y : Str} {py spos : Pos} {elt tg iter : Expr} {ifs : List Expr} {scope : Scope} {own : List (Str × Nat)} {ti : P0A} {dec : Dec} {G : TG} {tt : P0T} {te : P0} (hk : k ∈ Ow) (hy : X.N[k]? = some y) (hyl : X.env.scope.names.lookup y = some .local)
    (hsw : swapsWith (.ListComp elt [⟨tg, iter, ifs, 0⟩] scope pos) (some (.Name y py)) spos.line X.env = pure true) (hc : X.calm = true) (hN : X.N.Nodup) (hi : ∀ C2, Ext C C2 → QI X C2 tg iter ti) (ok : BlkOk X.N X.env.scope scope own)
    (hg : ∀ (C2 : Cz) (s : Shared) (H : Hp) (Cc : Addr) (cl : List (Str × Addr)) (fp : List Addr), QG (X.blk s H scope (compEnvC scope cl Cc X.env) fp) X.K C2 tg G dec) (ht : ∀ C2, Ext C C2 → ∀ (s : Shared) (H : Hp) (Cc : Addr) (cl : List (Str × Addr)) (fp : List Addr), QTs (X.blk s H scope (compEnvC scope cl Cc X.env) fp) C2 ifs tt)
    (he : ∀ C2, Ext C C2 → ∀ (s : Shared) (H : Hp) (Cc : Addr) (cl : List (Str × Addr)) (fp : List Addr), QE (X.blk s H scope (compEnvC scope cl Cc X.env) fp) C2 elt te) (hs : ∀ x, foldedSetIterable iter X.env x = pure x := by intro _; rfl) :
    QS X C Ow (.Assign [.Name y py] (.ListComp elt [⟨tg, iter, ifs, 0⟩] scope pos) spos) (sOwnLc Ow k (vLc (own.map (·.2)) ti dec tt te)) := by
  have am : ∀ ρ Q Q', (∀ d, Q d → Q' d) → tt ρ Q → tt ρ Q' := (ht C Ext.refl X.s_0 (fun _ => none) 0 [] []).mono
  have bm : ∀ ρ Q Q', (∀ d, Q d → Q' d) → te ρ Q → te ρ Q' := (he C Ext.refl X.s_0 (fun _ => none) 0 [] []).mono
  have gm := fun C2 => (hg C2 X.s_0 (fun _ => none) 0 [] []).go
  have mono : ∀ ρ Q Q', (∀ d, Q d → Q' d) → vLc (own.map (·.2)) ti dec tt te ρ Q → vLc (own.map (·.2)) ti dec tt te ρ Q' := fun ρ Q Q' w h => (hi C Ext.refl).mono _ _ _ (fun ds q => lcGo_mono am bm w ds _ q) h
  refine ⟨fun H0 w0 => ⟨fun pins sh σ H D I q => ?_⟩, fun ρ D D' q l => mono _ _ _ (fun d ⟨ds, e, hl, q⟩ => ⟨ds, e, hl, l.1 _ q⟩) q⟩
  obtain ⟨ρ, w, s, q⟩ := q
  obtain ⟨hE, hj⟩ := s.envX
  have x := extE s.dis
  refine (ps_setLc hc hN hy hyl hsw (hi _ x).pi ok (fun s H c cl fp => (hg C s H c cl fp).pg) (fun s H c cl fp => PTs.ex fun C2 z => ht C2 (x.trans z) s H c cl fp) (fun s H c cl fp => PE.ex fun C2 z => he C2 (x.trans z) s H c cl fp) hs).run pins sh σ H D I ?_
  refine ⟨hide Ow ρ, hE, hj, (hi _ x).mono _ _ _ (fun ds q J H1 k1 j1 it => ?_) q⟩
  intro D' nD
  refine lc_core am bm gm (hE.keep k1) j1 it nD (lcGo_mono am bm (fun d q ys vs H' e k' j' hD r => ?_) _ _ q)
  obtain ⟨ds', e2, hl, q⟩ := q
  rw [e] at e2
  cases e2
  subst e
  have mD := freshM _ j1 nD
  have kk := k1.trans k'
  have nH : H D' = none := k1.free mD nD
  have ne1 : ∀ b, b ≠ D' → (fun b => if b = D' then none else H' b) b = H' b := fun b hb => if_neg hb
  have k2 : Kx (C.ext w) H (fun b => if b = D' then none else H' b) := ⟨fun b xs eb => (kk.1 b xs eb).cut hD fzLst ne1, fun b o m eb => (ne1 b (ne_of_none eb nH)).trans (kk.2 b o m eb)⟩
  have j2 : (C.ext w).J (fun b => if b = D' then none else H' b) := (C.ext w).st H' _ (fun b x eb => eb.cut hD fzLst ne1) (fun b o m eb => (ne1 b (fun z => mD (by rw [← z]; exact m))).trans eb) j'
  have s2 := s.keep (s.keepX k2 j2) j2.1
  have kD : Kx ((C.ext w).plus D') H' (fun b => if b = D' then none else H' b) := ⟨fun b xs eb => eb.cut hD fzLst ne1, fun b o m eb => (ne1 b (fun z => m (.inr z))).trans eb⟩
  have r2 : DqAll (C.ext w) (fun b => if b = D' then none else H' b) vs ys := DqAll.sub (C := (C.ext w).plus D') (C' := C.ext w) (fun _ m => Or.inl m) rfl (r.keep kD)
  have s3 := s2.own hl hk (p := D') (if_pos rfl) (.lst r2)
  have eH : upd (fun b => if b = D' then none else H' b) D' (.lst vs) = H' := by
    funext b
    unfold upd
    by_cases hb : b = D'
    · rw [if_pos hb, hb, hD]
    · rw [if_neg hb]
      exact if_neg hb
  rw [eH] at s3
  exact q _ H' _ s3
/-! enumerate of a list -/
theorem qi_enumL {a : Expr} {ta : P0} {p tpos : Pos} {elts : List Expr} {kk : Nat} (hg : Gl X "enumerate") (hm : X.mg "enumerate" = none) (h : QE X C a ta) (hs : starEach [a] X.env = [(false, eval a X.env)] := by rfl) (hs2 : starEach [a] X.env = (false, eval a X.env) :: starEach [] X.env := by rfl) :
    QI X C (.Tuple elts kk tpos) (.Call (.Name "enumerate" p) [a] [] pos) (fun ρ Q => ta ρ fun d => ∃ ds, d = .list ds ∧ Q (enumD ds)) := by
  refine ⟨PI.weak (pi_enum hg hm (pa_cons h.pe pa_nil hs2) hs) fun σ H R q => ?_, fun ρ Q Q' w q => h.mono _ _ _ (fun d ⟨ds, e, q⟩ => ⟨ds, e, w _ q⟩) q⟩
  obtain ⟨ρ, he, j, q⟩ := q
  refine ⟨ρ, he, j, h.mono _ _ _ (fun d ⟨ds, e, q⟩ v H' k1 j1 r => ?_) q⟩
  subst e
  cases r with
  | @lst a xs _ n1 hH hr =>
    refine ⟨a, xs, rfl, .inl (.inl hH), q _ H' k1 j1 fun i H2 k2 => ?_⟩
    have hH2 := k2.2 _ _ n1 hH
    have hl := hr.length
    refine ⟨fun e => ⟨xs, .inl (.inl hH2), ?_⟩, fun d e => ?_⟩
    · unfold enumD at e
      rw [List.length_mapIdx] at e
      omega
    · unfold enumD at e
      rw [List.getElem?_mapIdx] at e
      cases ed : ds[i]? with
      | none =>
        rw [ed] at e
        cases e
      | some d0 =>
        rw [ed] at e
        cases e
        obtain ⟨x, hx, hd⟩ := hr.get ed
        refine ⟨⟨xs, x, .inl (.inl hH2), hx⟩, fun y H3 hy => ?_⟩
        obtain ⟨T, x', rfl, nT, rfl, hy⟩ := hy
        have : x' = x := Option.some.inj ((hy xs (.inl (.inl hH2))).symm.trans hx)
        subst this
        have sm : Same H2 (upd H2 T (.tup [.int (i : Nat), x'])) := same_upd nT
        exact ⟨sm, fun C2 f => .tw upd_same (.cons (.int _) (.cons (hd.carry (k2.trans (kxSame sm)) f) .nil))⟩
end
end Kr

set_option Elab.async false
set_option linter.all false
set_option maxRecDepth 100000
set_option maxHeartbeats 4000000
namespace Kr
open PySem PySem.Spec PyProof.Rows L2
abbrev s_parted : Stmt := topS 14
theorem sc_parted : FnScope ["term", "heads", "end"] ["term"] (defScope s_parted) := ⟨rfl, rfl, rfl, by decide +kernel, rfl, by decide +kernel, by decide +kernel⟩
abbrev s_joined : Stmt := topS 15
theorem sc_joined : FnScope ["heads", "end", "term", "head"] ["heads", "end"] (defScope s_joined) := ⟨rfl, rfl, rfl, by decide +kernel, rfl, by decide +kernel, by decide +kernel⟩
abbrev s_with_terms : Stmt := topS 13
theorem sc_with_terms : FnScope ["term", "table", "heads", "end", "head"] ["term", "table"] (defScope s_with_terms) := ⟨rfl, rfl, rfl, by decide +kernel, rfl, by decide +kernel, by decide +kernel⟩
/-! terms, loosely -/
def tm : PyData → Bool
  | .int _ => true
  | .str z => decide (z.length ≤ 100000)
  | .tuple [] => true
  | .tuple [a, b] => if isQ a then isWhole b else tm a && tm b
  | _ => false
def hds : PyData → List PyData
  | .tuple [a, b] => if isQ a then [] else a :: hds b
  | _ => []
def lst : PyData → PyData
  | .tuple [a, b] => if isQ a then .tuple [a, b] else lst b
  | d => d
theorem isQ_is {a : PyData} (h : isQ a = true) : a = .str "?" := by
  cases a with
  | str z =>
    unfold isQ PyData.eqv at h
    rw [beq_iff_eq.mp h]
  | _ => simp [isQ, PyData.eqv] at h
theorem whole_is {b : PyData} (h : isWhole b = true) : ∃ n, b = .int n := by
  cases b with
  | int n => exact ⟨n, rfl⟩
  | _ => cases h
theorem tm_pair {a b : PyData} (h : tm (.tuple [a, b]) = true) (q : isQ a = false) : tm a = true ∧ tm b = true := by
  unfold tm at h
  rw [q] at h
  simpa using h
theorem tm_uk {a b : PyData} (h : tm (.tuple [a, b]) = true) (q : isQ a = true) : a = .str "?" ∧ ∃ n, b = .int n := by
  unfold tm at h
  rw [q] at h
  exact ⟨isQ_is q, whole_is (by simpa using h)⟩
theorem tm_cl : ∀ {d : PyData}, tm d = true → cl d = true
  | .int _, _ => rfl
  | .str z, h => h
  | .tuple [], _ => rfl
  | .tuple [a, b], h => by
    show (cl a && (cl b && true)) = true
    cases q : isQ a
    · obtain ⟨h1, h2⟩ := tm_pair h q
      rw [tm_cl h1, tm_cl h2]
      rfl
    · obtain ⟨rfl, n, rfl⟩ := tm_uk h q
      show (cl (.str "?") && (true && true)) = true
      decide +kernel
theorem tm_noL : ∀ {d : PyData}, tm d = true → noL d = true
  | .int _, _ => rfl
  | .str z, h => rfl
  | .tuple [], _ => rfl
  | .tuple [a, b], h => by
    show (noL a && (noL b && true)) = true
    cases q : isQ a
    · obtain ⟨h1, h2⟩ := tm_pair h q
      rw [tm_noL h1, tm_noL h2]
      rfl
    · obtain ⟨rfl, n, rfl⟩ := tm_uk h q
      rfl
theorem isPr_is {e : PyData} (h : isPr e = true) : ∃ a b, e = .tuple [a, b] ∧ isQ a = false := by
  match e, h with
  | .tuple [a, b], h => exact ⟨a, b, rfl, by simpa [isPr] using h⟩
  | .tuple [], h => cases h
  | .tuple [_], h => cases h
  | .tuple (_ :: _ :: _ :: _), h => cases h
theorem noPr {e : PyData} (h : isPr e = false) : hds e = [] ∧ lst e = e := by
  match e, h with
  | .tuple [a, b], h =>
    have q : isQ a = true := by simpa [isPr] using h
    simp [hds, lst, q]
  | .tuple [], _ => exact ⟨rfl, rfl⟩
  | .tuple [_], _ => exact ⟨rfl, rfl⟩
  | .tuple (_ :: _ :: _ :: _), _ => exact ⟨rfl, rfl⟩
  | .none, _ => exact ⟨rfl, rfl⟩
  | .bool _, _ => exact ⟨rfl, rfl⟩
  | .int _, _ => exact ⟨rfl, rfl⟩
  | .str _, _ => exact ⟨rfl, rfl⟩
  | .list _, _ => exact ⟨rfl, rfl⟩
  | .dict _, _ => exact ⟨rfl, rfl⟩
theorem hds_pair {a b : PyData} (q : isQ a = false) : hds (.tuple [a, b]) = a :: hds b ∧ lst (.tuple [a, b]) = lst b := by simp [hds, lst, q]
theorem bulk_pair (a b : PyData) : (PyData.tuple [a, b]).bulk = a.bulk + b.bulk + 2 := by
  show a.bulk + 1 + (b.bulk + 1 + 0) = _
  omega
section
variable {P : Program} {w : World} {K : PySem.W.Frag} {mg : Str → Option Value} {base : Heap} {n : Nat}
theorem c_parted (B : Bl mg) (D : Dfn K mg "parted" s_parted ["term"]) (c_is_pair : Cal P w K mg base n "is_pair" ["thing"] (spQ Any (p1 fun x => cl x = true) (b1 isPr))) :
    Cal P w K mg base (n + 1) "parted" ["term"] (spQ Any (p1 fun x => tm x = true ∧ x.bulk ≤ 400000) (r1 fun x => .tuple [.list (hds x), lst x])) := by
  refine defG [1] D sc_parted len1 (by simp) (fun f C hG cdv A outer s H E g0 hr => ⟨_, (qss_cons (qs_own (k := 1) (by decide) sc_parted.nd rfl (by first | exact Or.inl rfl | exact Or.inr rfl) (fun _ x1 => (qf_lst qa_nil))) (qss_cons (qs_setX (k := 2) (by decide) sc_parted.nd rfl (by first | exact Or.inl rfl | exact Or.inr rfl) (fun _ x2 => (qv 0))) (qss_cons (qs_while PassesOwn.never (qt_val (qe_cal c_is_pair trivial g0 hr (by rfl) (qa_cons (qv 2) qa_nil))) (qss_cons (qs_append (k := 1) (fun _ h => pe_bm PySem.F.plainAttrs_list PySem.F.slot_list_append PySem.F.type_list_append mt_append (pv 1) (pa_cons h pa_nil)) (fun _ x3 => (qe_ix (qv 2) qe_int (fun _ _ => rfl)))) (qss_one (qs_setX (k := 2) (by decide) sc_parted.nd rfl (by first | exact Or.inl rfl | exact Or.inr rfl) (fun _ x4 => (qe_ix (qv 2) qe_int (fun _ _ => rfl))))))) (qss_free 1 (qss_one (qs_ret (qe_tup (qa_cons (qv 1) (qa_cons (qv 2) qa_nil))))))))), ?_⟩)
  rintro _ ⟨x, rfl, hx, hb⟩
  simp [hide]
  refine ⟨fun m ρ => ∃ acc e, ρ = [some x, some (.list acc), some e] ∧ m = e.bulk ∧ tm e = true ∧ acc ++ hds e = hds x ∧ lst e = lst x ∧ acc.length + e.bulk ≤ 400000, ⟨_, [], x, rfl, rfl, hx, rfl, rfl, by simpa using hb⟩, ?_⟩
  rintro m ρ ⟨acc, e, rfl, rfl, he, hh, hl, hz⟩
  simp [tm_cl he]
  cases hp : isPr e with
  | false =>
    obtain ⟨n1, n2⟩ := noPr hp
    rw [n1, List.append_nil] at hh
    rw [n2] at hl
    subst hh hl
    simp <;> decide
  | true =>
    obtain ⟨a, b, rfl, q⟩ := isPr_is hp
    obtain ⟨ta, tb⟩ := tm_pair he q
    obtain ⟨h1, h2⟩ := hds_pair (b := b) q
    rw [h1] at hh
    rw [h2] at hl
    rw [bulk_pair] at hz
    simp
    refine ⟨Nat.lt_of_le_of_lt (show acc.length ≤ 400000 by omega) (by decide), .tuple [a, b], rfl, a, rfl, .tuple [a, b], rfl, b, rfl, _, ?_, acc ++ [a], b, ⟨rfl, rfl⟩, rfl, tb, by simpa using hh, hl, ?_⟩
    · rw [bulk_pair]
      omega
    · rw [List.length_append]
      show acc.length + 1 + b.bulk ≤ _
      omega
theorem c_joined (B : Bl mg) (D : Dfn K mg "joined" s_joined ["heads", "end"]) :
    Cal P w K mg base (n + 1) "joined" ["heads", "end"] (spQ Any (fun ds => ∃ hs e, ds = [.list hs, e]) (fun ds d => ∃ hs e, ds = [.list hs, e] ∧ d = hs.foldr (fun h t => .tuple [h, t]) e)) := by
  refine defG [] D sc_joined (by rintro _ ⟨hs, e, rfl⟩; rfl) (by simp) (fun f C hG cdv A outer s H E g0 hr => ⟨_, (qss_cons (qs_setX (k := 2) (by decide) sc_joined.nd rfl (by first | exact Or.inl rfl | exact Or.inr rfl) (fun _ x1 => (qv 1))) (qss_cons (qs_for (G := (gName 3)) (dec := (dName 3)) PassesOwn.never rfl (fun _ x2 => (qi_rev (by rfl) B.reversed (qv 0))) (fun _ => (qg_name (k := 3) sc_joined.nd rfl (by first | exact Or.inl rfl | exact Or.inr rfl))) (qss_one (qs_setX (k := 2) (by decide) sc_joined.nd rfl (by first | exact Or.inl rfl | exact Or.inr rfl) (fun _ x3 => (qe_tup (qa_cons (qv 3) (qa_cons (qv 2) qa_nil))))))) (qss_one (qs_ret (qv 2))))), ?_⟩)
  rintro _ ⟨hs, e, rfl⟩
  simp [and_assoc, hide]
  refine ⟨_, rfl, hs, .inl rfl, fun i ρ => ∃ hd, ρ = [some (.list hs), some e, some ((hs.reverse.take i).foldl (fun t h => .tuple [h, t]) e), hd], ⟨none, rfl⟩, ?_⟩
  rintro i ρ ⟨hd, rfl⟩
  refine ⟨fun ei => ?_, fun d ed => ⟨_, rfl, by simp, ?_⟩⟩
  · subst ei
    simp
    rw [← List.length_reverse, List.take_length, List.foldl_reverse]
  · simp
    rw [List.take_add_one, ed, List.foldl_append]
    first | exact ⟨by decide, rfl⟩ | exact rfl
/-! with_terms -/
def wt (l : DL) : PyData → PyData
  | .tuple [a, b] => if isQ a then (match b with | .int n => (valG l (.inl n)).getD (.tuple [a, b]) | _ => .tuple [a, b]) else .tuple [wt l a, wt l b]
  | d => d
def tbOk (l : DL) : Bool := noLs (l.map (·.2))
def preW (d : Nat) : List PyData → Prop := fun ds => ∃ x l, ds = [x, dD l] ∧ tm x = true ∧ x.bulk ≤ 400000 ∧ x.depth ≤ d ∧ tbOk l = true
def preP : Nat → List PyData → Prop
  | 0 => fun _ => False
  | d + 1 => preW d
def resW : List PyData → PyData → Prop := fun ds r => ∃ x l, ds = [x, dD l] ∧ r = wt l x
theorem depth_pair (a b : PyData) : (PyData.tuple [a, b]).depth = max a.depth b.depth + 1 := by
  show max a.depth (max b.depth 0) + 1 = _
  rw [Nat.max_zero]
theorem hds_tm : ∀ {x : PyData}, tm x = true → ∀ h ∈ hds x, tm h = true ∧ h.bulk ≤ x.bulk ∧ h.depth + 1 ≤ x.depth
  | .int _, _, h, m => absurd m List.not_mem_nil
  | .str _, _, h, m => absurd m List.not_mem_nil
  | .tuple [], _, h, m => absurd m List.not_mem_nil
  | .tuple [a, b], hx, h, m => by
    rw [bulk_pair, depth_pair]
    cases q : isQ a
    · obtain ⟨h1, h2⟩ := tm_pair hx q
      rw [(hds_pair q).1] at m
      rcases List.mem_cons.mp m with rfl | m
      · exact ⟨h1, by omega, by omega⟩
      · have := hds_tm h2 h m
        exact ⟨this.1, by omega, by omega⟩
    · simp [hds, q] at m
theorem hds_len : ∀ x : PyData, (hds x).length ≤ x.bulk
  | .tuple [a, b] => by
    have := hds_len b
    rw [bulk_pair]
    cases q : isQ a
    · rw [(hds_pair q).1, List.length_cons]
      omega
    · simp [hds, q]
  | .tuple [] => Nat.zero_le _
  | .tuple [_] => Nat.zero_le _
  | .tuple (_ :: _ :: _ :: _) => Nat.zero_le _
  | .none => Nat.zero_le _
  | .bool _ => Nat.zero_le _
  | .int _ => Nat.zero_le _
  | .str _ => Nat.zero_le _
  | .list _ => Nat.zero_le _
  | .dict _ => Nat.zero_le _
theorem lst_tm : ∀ {x : PyData}, tm x = true → tm (lst x) = true ∧ isPr (lst x) = false
  | .int _, _ => ⟨rfl, rfl⟩
  | .str _, h => ⟨h, rfl⟩
  | .tuple [], _ => ⟨rfl, rfl⟩
  | .tuple [a, b], hx => by
    cases q : isQ a
    · rw [(hds_pair q).2]
      exact lst_tm (tm_pair hx q).2
    · rw [show lst (.tuple [a, b]) = .tuple [a, b] by simp [lst, q]]
      exact ⟨hx, by simp [isPr, q]⟩
theorem wt_pair {l : DL} {a b : PyData} (q : isQ a = false) : wt l (.tuple [a, b]) = .tuple [wt l a, wt l b] := by simp [wt, q]
theorem wt_join (l : DL) : ∀ {x : PyData}, tm x = true → ((hds x).map (wt l)).foldr (fun h t => .tuple [h, t]) (wt l (lst x)) = wt l x
  | .int _, _ => rfl
  | .str _, _ => rfl
  | .tuple [], _ => rfl
  | .tuple [a, b], hx => by
    cases q : isQ a
    · rw [(hds_pair q).1, (hds_pair q).2, wt_pair q, List.map_cons, List.foldr_cons, wt_join l (tm_pair hx q).2]
    · rw [show lst (.tuple [a, b]) = .tuple [a, b] by simp [lst, q], show hds (.tuple [a, b]) = [] by simp [hds, q]]
      rfl
theorem wt_leaf {l : DL} {e : PyData} (h1 : isPr e = false) (h2 : isMk e = false) : wt l e = e := by
  match e, h1, h2 with
  | .tuple [a, b], h1, h2 =>
    have q : isQ a = true := by simpa [isPr] using h1
    have q2 : isQ a = false := by simpa [isMk] using h2
    rw [q] at q2
    cases q2
  | .tuple [], _, _ => rfl
  | .tuple [_], _, _ => rfl
  | .tuple (_ :: _ :: _ :: _), _, _ => rfl
  | .none, _, _ => rfl
  | .bool _, _, _ => rfl
  | .int _, _, _ => rfl
  | .str _, _, _ => rfl
  | .list _, _, _ => rfl
  | .dict _, _, _ => rfl
theorem tb_val {l : DL} (h : tbOk l = true) {k : Key} {d : PyData} (e : valG l k = some d) : noL d = true := by
  unfold valG at e
  cases ef : l.find? (fun kv => decide (kv.1 = k)) with
  | none =>
    rw [ef] at e
    cases e
  | some p =>
    rw [ef] at e
    cases e
    have hm := List.mem_of_find?_eq_some ef
    have : ∀ xs : List PyData, noLs xs = true → ∀ x ∈ xs, noL x = true := by
      intro xs
      induction xs with
      | nil => intro _ x hx; cases hx
      | cons y ys ih =>
        intro hh x hx
        have hh' : (noL y && noLs ys) = true := hh
        rw [Bool.and_eq_true] at hh'
        rcases List.mem_cons.mp hx with rfl | hx
        · exact hh'.1
        · exact ih hh'.2 x hx
    exact this _ h _ (List.mem_map_of_mem hm)
theorem wt_noL {l : DL} (hl : tbOk l = true) : ∀ {x : PyData}, tm x = true → noL (wt l x) = true
  | .int _, _ => rfl
  | .str _, _ => rfl
  | .tuple [], _ => rfl
  | .tuple [a, b], hx => by
    cases q : isQ a
    · rw [wt_pair q]
      show (noL (wt l a) && (noL (wt l b) && true)) = true
      rw [wt_noL hl (tm_pair hx q).1, wt_noL hl (tm_pair hx q).2]
      rfl
    · have hn := tm_noL hx
      obtain ⟨rfl, n, rfl⟩ := tm_uk hx q
      rw [show wt l (.tuple [.str "?", .int n]) = (valG l (.inl n)).getD (.tuple [.str "?", .int n]) by simp [wt, q]]
      cases e : valG l (.inl n) with
      | none => exact hn
      | some d => exact tb_val hl e
theorem noLs_map {f : PyData → PyData} : ∀ {xs : List PyData}, (∀ x ∈ xs, noL (f x) = true) → noLs (xs.map f) = true
  | [], _ => rfl
  | x :: xs, h => by
    show (noL (f x) && noLs (xs.map f)) = true
    rw [h x (List.mem_cons_self ..), noLs_map fun y hy => h y (List.mem_cons_of_mem _ hy)]
    rfl
theorem preP_of {d : Nat} {x h : PyData} {l : DL} (hx : tm x = true) (hb : x.bulk ≤ 400000) (hd : x.depth ≤ d) (hl : tbOk l = true) (m : h ∈ hds x) : preP d [h, dD l] := by
  obtain ⟨h1, h2, h3⟩ := hds_tm hx h m
  cases d with
  | zero => omega
  | succ d => exact ⟨h, l, rfl, h1, by omega, by omega, hl⟩
theorem lc_wt {d : Nat} {x : PyData} {l : DL} {ρ : Rho} {Q : PyData → Prop} (hx : tm x = true) (hb : x.bulk ≤ 400000) (hd : x.depth ≤ d) (hl : tbOk l = true) (hρ : (∀ h, (ρ.set 4 (some h))[4]? = some (some h)) ∧ ρ[1]? = some (some (dD l)))
    (q : Q (.list ((hds x).map (wt l)))) : lcGo [4] (dName 4) wYes (vCall (fr (preP d) resW) (vCons (vVar 4) (vCons (vVar 1) vNil))) ρ Q (hds x) [] := by
  have hlen := hds_len x
  refine lc_go (fun h => some (wt l h)) _ _ (by show 0 + _ ≤ _; omega) (fun h m => ?_) ?_
  · refine ⟨[(4, h)], rfl, by simp, fun R hR => ?_⟩
    simp
    refine ⟨h, hρ.1 h, dD l, hρ.2, preP_of hx hb hd hl m, ?_⟩
    rintro r ⟨x', l', ee, rfl⟩
    have e1 := List.cons.inj ee
    have e2 := dD_inj (List.cons.inj e1.2).1
    rw [← e1.1, ← e2]
    exact hR
  · rw [List.nil_append, map_some]
    exact q
theorem s1_with_terms (d : Nat) (D : Dfn K mg "with_terms" s_with_terms ["term", "table"])
    (c_parted : Cal P w K mg base n "parted" ["term"] (spQ Any (p1 fun x => tm x = true ∧ x.bulk ≤ 400000) (r1 fun x => .tuple [.list (hds x), lst x])))
    (c_is_marked : Cal P w K mg base n "is_marked" ["thing"] (spQ Any (p1 fun x => cl x = true) (b1 isMk)))
    (c_joined : Cal P w K mg base n "joined" ["heads", "end"] (spQ Any (fun ds => ∃ hs e, ds = [.list hs, e]) (fun ds d => ∃ hs e, ds = [.list hs, e] ∧ d = hs.foldr (fun h t => .tuple [h, t]) e)))
    (c_with_terms : Cal P w K mg base (n + d) "with_terms" ["term", "table"] (spQ Any (preP d) resW)) :
    Cal P w K mg base (n + d + 1) "with_terms" ["term", "table"] (spQ Any (preW d) resW) := by
  have c_parted := c_parted.mono (show n ≤ n + d by omega)
  have c_is_marked := c_is_marked.mono (show n ≤ n + d by omega)
  have c_joined := c_joined.mono (show n ≤ n + d by omega)
  refine defG [] D sc_with_terms (by rintro _ ⟨x, l, rfl, _⟩; rfl) (by simp) (fun f C hG cdv A outer s H E g0 hr => ⟨_, (qss_cons (qs_asgX (G := (gTup K 2 (gNames [2, 3]))) (dec := (dTup [2, 3])) (fun _ x1 => (qe_cal c_parted trivial g0 hr (by rfl) (qa_cons (qv 0) qa_nil))) (fun _ => (qg_tup (ks := [2, 3]) (pg_tup rfl (pgs_cons (pg_name (i := 2) sc_with_terms.nd rfl (by first | exact Or.inl rfl | exact Or.inr rfl)) (pgs_cons (pg_name (i := 3) sc_with_terms.nd rfl (by first | exact Or.inl rfl | exact Or.inr rfl)) pgs_nil)))))) (qss_cons (qs_if (qt_val (qe_cal c_is_marked trivial g0 hr (by rfl) (qa_cons (qv 3) qa_nil))) (qss_one (qs_setX (k := 3) (by decide) sc_with_terms.nd rfl (by first | exact Or.inl rfl | exact Or.inr rfl) (fun _ x2 => (qe_dget2 (hu_of hr) (qv 1) (qe_ix (qv 3) qe_int (fun _ _ => rfl)) (qv 3) ⟨rfl, rfl, rfl, rfl⟩)))) qss_nil) (qss_one (qs_ret (qe_cal c_joined trivial g0 hr (by rfl) (qa_cons (qe_lc (own := [("head", 4)]) (G := (gName 4)) (dec := (dName 4)) rfl sc_with_terms.nd (qi_list (qv 2)) (blkOk_by (own := [("head", 4)]) (N := ["term", "table", "heads", "end", "head"]) (sc := defScope s_with_terms) (by decide +kernel)) (fun _ _ _ _ _ _ => (qg_name (k := 4) sc_with_terms.nd rfl (by first | exact Or.inl rfl | exact Or.inr rfl))) (fun _ x3 => (fun _ _ _ _ _ => qts_nil)) (fun _ x4 => (fun _ _ _ _ _ => (qe_cal c_with_terms trivial g0 hr (by rfl) (qa_cons (qv 4) (qa_cons (qv 1) qa_nil)))))) (qa_cons (qv 3) qa_nil))))))), ?_⟩)
  rintro _ ⟨x, l, rfl, hx, hb, hd, hl⟩
  obtain ⟨lt1, lt2⟩ := lst_tm hx
  simp [and_assoc, hide]
  refine ⟨hx, hb, [(2, .list (hds x)), (3, lst x)], rfl, lst x, rfl, tm_cl lt1, ?_⟩
  cases hm : isMk (lst x) with
  | false =>
    refine .inl ⟨rfl, .list (hds x), rfl, hds x, rfl, lc_wt hx hb hd hl ⟨fun h => rfl, rfl⟩ ⟨lst x, rfl, ⟨_, rfl⟩, ?_⟩⟩
    rintro r hs e rfl
    cases e
    refine ⟨x, l, rfl, ?_⟩
    rw [← wt_join l hx, wt_leaf lt2 hm]
  | true =>
    obtain ⟨a, n, ea, qa⟩ : ∃ a n, lst x = .tuple [a, .int n] ∧ isQ a = true := by
      match he : lst x, hm with
      | .tuple [a, b], hm =>
        rw [he] at lt1
        have q : isQ a = true := hm
        obtain ⟨_, n, rfl⟩ := tm_uk lt1 q
        exact ⟨a, n, rfl, q⟩
    have ew : wt l (lst x) = (valG l (.inl n)).getD (.tuple [a, .int n]) := by
      rw [ea]
      simp [wt, qa]
    refine .inr ⟨rfl, dD l, rfl, l, rfl, lst x, rfl, .int n, by rw [ea]; rfl, lst x, rfl, .inl n, rfl, .list (hds x), rfl, hds x, rfl, lc_wt hx hb hd hl ⟨fun h => rfl, rfl⟩ ⟨_, rfl, ⟨_, rfl⟩, ?_⟩⟩
    rintro r hs e rfl
    cases e
    refine ⟨x, l, rfl, ?_⟩
    rw [← wt_join l hx, ew, ea]
theorem c_with_terms (D : Dfn K mg "with_terms" s_with_terms ["term", "table"])
    (c_parted : Cal P w K mg base n "parted" ["term"] (spQ Any (p1 fun x => tm x = true ∧ x.bulk ≤ 400000) (r1 fun x => .tuple [.list (hds x), lst x])))
    (c_is_marked : Cal P w K mg base n "is_marked" ["thing"] (spQ Any (p1 fun x => cl x = true) (b1 isMk)))
    (c_joined : Cal P w K mg base n "joined" ["heads", "end"] (spQ Any (fun ds => ∃ hs e, ds = [.list hs, e]) (fun ds d => ∃ hs e, ds = [.list hs, e] ∧ d = hs.foldr (fun h t => .tuple [h, t]) e))) :
    ∀ d, Cal P w K mg base (n + d + 1) "with_terms" ["term", "table"] (spQ Any (preW d) resW)
  | 0 => s1_with_terms 0 D c_parted c_is_marked c_joined (Cal.no D)
  | d + 1 => s1_with_terms (d + 1) D c_parted c_is_marked c_joined (c_with_terms D c_parted c_is_marked c_joined d)
end
end Kr

set_option Elab.async false
set_option linter.all false
set_option maxRecDepth 100000
set_option maxHeartbeats 4000000
namespace Kr
open PySem PySem.Spec PyProof.Rows L2
abbrev s_is_row : Stmt := topS 18
theorem sc_is_row : FnScope ["thing", "number", "term"] ["thing"] (defScope s_is_row) := ⟨rfl, rfl, rfl, by decide +kernel, rfl, by decide +kernel, by decide +kernel⟩
abbrev s_is_filling : Stmt := topS 17
theorem sc_is_filling : FnScope ["thing", "row", "numbers", "number", "term", "one", "other", "filled"] ["thing"] (defScope s_is_filling) := ⟨rfl, rfl, rfl, by decide +kernel, rfl, by decide +kernel, by decide +kernel⟩
def isTm (d : PyData) : Bool := (leaves d).all isLeaf
def ukNo (d : PyData) : Int := match d with
  | .tuple [_, .int n] => n
  | _ => 0
def isRow : PyData → Bool
  | .tuple [.int n, t] => decide (0 ≤ n) && isTm t && (!isUk t || decide (ukNo t < n))
  | _ => false
section
variable {P : Program} {w : World} {K : PySem.W.Frag} {mg : Str → Option Value} {base : Heap} {n : Nat}
theorem g_leaves_of (B : Bl mg) (D : Dfn K mg "leaves_of" s_leaves_of ["things"]) (c_is_pair : Cal P w K mg base n "is_pair" ["thing"] (spQ Any (p1 fun x => cl x = true) (b1 isPr))) :
    Cal P w K mg base (n + 1) "leaves_of" ["things"] (spQ Any (fun ds => ∃ ts, (ds = [.tuple ts] ∨ ds = [.list ts]) ∧ clAll ts = true ∧ PyData.bulkAll ts ≤ 400000) (fun ds d => ∃ ts, (ds = [.tuple ts] ∨ ds = [.list ts]) ∧ d = .list (leavesAll ts))) := by
  refine defG [1, 2] D sc_leaves_of (by rintro _ ⟨x, rfl | rfl, _⟩ <;> rfl) (by decide) (fun f C hG cdv A outer s H E g0 hr => ⟨_, (qss_cons (qs_own (k := 1) (by decide) sc_leaves_of.nd rfl (by first | exact Or.inl rfl | exact Or.inr rfl) (fun _ x1 => (qf_lst qa_nil))) (qss_cons (qs_own (k := 2) (by decide) sc_leaves_of.nd rfl (by first | exact Or.inl rfl | exact Or.inr rfl) (fun _ x2 => (qf_lstRevA (fun _ h => pe_lstRevA rfl (by rfl) B.list (by rfl) B.reversed h) (qv 0)))) (qss_cons (qs_while PassesOwn.never (qt_tru (qv 2)) (qss_cons (qs_pop (k := 2) (G := (gName 3)) (dec := (dName 3)) (pe_bm0 PySem.F.plainAttrs_list PySem.F.slot_list_pop PySem.F.type_list_pop mt_pop (pv 2)) (fun _ => (qg_name (k := 3) sc_leaves_of.nd rfl (by first | exact Or.inl rfl | exact Or.inr rfl)))) (qss_one (qs_if (qt_val (qe_cal c_is_pair trivial g0 hr (by rfl) (qa_cons (qv 3) qa_nil))) (qss_cons (qs_append (k := 2) (fun _ h => pe_bm PySem.F.plainAttrs_list PySem.F.slot_list_append PySem.F.type_list_append mt_append (pv 2) (pa_cons h pa_nil)) (fun _ x3 => (qe_ix (qv 3) qe_int (fun _ _ => rfl)))) (qss_one (qs_append (k := 2) (fun _ h => pe_bm PySem.F.plainAttrs_list PySem.F.slot_list_append PySem.F.type_list_append mt_append (pv 2) (pa_cons h pa_nil)) (fun _ x4 => (qe_ix (qv 3) qe_int (fun _ _ => rfl)))))) (qss_one (qs_append (k := 1) (fun _ h => pe_bm PySem.F.plainAttrs_list PySem.F.slot_list_append PySem.F.type_list_append mt_append (pv 1) (pa_cons h pa_nil)) (fun _ x5 => (qv 3)))))))) (qss_one (qs_ret (qv 1)))))), ?_⟩)
  rintro ds ⟨ts, hds, hc, hb⟩
  obtain ⟨d0, rfl, hd0⟩ : ∃ d0, ds = [d0] ∧ (d0 = .tuple ts ∨ d0 = .list ts) := by
    rcases hds with rfl | rfl
    · exact ⟨_, rfl, .inl rfl⟩
    · exact ⟨_, rfl, .inr rfl⟩
  simp [hide]
  have bl : ∀ us : List PyData, us.length ≤ PyData.bulkAll us := by
    intro us
    induction us with
    | nil => exact Nat.le_refl _
    | cons u us ih =>
      show us.length + 1 ≤ u.bulk + 1 + PyData.bulkAll us
      omega
  refine ⟨ts, hd0, fun m ρ => ∃ (part : Option PyData) (acc us : List PyData), ρ = [some d0, some (.list acc), some (.list us.reverse), part] ∧ m = PyData.bulkAll us ∧ clAll us = true ∧ acc ++ leavesAll us = leavesAll ts ∧ acc.length + (leavesAll us).length ≤ 600000 ∧ PyData.bulkAll us ≤ 400000, ⟨_, none, [], ts, rfl, rfl, hc, rfl, ?_, hb⟩, ?_⟩
  · have : ∀ us : List PyData, (leavesAll us).length ≤ PyData.bulkAll us := by
      intro us
      induction us with
      | nil => exact Nat.le_refl _
      | cons u us ih =>
        have := leaves_len u
        show (leaves u ++ leavesAll us).length ≤ u.bulk + 1 + PyData.bulkAll us
        rw [List.length_append]
        omega
    have := this ts
    show 0 + _ ≤ _
    omega
  rintro m _ ⟨part, acc, us, rfl, rfl, hcl, hl, hz, hb2⟩
  have hus := bl us
  cases us with
  | nil =>
    have e : acc = leavesAll ts := by simpa [leavesAll] using hl
    simp [e]
    exact ⟨ts, hd0, rfl⟩
  | cons u us =>
    obtain ⟨cu, cus⟩ := cl_cons hcl
    have hbk : PyData.bulkAll (u :: us) = u.bulk + 1 + PyData.bulkAll us := rfl
    have hll : leavesAll (u :: us) = leaves u ++ leavesAll us := rfl
    have small : ∀ k : Nat, k ≤ 700000 → k < sizeLine := fun k h => Nat.lt_of_le_of_lt h (by decide)
    rw [hll, List.length_append] at hz
    have lu1 : (us.reverse).length = us.length := List.length_reverse
    have hus2 := bl us
    simp
    refine ⟨us.reverse, u, ⟨rfl, rfl⟩, cu, ?_⟩
    cases hp : isPr u with
    | false =>
      rw [leaves_leaf hp] at hll hz
      refine .inl ⟨rfl, small _ (by omega), u, rfl, _, ?_, some u, acc ++ [u], us, ⟨rfl, rfl, rfl⟩, rfl, cus, ?_, ?_, by omega⟩
      · omega
      · rw [← hl, hll, List.append_assoc]
      · rw [List.length_append]
        omega
    | true =>
      match u, hp, cu with
      | .tuple [a, b], hp, cu =>
        have hq : isQ a = false := by simpa [isPr] using hp
        have e : (PyData.tuple [a, b]).bulk = a.bulk + b.bulk + 2 := by
          show a.bulk + 1 + (b.bulk + 1 + 0) = _
          omega
        obtain ⟨ca, cb⟩ := cl_cons (cl_all cu)
        rw [leaves_pair hq] at hll hz
        rw [List.length_append] at hz
        refine .inr ⟨rfl, by rw [lu1]; exact small _ (by omega), _, rfl, b, rfl, by rw [lu1]; exact small _ (by omega), _, rfl, a, rfl, PyData.bulkAll (a :: b :: us), ?_, _, acc, a :: b :: us, ⟨rfl, ?_, rfl⟩, rfl, ?_, ?_, ?_, ?_⟩
        · show a.bulk + 1 + (b.bulk + 1 + PyData.bulkAll us) < _
          omega
        · simp
        · show (cl a && (cl b && clAll us)) = true
          rw [ca, (cl_cons cb).1, cus]
          rfl
        · rw [← hl, hll]
          show acc ++ (leaves a ++ (leaves b ++ leavesAll us)) = _
          rw [List.append_assoc]
        · show acc.length + (leaves a ++ (leaves b ++ leavesAll us)).length ≤ _
          rw [List.length_append, List.length_append]
          omega
        · show a.bulk + 1 + (b.bulk + 1 + PyData.bulkAll us) ≤ _
          omega
      | .tuple [], hp, _ => cases hp
      | .tuple [_], hp, _ => cases hp
      | .tuple (_ :: _ :: _ :: _), hp, _ => cases hp
      | .none, hp, _ => cases hp
      | .bool _, hp, _ => cases hp
      | .int _, hp, _ => cases hp
      | .str _, hp, _ => cases hp
      | .list _, hp, _ => cases hp
      | .dict _, hp, _ => cases hp
theorem g_unknowns_of (B : Bl mg) (D : Dfn K mg "unknowns_of" s_unknowns_of ["terms"]) (c_leaves_of : Cal P w K mg base n "leaves_of" ["things"] (spQ Any (fun ds => ∃ ts, (ds = [.tuple ts] ∨ ds = [.list ts]) ∧ clAll ts = true ∧ PyData.bulkAll ts ≤ 400000) (fun ds d => ∃ ts, (ds = [.tuple ts] ∨ ds = [.list ts]) ∧ d = .list (leavesAll ts))))
    (c_is_unknown : Cal P w K mg base n "is_unknown" ["thing"] (spQ Any (p1 fun x => cl x = true) (b1 isUk))) :
    Cal P w K mg base (n + 1) "unknowns_of" ["terms"] (spQ Any (fun ds => ∃ ts, (ds = [.tuple ts] ∨ ds = [.list ts]) ∧ clAll ts = true ∧ PyData.bulkAll ts ≤ 400000) (fun ds d => ∃ ts, (ds = [.tuple ts] ∨ ds = [.list ts]) ∧ d = .tuple ((addAll [] (nums ts)).map .int))) := by
  refine defG [] D sc_unknowns_of (by rintro _ ⟨x, rfl | rfl, _⟩ <;> rfl) (by simp) (fun f C hG cdv A outer s H E g0 hr => ⟨_, (qss_one (qs_ret (qe_callTy (cq_tupleD rfl) (by rfl) B.tuple (by decide +kernel) (qa_cons (qe_dc (own := [("leaf", 1)]) (G := (gName 1)) (dec := (dName 1)) rfl sc_unknowns_of.nd (qi_list (qe_cal c_leaves_of trivial g0 hr (by rfl) (qa_cons (qv 0) qa_nil))) (blkOk_by (own := [("leaf", 1)]) (N := ["terms", "leaf"]) (sc := defScope s_unknowns_of) (by decide +kernel)) (fun _ _ _ _ _ => (qg_name (k := 1) sc_unknowns_of.nd rfl (by first | exact Or.inl rfl | exact Or.inr rfl))) (fun _ _ _ _ _ => qts_one (qt_val (qe_cal c_is_unknown trivial g0 hr (by rfl) (qa_cons (qv 1) qa_nil)))) (fun _ _ _ _ _ => (qe_ix (qv 1) qe_int (fun _ _ => rfl))) (fun _ _ _ _ _ => qe_bl)) qa_nil)))), ?_⟩)
  rintro ds ⟨ts, hds, hc, hb⟩
  obtain ⟨d0, rfl, hd0⟩ : ∃ d0, ds = [d0] ∧ (d0 = .tuple ts ∨ d0 = .list ts) := by
    rcases hds with rfl | rfl
    · exact ⟨_, rfl, .inl rfl⟩
    · exact ⟨_, rfl, .inr rfl⟩
  simp
  refine ⟨⟨ts, hd0, hc, hb⟩, fun d x hdx e => ?_⟩
  obtain rfl : x = ts := by
    rcases hd0 with rfl | rfl
    · rcases hdx with h | h
      · exact (PyData.tuple.inj h).symm
      · cases h
    · rcases hdx with h | h
      · cases h
      · exact (PyData.list.inj h).symm
  subst e
  refine ⟨_, rfl, ?_⟩
  have cs : ∀ (us : List PyData), clAll us = true → ∀ x ∈ leavesAll us, cl x = true := by
    intro us
    induction us with
    | nil => intro _ x hx; cases hx
    | cons u us ih =>
      intro h x hx
      obtain ⟨h1, h2⟩ := cl_cons h
      rcases List.mem_append.mp (show x ∈ leaves u ++ leavesAll us from hx) with hx | hx
      · exact cl_leaves u h1 x hx
      · exact ih h2 x hx
  have ll : ∀ us : List PyData, (leavesAll us).length ≤ PyData.bulkAll us := by
    intro us
    induction us with
    | nil => exact Nat.le_refl _
    | cons u us ih =>
      show (leaves u ++ leavesAll us).length ≤ u.bulk + 1 + PyData.bulkAll us
      have := leaves_len u
      rw [List.length_append]
      omega
  have l1 := ll x
  refine dc_go (fun d => (ukOf d).map fun n => (Sum.inl n, .bool true)) _ _ (by show 0 + _ ≤ _; omega) (fun d hd => ?_) ?_
  · refine ⟨[(1, d)], rfl, by simp, fun R hR => ?_⟩
    have hcd := cs x hc d hd
    have hu := uk_some d
    cases ho : ukOf d with
    | none =>
      rw [ho] at hu hR
      simp [wipeR, hcd, hu]
      exact hR
    | some m =>
      rw [ho] at hu hR
      obtain ⟨a, rfl⟩ := uk_is ho
      simp [wipeR, hcd, hu]
      first | exact ⟨_, rfl, .inl m, rfl, rfl, hR⟩ | exact ⟨.inl m, rfl, rfl, hR⟩ | exact ⟨.inl m, rfl, hR⟩
  · refine ⟨_, rfl, x, hd0, ?_⟩
    have := kys_fold (leavesAll x) []
    refine (congrArg (List.map fun p : Key × PyData => keyD p.1) this).trans ?_
    unfold kys
    rw [List.map_map]
    rfl
end
section
variable {P : Program} {w : World} {K : PySem.W.Frag} {mg : Str → Option Value} {base : Heap} {n : Nat}
theorem c_is_row (B : Bl mg) (D : Dfn K mg "is_row" s_is_row ["thing"]) (c_is_tuple_of : Cal P w K mg base n "is_tuple_of" ["thing", "many"] (spQ Any pTo rTo)) (c_is_whole : Cal P w K mg base n "is_whole" ["thing"] (spQ Any (p1 fun x => isTok x = false) (b1 isWhole)))
    (c_is_term : Cal P w K mg base n "is_term" ["thing"] (spQ Any (p1 fun x => cl x = true ∧ x.bulk ≤ 390000) (b1 fun x => (leaves x).all isLeaf)))
    (c_is_unknown : Cal P w K mg base n "is_unknown" ["thing"] (spQ Any (p1 fun x => cl x = true) (b1 isUk))) :
    Cal P w K mg base (n + 1) "is_row" ["thing"] (spQ Any (p1 fun x => cl x = true ∧ x.bulk ≤ 390000) (b1 isRow)) := by
  refine defG [] D sc_is_row len1 (by simp) (fun f C hG cdv A outer s H E g0 hr => ⟨_, (qss_cons (qs_if (qt_not (qt_val (qe_cal c_is_tuple_of trivial g0 hr (by rfl) (qa_cons (qv 0) (qa_cons qe_int qa_nil))))) (qss_one (qs_ret qe_bl)) qss_nil) (qss_cons (qs_asgX (G := (gTup K 2 (gNames [1, 2]))) (dec := (dTup [1, 2])) (fun _ x1 => (qv 0)) (fun _ => (qg_tup (ks := [1, 2]) (pg_tup rfl (pgs_cons (pg_name (i := 1) sc_is_row.nd rfl (by first | exact Or.inl rfl | exact Or.inr rfl)) (pgs_cons (pg_name (i := 2) sc_is_row.nd rfl (by first | exact Or.inl rfl | exact Or.inr rfl)) pgs_nil)))))) (qss_cons (qs_if (QW.qt (qw_or (qt_not (qt_val (qe_cal c_is_whole trivial g0 hr (by rfl) (qa_cons (qv 1) qa_nil)))) (qw_or (qt_cmp oq_lt (qv 1) qe_int (nomark _)) (qw_or1 (qt_not (qt_val (qe_cal c_is_term trivial g0 hr (by rfl) (qa_cons (qv 2) qa_nil)))))))) (qss_one (qs_ret qe_bl)) qss_nil) (qss_one (qs_ret (qe_or (qe_not (qe_cal c_is_unknown trivial g0 hr (by rfl) (qa_cons (qv 2) qa_nil))) (qe_one (qe_cmp oq_lt (qe_ix (qv 2) qe_int (fun _ _ => rfl)) (qv 1) (nomark _))))))))), ?_⟩)
  rintro _ ⟨x, rfl, hx, hb⟩
  have tk := cl_tok hx
  cases x with
  | tuple xs =>
    match xs with
    | [a, t] =>
      obtain ⟨ca, ct'⟩ := cl_cons (cl_all hx)
      have ct := (cl_cons ct').1
      rw [bulk_pair] at hb
      simp [and_assoc]
      refine ⟨rfl, .inr ⟨rfl, [(1, a), (2, t)], rfl, a, rfl, cl_tok ca, ?_⟩⟩
      cases hw : isWhole a with
      | false =>
        refine .inl ⟨rfl, ?_⟩
        cases a <;> first | rfl | cases hw
      | true =>
        obtain ⟨i, rfl⟩ := whole_is hw
        refine .inr ⟨rfl, .int i, rfl, i, rfl, ?_⟩
        have er : isRow (.tuple [.int i, t]) = (decide (0 ≤ i) && isTm t && (!isUk t || decide (ukNo t < i))) := rfl
        split
        · rw [er, decide_eq_false (by omega)]
          rfl
        · rw [decide_eq_true (show 0 ≤ i by omega)] at er
          refine ⟨t, rfl, ct, by omega, ?_⟩
          cases ht : isTm t with
          | false =>
            refine .inl ⟨?_, by rw [er, ht]; rfl⟩
            have : (leaves t).all isLeaf = false := ht
            simpa using this
          | true =>
            have ht' : (leaves t).all isLeaf = true := ht
            refine .inr ⟨by simpa using ht', t, rfl, ct, ?_⟩
            cases hu : isUk t with
            | false => exact .inl ⟨rfl, by rw [er, ht, hu]; rfl⟩
            | true =>
              have hs := uk_some t
              rw [hu] at hs
              obtain ⟨m, hm⟩ := Option.isSome_iff_exists.mp hs.symm
              obtain ⟨b, rfl⟩ := uk_is hm
              refine .inr ⟨rfl, _, rfl, .int m, rfl, .int i, rfl, m, rfl, i, rfl, ?_⟩
              rw [er, ht, hu]
              rfl
    | [] => simp [isRow, isTupOf]; exact tk
    | [_] => simp [isRow, isTupOf]; exact tk
    | _ :: _ :: _ :: _ =>
      simp [isRow, isTupOf]
      exact ⟨tk, by omega⟩
  | none => simp [isRow, isTupOf]; exact tk
  | bool b => simp [isRow, isTupOf]; exact tk
  | int i => simp [isRow, isTupOf]; exact tk
  | str z => simp [isRow, isTupOf]; exact tk
  | list l => simp [isRow, isTupOf]; exact tk
  | dict l => simp [isRow, isTupOf]; exact tk
theorem addN_len (acc : List Int) (n : Int) : (addN acc n).length ≤ acc.length + 1 := by
  unfold addN
  split
  · omega
  · simp
theorem addAll_len : ∀ (ns acc : List Int), (addAll acc ns).length ≤ acc.length + ns.length
  | [], acc => by simp [addAll]
  | n :: ns, acc => by
    have h1 := addAll_len ns (addN acc n)
    have h2 := addN_len acc n
    show (addAll (addN acc n) ns).length ≤ _
    rw [List.length_cons]
    omega
theorem leavesAll_len : ∀ us : List PyData, (leavesAll us).length ≤ PyData.bulkAll us
  | [] => Nat.le_refl _
  | u :: us => by
    have h1 := leavesAll_len us
    have h2 := leaves_len u
    show (leaves u ++ leavesAll us).length ≤ u.bulk + 1 + PyData.bulkAll us
    rw [List.length_append]
    omega
theorem bulk_mem : ∀ {ts : List PyData} {t : PyData}, t ∈ ts → t.bulk ≤ PyData.bulkAll ts
  | u :: us, t, h => by
    show t.bulk ≤ u.bulk + 1 + PyData.bulkAll us
    rcases List.mem_cons.mp h with rfl | h
    · omega
    · have := bulk_mem h
      omega
theorem len_bulk : ∀ ts : List PyData, ts.length ≤ PyData.bulkAll ts
  | [] => Nat.le_refl _
  | t :: ts => by
    have := len_bulk ts
    show ts.length + 1 ≤ t.bulk + 1 + PyData.bulkAll ts
    omega
/-! is_filling -/
def noOf (d : PyData) : Int := match d with
  | .tuple [.int n, _] => n
  | _ => 0
def tmOf (d : PyData) : PyData := match d with
  | .tuple [_, t] => t
  | _ => .none
def incr : List Int → Bool
  | a :: b :: r => decide (a < b) && incr (b :: r)
  | _ => true
def isFil : PyData → Bool
  | .tuple rows => rows.all isRow && incr (rows.map noOf) && (addAll [] (nums (rows.map tmOf))).all fun m => !decide (m ∈ rows.map noOf)
  | _ => false
theorem row_is {r : PyData} (h : isRow r = true) : ∃ n t, r = .tuple [.int n, t] ∧ isTm t = true := by
  match r, h with
  | .tuple [.int n, t], h =>
    have h' : (decide (0 ≤ n) && isTm t && (!isUk t || decide (ukNo t < n))) = true := h
    rw [Bool.and_eq_true, Bool.and_eq_true] at h'
    exact ⟨n, t, rfl, h'.1.2⟩
theorem cutF1 (ds : List PyData) : cutG ds (some 1) none = ds.drop 1 := by
  unfold cutG
  rw [HT.sIx_none, show (1 : Int) = ((1 : Nat) : Int) from rfl, HT.sIx_nat]
  cases ds with
  | nil => rfl
  | cons a r =>
    rw [List.length_cons, show min 1 (r.length + 1) = 1 by omega]
    exact List.take_of_length_le (by show r.length ≤ _; omega)
theorem cl_mem : ∀ {ts : List PyData}, clAll ts = true → ∀ t ∈ ts, cl t = true
  | u :: us, h, t, m => by
    obtain ⟨h1, h2⟩ := cl_cons h
    rcases List.mem_cons.mp m with rfl | m
    · exact h1
    · exact cl_mem h2 t m
def lessD : PyData → Option PyData
  | .tuple [.int a, .int b] => some (.bool (decide (a < b)))
  | _ => none
theorem incr_is : ∀ ns : List Int, ∃ bs : List Bool, (zipD (ns.map .int) ((ns.map .int).drop 1)).filterMap lessD = bs.map .bool ∧ (false ∈ bs ↔ incr ns = false)
  | [] => ⟨[], rfl, by simp [incr]⟩
  | [a] => ⟨[], rfl, by simp [incr]⟩
  | a :: b :: r => by
    obtain ⟨bs, h1, h2⟩ := incr_is (b :: r)
    refine ⟨decide (a < b) :: bs, ?_, ?_⟩
    · show List.filterMap lessD (.tuple [.int a, .int b] :: zipD ((b :: r).map .int) (((b :: r).map .int).drop 1)) = .bool (decide (a < b)) :: bs.map .bool
      rw [← h1]
      rfl
    · show false ∈ decide (a < b) :: bs ↔ (decide (a < b) && incr (b :: r)) = false
      rw [List.mem_cons, h2]
      cases decide (a < b) <;> simp
theorem zip_len : ∀ as bs : List PyData, (zipD as bs).length ≤ as.length
  | [], _ => Nat.zero_le _
  | _ :: _, [] => Nat.zero_le _
  | a :: as, b :: bs => by
    have := zip_len as bs
    show (zipD as bs).length + 1 ≤ as.length + 1
    omega
theorem zip_ints {ns ms : List Int} {d : PyData} (h : d ∈ zipD (ns.map .int) (ms.map .int)) : ∃ a b, d = .tuple [.int a, .int b] := by
  obtain ⟨i, hi⟩ := List.getElem?_of_mem h
  obtain ⟨x, y, e1, e2, rfl⟩ := zip_get hi
  obtain ⟨a, _, rfl⟩ := List.mem_map.mp (List.mem_of_getElem? e1)
  obtain ⟨b, _, rfl⟩ := List.mem_map.mp (List.mem_of_getElem? e2)
  exact ⟨a, b, rfl⟩
theorem rows_cl : ∀ {rows : List PyData}, clAll rows = true → (∀ r ∈ rows, isRow r = true) → clAll (rows.map tmOf) = true ∧ PyData.bulkAll (rows.map tmOf) ≤ PyData.bulkAll rows
  | [], _, _ => ⟨rfl, Nat.le_refl _⟩
  | r :: rows, hc, hr => by
    obtain ⟨c1, c2⟩ := cl_cons hc
    obtain ⟨h1, h2⟩ := rows_cl c2 fun x m => hr x (List.mem_cons_of_mem _ m)
    obtain ⟨n, u, rfl, _⟩ := row_is (hr r (List.mem_cons_self ..))
    have cu := (cl_cons (cl_cons (cl_all c1)).2).1
    have e := bulk_pair (.int n) u
    refine ⟨?_, ?_⟩
    · show (cl u && clAll (rows.map tmOf)) = true
      rw [cu, h1]
      rfl
    · show u.bulk + 1 + PyData.bulkAll (rows.map tmOf) ≤ (PyData.tuple [.int n, u]).bulk + 1 + PyData.bulkAll rows
      omega
theorem nums_len (ts : List PyData) : (addAll [] (nums ts)).length ≤ PyData.bulkAll ts := by
  have h1 := addAll_len (nums ts) []
  have h2 : (nums ts).length ≤ (leavesAll ts).length := List.length_filterMap_le ..
  have h3 := leavesAll_len ts
  rw [List.length_nil] at h1
  omega
def ent1 : PyData → Option (Key × PyData)
  | .int n => some (.inl n, .bool true)
  | _ => none
theorem ent1_fold : ∀ (ns acc : List Int), (ns.map PyData.int).foldl (fun l d => match ent1 d with | some (k, v) => putG l k v | none => l) (kys acc) = kys (addAll acc ns)
  | [], acc => rfl
  | n :: ns, acc => by
    rw [List.map_cons, List.foldl_cons]
    show (ns.map PyData.int).foldl _ (putG (kys acc) (Sum.inl n) (.bool true)) = _
    rw [kys_put]
    exact ent1_fold ns (addN acc n)
theorem kys_has (m : Int) : ∀ acc : List Int, (valG (kys acc) (.inl m)).isSome = decide (m ∈ acc)
  | [] => rfl
  | a :: acc => by
    have ih := kys_has m acc
    show (valG ((Sum.inl a, .bool true) :: kys acc) (.inl m)).isSome = _
    by_cases e : a = m
    · subst e
      simp [valG, List.find?_cons]
    · have e2 : ¬ (Sum.inl a : Key) = Sum.inl m := fun z => e (Sum.inl.inj z)
      have e1 : valG ((Sum.inl a, .bool true) :: kys acc) (.inl m) = valG (kys acc) (.inl m) := by simp [valG, List.find?_cons, e2]
      rw [e1, ih]
      simp [Ne.symm e]
theorem mem_addN {acc : List Int} {n m : Int} : m ∈ addN acc n ↔ m ∈ acc ∨ m = n := by
  unfold addN
  split
  · rename_i h
    exact ⟨.inl, fun z => z.elim id fun e => e ▸ h⟩
  · simp
theorem mem_addAll : ∀ (ns acc : List Int) (m : Int), m ∈ addAll acc ns ↔ m ∈ acc ∨ m ∈ ns
  | [], acc, m => by simp [addAll]
  | n :: r, acc, m => by
    show m ∈ addAll (addN acc n) r ↔ _
    rw [mem_addAll r, mem_addN, List.mem_cons]
    constructor
    · rintro ((h | h) | h)
      · exact .inl h
      · exact .inr (.inl h)
      · exact .inr (.inr h)
    · rintro (h | h | h)
      · exact .inl (.inl h)
      · exact .inl (.inr h)
      · exact .inr h
theorem c_is_filling (B : Bl mg) (D : Dfn K mg "is_filling" s_is_filling ["thing"]) (c_is_row : Cal P w K mg base n "is_row" ["thing"] (spQ Any (p1 fun x => cl x = true ∧ x.bulk ≤ 390000) (b1 isRow)))
    (c_unknowns_of : Cal P w K mg base n "unknowns_of" ["terms"] (spQ Any (fun ds => ∃ ts, (ds = [.tuple ts] ∨ ds = [.list ts]) ∧ clAll ts = true ∧ PyData.bulkAll ts ≤ 400000) (fun ds d => ∃ ts, (ds = [.tuple ts] ∨ ds = [.list ts]) ∧ d = .tuple ((addAll [] (nums ts)).map .int)))) :
    Cal P w K mg base (n + 1) "is_filling" ["thing"] (spQ Any (p1 fun x => cl x = true ∧ x.bulk ≤ 390000) (b1 isFil)) := by
  refine defG [] D sc_is_filling len1 (by simp) (fun f C hG cdv A outer s H E g0 hr => ⟨_, (qss_cons (qs_if (QW.qt (qw_or (qt_not (qt_val (qe_isi "tuple" (by decide) (fun _ h => pe_callB call_isi (by rfl) B.isinstance (by decide +kernel) (pa_cons h (pa_cons (pe_bltn (v := .ty "tuple") (by rfl) B.tuple (by decide +kernel) rfl) pa_nil))) (qv 0)))) (qw_or1 (qt_not (qt_val (qe_callB (cq_all rfl) (by rfl) B.all (by decide +kernel) (qa_cons (qe_lc (own := [("row", 1)]) (G := (gName 1)) (dec := (dName 1)) rfl sc_is_filling.nd (qi_tup (qv 0)) (blkOk_by (own := [("row", 1)]) (N := ["thing", "row", "numbers", "number", "term", "one", "other", "filled"]) (sc := defScope s_is_filling) (by decide +kernel)) (fun _ _ _ _ _ _ => (qg_name (k := 1) sc_is_filling.nd rfl (by first | exact Or.inl rfl | exact Or.inr rfl))) (fun _ x1 => (fun _ _ _ _ _ => qts_nil)) (fun _ x2 => (fun _ _ _ _ _ => (qe_cal c_is_row trivial g0 hr (by rfl) (qa_cons (qv 1) qa_nil))))) qa_nil))))))) (qss_one (qs_ret qe_bl)) qss_nil) (qss_cons (qs_setLc (k := 2) (own := [("number", 3), ("term", 4)]) (G := (gTup K 2 (gNames [3, 4]))) (dec := (dTup [3, 4])) (by decide) rfl rfl (sw_true rfl rfl (by decide) (by decide +kernel)) rfl sc_is_filling.nd (fun _ x3 => (qi_tup (qv 0))) (blkOk_by (own := [("number", 3), ("term", 4)]) (N := ["thing", "row", "numbers", "number", "term", "one", "other", "filled"]) (sc := defScope s_is_filling) (by decide +kernel)) (fun _ _ _ _ _ _ => (qg_tup (ks := [3, 4]) (pg_tup rfl (pgs_cons (pg_name (i := 3) sc_is_filling.nd rfl (by first | exact Or.inl rfl | exact Or.inr rfl)) (pgs_cons (pg_name (i := 4) sc_is_filling.nd rfl (by first | exact Or.inl rfl | exact Or.inr rfl)) pgs_nil))))) (fun _ x4 => (fun _ _ _ _ _ => qts_nil)) (fun _ x5 => (fun _ _ _ _ _ => (qv 3)))) (qss_cons (qs_if (qt_not (qt_val (qe_callB (cq_all rfl) (by rfl) B.all (by decide +kernel) (qa_cons (qe_lc (own := [("one", 5), ("other", 6)]) (G := (gTup K 2 (gNames [5, 6]))) (dec := (dTup [5, 6])) rfl sc_is_filling.nd (qi_zip (by rfl) B.zip (qa_cons (qv 2) (qa_cons (qe_slice (qv 2) (qo_some qe_int) qo_none) qa_nil))) (blkOk_by (own := [("one", 5), ("other", 6)]) (N := ["thing", "row", "numbers", "number", "term", "one", "other", "filled"]) (sc := defScope s_is_filling) (by decide +kernel)) (fun _ _ _ _ _ _ => (qg_tup (ks := [5, 6]) (pg_tup rfl (pgs_cons (pg_name (i := 5) sc_is_filling.nd rfl (by first | exact Or.inl rfl | exact Or.inr rfl)) (pgs_cons (pg_name (i := 6) sc_is_filling.nd rfl (by first | exact Or.inl rfl | exact Or.inr rfl)) pgs_nil))))) (fun _ x6 => (fun _ _ _ _ _ => qts_nil)) (fun _ x7 => (fun _ _ _ _ _ => (qe_cmp oq_lt (qv 5) (qv 6) (nomark _))))) qa_nil)))) (qss_one (qs_ret qe_bl)) qss_nil) (qss_cons (qs_setX (k := 7) (by decide) sc_is_filling.nd rfl (by first | exact Or.inl rfl | exact Or.inr rfl) (fun _ x8 => (qe_dc (own := [("number", 3)]) (G := (gName 3)) (dec := (dName 3)) rfl sc_is_filling.nd (qi_list (qv 2)) (blkOk_by (own := [("number", 3)]) (N := ["thing", "row", "numbers", "number", "term", "one", "other", "filled"]) (sc := defScope s_is_filling) (by decide +kernel)) (fun _ _ _ _ _ => (qg_name (k := 3) sc_is_filling.nd rfl (by first | exact Or.inl rfl | exact Or.inr rfl))) (fun _ _ _ _ _ => qts_nil) (fun _ _ _ _ _ => (qv 3)) (fun _ _ _ _ _ => qe_bl)))) (qss_one (qs_ret (qe_not (qe_callB (cq_any rfl) (by rfl) B.any (by decide +kernel) (qa_cons (qe_lc (own := [("number", 3)]) (G := (gName 3)) (dec := (dName 3)) rfl sc_is_filling.nd (qi_tup (qe_cal c_unknowns_of trivial g0 hr (by rfl) (qa_cons (qe_lc (own := [("number", 3), ("term", 4)]) (G := (gTup K 2 (gNames [3, 4]))) (dec := (dTup [3, 4])) rfl sc_is_filling.nd (qi_tup (qv 0)) (blkOk_by (own := [("number", 3), ("term", 4)]) (N := ["thing", "row", "numbers", "number", "term", "one", "other", "filled"]) (sc := defScope s_is_filling) (by decide +kernel)) (fun _ _ _ _ _ _ => (qg_tup (ks := [3, 4]) (pg_tup rfl (pgs_cons (pg_name (i := 3) sc_is_filling.nd rfl (by first | exact Or.inl rfl | exact Or.inr rfl)) (pgs_cons (pg_name (i := 4) sc_is_filling.nd rfl (by first | exact Or.inl rfl | exact Or.inr rfl)) pgs_nil))))) (fun _ x11 => (fun _ _ _ _ _ => qts_nil)) (fun _ x12 => (fun _ _ _ _ _ => (qv 4)))) qa_nil))) (blkOk_by (own := [("number", 3)]) (N := ["thing", "row", "numbers", "number", "term", "one", "other", "filled"]) (sc := defScope s_is_filling) (by decide +kernel)) (fun _ _ _ _ _ _ => (qg_name (k := 3) sc_is_filling.nd rfl (by first | exact Or.inl rfl | exact Or.inr rfl))) (fun _ x9 => (fun _ _ _ _ _ => qts_nil)) (fun _ x10 => (fun _ _ _ _ _ => (qe_din (hu_of hr) (qv 3) (qv 7))))) qa_nil))))))))), ?_⟩)
  rintro _ ⟨x, rfl, hx, hb⟩
  have tk := cl_tok hx
  cases x with
  | tuple rows =>
    simp [hide]
    have ca : clAll rows = true := cl_all hx
    have hb' : PyData.bulkAll rows ≤ 390000 := hb
    have hlen := len_bulk rows
    refine ⟨tk, lc_go (fun r => some (.bool (isRow r))) _ _ (by show 0 + _ ≤ _; omega) (fun r m => ?_) ?_⟩
    · refine ⟨[(1, r)], rfl, by simp, fun R hR => ?_⟩
      have h1 := cl_mem ca r m
      have h2 := bulk_mem m
      simp [wipeR, h1, show r.bulk ≤ 390000 by omega]
      exact hR
    rw [List.nil_append, map_some]
    refine ⟨rows.map isRow, by rw [List.map_map]; rfl, ?_⟩
    cases hall : rows.all isRow with
    | false =>
      rw [if_pos (by simpa using hall)]
      show (rows.all isRow && _ && _) = false
      rw [hall]
      rfl
    | true =>
      have hrow : ∀ r ∈ rows, isRow r = true := List.all_eq_true.mp hall
      rw [if_neg (by simp; exact hrow)]
      have hfil : isFil (.tuple rows) = (incr (rows.map noOf) && (addAll [] (nums (rows.map tmOf))).all fun m => !decide (m ∈ rows.map noOf)) := by
        show (rows.all isRow && _ && _) = _
        rw [hall]
        rfl
      refine lc_go (fun r => some (.int (noOf r))) _ _ (by show 0 + _ ≤ _; omega) (fun r m => ?_) ?_
      · obtain ⟨n, u, rfl, _⟩ := row_is (hrow r m)
        refine ⟨[(3, .int n), (4, u)], rfl, by simp, fun R hR => ?_⟩
        simp [wipeR]
        exact hR
      rw [List.nil_append, map_some]
      have en : rows.map (fun r => PyData.int (noOf r)) = (rows.map noOf).map .int := by rw [List.map_map]; rfl
      rw [en]
      have nl : ((rows.map noOf).map PyData.int).length = rows.length := by simp
      generalize hns : rows.map noOf = ns at *
      obtain ⟨bs, hz1, hz2⟩ := incr_is ns
      refine ⟨_, rfl, _, _, .inl ⟨rfl, rfl⟩, ?_⟩
      rw [cutF1]
      refine lc_go lessD _ _ ?_ (fun d m => ?_) ?_
      · have := zip_len (ns.map PyData.int) ((ns.map PyData.int).drop 1)
        show 0 + _ ≤ _
        omega
      · rw [← List.map_drop] at m
        obtain ⟨a, b, rfl⟩ := zip_ints m
        refine ⟨[(5, .int a), (6, .int b)], rfl, by simp, fun R hR => ?_⟩
        simp [wipeR]
        exact hR
      rw [List.nil_append, hz1]
      refine ⟨bs, rfl, ?_⟩
      cases hin : incr ns with
      | false =>
        rw [if_pos (hz2.mpr hin), hfil, hin]
        rfl
      | true =>
        rw [if_neg (fun z => by rw [hz2.mp z] at hin; cases hin)]
        rw [hin, Bool.true_and] at hfil
        refine ⟨_, rfl, dc_go ent1 _ _ (by show 0 + _ ≤ _; omega) (fun d m => ?_) ?_⟩
        · obtain ⟨n, _, rfl⟩ := List.mem_map.mp m
          refine ⟨[(3, .int n)], rfl, by simp, fun R hR => ?_⟩
          simp [wipeR]
          exact ⟨.inl n, rfl, rfl, hR⟩
        have ef := ent1_fold ns []
        refine lc_go (fun r => some (tmOf r)) _ _ (by show 0 + _ ≤ _; omega) (fun r m => ?_) ?_
        · obtain ⟨n, u, rfl, hu⟩ := row_is (hrow r m)
          refine ⟨[(3, .int n), (4, u)], rfl, by simp, fun R hR => ?_⟩
          simp [wipeR]
          exact hR
        rw [List.nil_append, map_some]
        refine ⟨⟨rows.map tmOf, .inr rfl, ?_, ?_⟩, fun d x hx e => ?_⟩
        · exact (rows_cl ca hrow).1
        · have := (rows_cl ca hrow).2
          omega
        obtain rfl : x = rows.map tmOf := by
          rcases hx with h | h
          · cases h
          · exact (PyData.list.inj h).symm
        subst e
        refine ⟨_, rfl, lc_go (fun d => match d with | .int m => some (.bool (decide (m ∈ addAll [] ns))) | _ => none) _ _ ?_ (fun d m => ?_) ?_⟩
        · have h1 := nums_len (rows.map tmOf)
          have h2 := (rows_cl ca hrow).2
          rw [List.length_map]
          show 0 + _ ≤ _
          omega
        · obtain ⟨k, _, rfl⟩ := List.mem_map.mp m
          refine ⟨[(3, .int k)], rfl, by simp, fun R hR => ?_⟩
          simp [wipeR]
          refine ⟨kys (addAll [] ns), .inl k, rfl, congrArg dD ef, ?_⟩
          rw [kys_has]
          exact hR
        · refine ⟨(addAll [] (nums (rows.map tmOf))).map fun m => decide (m ∈ addAll [] ns), ?_, ?_⟩
          · rw [List.nil_append, List.filterMap_map, List.map_map]
            congr 1
            exact map_some (fun m : Int => PyData.bool (decide (m ∈ addAll [] ns))) _
          · rw [hfil, List.any_map, List.not_all_eq_any_not]
            congr 1
            funext m
            have : (m ∈ addAll [] ns) ↔ m ∈ ns := by
              rw [mem_addAll]
              simp
            simp [this]
  | none => simp [isFil]; exact tk
  | bool b => simp [isFil]; exact tk
  | int i => simp [isFil]; exact tk
  | str z => simp [isFil]; exact tk
  | list l => simp [isFil]; exact tk
  | dict l => simp [isFil]; exact tk
end
end Kr

set_option Elab.async false
set_option linter.all false
set_option maxRecDepth 100000
set_option maxHeartbeats 1000000
namespace Kr
open PySem PySem.Spec PyProof.Rows L2
/-! a list of anything against [] : told by its length -/
section
variable {X : Cx} {C : Cz}
theorem rc_list_nil (hu : X.A.units + 64 < cLine) {pins : List (Addr × Obj)} {σ : L2.St} {H : Hp} {s : Shared} {xs : List V} {a b : Addr} (ha : H a = some (.lst xs)) (hb : H b = some (.lst [])) (I : Inv X pins σ H s) : SeqAt.RcAt X.A s (.ref a) (.ref b) xs.isEmpty ∧ SeqAt.RcNeAt X.A s (.ref a) (.ref b) (!xs.isEmpty) := by
  have hu0 : X.A.units < cLine := by omega
  obtain ⟨i1, r1, p1, _⟩ := I.list (.inl (.inl ha))
  obtain ⟨i2, r2, p2, _⟩ := I.list (.inl (.inl hb))
  cases r2
  cases r1 with
  | nil =>
    have h1 := SeqAt.RcAt.lists (A := X.A) (e := fun _ => true) p1.isList p2.isList rfl hu0 fun j _ h2 => absurd h2 (by simp)
    have h2 := SeqAt.RcNeAt.lists (A := X.A) (e := fun _ => true) p1.isList p2.isList rfl hu0 fun j _ h2 => absurd h2 (by simp)
    exact ⟨h1, h2⟩
  | cons _ _ => exact ⟨SeqAt.RcAt.lists_lengths p1.isList p2.isList (by simp) hu0, SeqAt.RcNeAt.lists_lengths p1.isList p2.isList (by simp) hu0⟩
@[simp] def rEqL0 : R0 := fun d c Q => ∃ xs, d = .list xs ∧ c = .list [] ∧ Q (.bool xs.isEmpty)
@[simp] def rNeL0 : R0 := fun d c Q => ∃ xs, d = .list xs ∧ c = .list [] ∧ Q (.bool (!xs.isEmpty))
theorem isEmpty_dq {H : Hp} {vs : List V} {ds : List PyData} (r : DqAll C H vs ds) : vs.isEmpty = ds.isEmpty := by cases r <;> rfl
theorem oq_eqL0 (hu : X.A.units + 64 < cLine) : OQ X C (compareOp .Eq) rEqL0 := by
  refine ⟨fun pins s σ H x y v u Q I rx ry ⟨d1, d2, r1, r2, jj, xs, e1, e2, q⟩ => ?_, fun x y Q Q' w ⟨xs, e1, e2, q⟩ => ⟨xs, e1, e2, w _ q⟩⟩
  subst e1
  subst e2
  cases r1 with
  | lst _ h1 q1 =>
    cases r2 with
    | lst _ h2 q2 =>
      cases q2
      cases rx
      cases ry
      rw [← isEmpty_dq q1] at q
      exact (rc_list_nil hu h1 h2 I).1 X.prog X.w X.xe _ ⟨.bl _, H, I, rfl, q _ H Kx.refl jj (.bl _)⟩
theorem oq_neL0 (hu : X.A.units + 64 < cLine) : OQ X C (compareOp .NotEq) rNeL0 := by
  refine ⟨fun pins s σ H x y v u Q I rx ry ⟨d1, d2, r1, r2, jj, xs, e1, e2, q⟩ => ?_, fun x y Q Q' w ⟨xs, e1, e2, q⟩ => ⟨xs, e1, e2, w _ q⟩⟩
  subst e1
  subst e2
  cases r1 with
  | lst _ h1 q1 =>
    cases r2 with
    | lst _ h2 q2 =>
      cases q2
      cases rx
      cases ry
      rw [← isEmpty_dq q1] at q
      exact (rc_list_nil hu h1 h2 I).2 X.prog X.w X.xe _ ⟨.bl _, H, I, rfl, q _ H Kx.refl jj (.bl _)⟩
end
/-! x = x + e, where e reads no own list: its things may be lists -/
section
variable {X : Cx} {C : Cz} {Ow : List Nat} {b : Expr} {tb : P0} {pos : Pos}
@[simp] def sOwnAddX (Ow : List Nat) (k : Nat) (tb : P0) : P0S := fun D ρ => k ∈ Ow ∧ ∃ xs, ρ[k]? = some (some (.list xs)) ∧ tb (hide Ow ρ) fun d2 => ∃ ys, d2 = .list ys ∧ xs.length + ys.length ≤ sizeLine ∧ D.nx (ρ.set k (some (.list (xs ++ ys))))
theorem qs_ownAddX {k : Nat} {x : Str} {pos' pos2 pos3 : Pos} (hN : X.N.Nodup) (hi : X.N[k]? = some x) (hx : Loc X.env.scope x) (hb : ∀ C2, Ext C C2 → QE X C2 b tb) (hs : swapsWith (.BinOp (.Name x pos3) .Add b pos2) (some (.Name x pos')) pos.line X.env = pure false := by rfl) (hf : X.fn x = true ∨ X.env.scope.names.lookup x = some .local := by first | exact .inl rfl | exact .inr rfl | assumption)
    (hv : Vis X.env.scope x := by first | exact Or.inl rfl | exact Or.inr (Or.inl rfl) | exact Or.inr (Or.inr rfl)) (hd : (x == ("__debug__" : Str)) = false := by decide) (hcd : (x == ("__classdict__" : Str)) = false := by decide) :
    QS X C Ow (.Assign [.Name x pos'] (.BinOp (.Name x pos3) .Add b pos2) pos) (sOwnAddX Ow k tb) := by
  refine ⟨fun H0 w0 => ⟨fun pins sh σ H D I q => ?_⟩, fun ρ D D' ⟨hk, xs, e, q⟩ l => ⟨hk, xs, e, (hb C Ext.refl).mono _ _ _ (fun d ⟨ys, e1, e2, q⟩ => ⟨ys, e1, e2, l.1 _ q⟩) q⟩⟩
  obtain ⟨ρ, w, s, hk, xs, ek, q⟩ := q
  obtain ⟨he, hj⟩ := s.envX
  obtain ⟨b0, vs, ew, eσ, eH, er⟩ := s.slot hk ek
  have hl : k < ρ.length := (List.getElem?_eq_some_iff.mp ek).1
  refine (ps_set hN hi hx (pe_op op_catS (pe_var hi hv hd hcd) (hb _ (extE s.dis)).pe) hs hf).run pins sh σ H D I ?_
  refine ⟨.ref b0, eσ, hide Ow ρ, he, hj, (hb _ (extE s.dis)).mono _ _ _ (fun d2 ⟨ys, e2, e4, q9⟩ u H2 k2 j2 r2 => ?_) q⟩
  subst e2
  have s2 := s.keep (s.keepX k2 j2) j2.1
  obtain ⟨b1, vs1, ew1, eσ1, eH1, er1⟩ := s2.slot hk ek
  rw [ew] at ew1
  cases ew1
  cases r2 with
  | @lst m us _ n2 h2 q2 =>
    exact ⟨b0, m, vs, us, rfl, rfl, eH1, h2, by rw [er1.length, q2.length]; exact e4, fun p np _ => q9 _ _ _ (s2.own hl hk np (.lst (er1.app q2)))⟩
end
end Kr

set_option Elab.async false
set_option linter.all false
set_option maxRecDepth 100000
set_option maxHeartbeats 4000000
namespace Kr
open PySem PySem.Spec PyProof.Rows L2
abbrev s__law_is_term : Stmt := topS 33
theorem sc__law_is_term : FnScope ["_law_thing", "_law_waiting", "_law_here", "_law_letters", "_law_sign"] ["_law_thing"] (defScope s__law_is_term) := ⟨rfl, rfl, rfl, by decide +kernel, rfl, by decide +kernel, by decide +kernel⟩
section
variable {P : Program} {w : World} {K : PySem.W.Frag} {mg : Str → Option Value} {base : Heap} {n : Nat}
theorem iteP {c : Prop} [Decidable c] {A B : Prop} (a : A) (b : B) : if c then A else B := by split <;> assumption
def badS : PyData → Option PyData
  | .str y => if signOk (y.cps.toList.headD 0) then none else some (.str y)
  | _ => none
theorem mem_letters (c : Nat) : decide (c ∈ (Str.ofString "abcdefghijklmnopqrstuvwxyz").cps.toList) = signOk c := by
  have e : (Str.ofString "abcdefghijklmnopqrstuvwxyz").cps.toList = List.range' 97 26 := by decide +kernel
  rw [e]
  unfold signOk
  by_cases h1 : 97 ≤ c <;> by_cases h2 : c ≤ 122 <;> simp [List.mem_range'_1, h1, h2] <;> omega
theorem bad_list : ∀ cs : List Nat, (cs.map fun c => PyData.str ⟨#[c]⟩).filterMap badS = (cs.filter fun c => !signOk c).map fun c => PyData.str ⟨#[c]⟩
  | [] => rfl
  | c :: cs => by
    rw [List.map_cons, List.filterMap_cons, List.filter_cons]
    have ih := bad_list cs
    cases h : signOk c with
    | true =>
      have : badS (.str ⟨#[c]⟩) = none := by simp [badS, h]
      rw [this]
      simpa using ih
    | false =>
      have : badS (.str ⟨#[c]⟩) = some (.str ⟨#[c]⟩) := by simp [badS, h]
      rw [this]
      simpa using ih
theorem c__law_is_term (sy : Sy base) (B : Bl mg) (D : Dfn K mg "_law_is_term" s__law_is_term ["_law_thing"]) :
    Cal P w K mg base (n + 1) "_law_is_term" ["_law_thing"] (spQ Any (p1 fun x => cl x = true ∧ x.bulk ≤ 390000) (b1 isTm)) := by
  refine defG [1] D sc__law_is_term len1 (by simp) (fun f C hG cdv A outer s H E g0 hr => ⟨_, (qss_cons (qs_own (k := 1) (by decide) sc__law_is_term.nd rfl (by first | exact Or.inl rfl | exact Or.inr rfl) (fun _ x1 => (qf_lst (qa_cons (qv 0) qa_nil)))) (qss_cons (qs_while PassesOwn.never (qt_cmp (oq_neL0 hr.units) (qv 1) (qe_lst qa_nil) (nomark _)) (qss_cons (qs_pop (k := 1) (G := (gName 2)) (dec := (dName 2)) (pe_bm0 PySem.F.plainAttrs_list PySem.F.slot_list_pop PySem.F.type_list_pop mt_pop (pv 1)) (fun _ => (qg_name (k := 2) sc__law_is_term.nd rfl (by first | exact Or.inl rfl | exact Or.inr rfl)))) (qss_one (qs_if (qt_val (qe_isi "str" (by decide) (fun _ h => pe_callB call_isi (by rfl) B.isinstance (by decide +kernel) (pa_cons h (pa_cons (pe_bltn (v := .ty "str") (by rfl) B.str (by decide +kernel) rfl) pa_nil))) (qv 2))) (qss_cons (qs_setX (k := 3) (by decide) sc__law_is_term.nd rfl (by first | exact Or.inl rfl | exact Or.inr rfl) (fun _ x2 => qe_str)) (qss_one (qs_if (QW.qt (qw_or (qt_not (qt_chain oq_le oq_le qe_int (qe_callB cq_len (by rfl) B.len PySem.boot_len (qa_cons (qv 2) qa_nil)) qe_int (fun a b c d e => pt_chain a b c d e))) (qw_or1 (qt_cmp (oq_neL0 hr.units) (qe_lc (own := [("_law_sign", 4)]) (G := (gName 4)) (dec := (dName 4)) rfl sc__law_is_term.nd (qi_str (qv 2)) (blkOk_by (own := [("_law_sign", 4)]) (N := ["_law_thing", "_law_waiting", "_law_here", "_law_letters", "_law_sign"]) (sc := defScope s__law_is_term) (by decide +kernel)) (fun _ _ _ _ _ _ => (qg_name (k := 4) sc__law_is_term.nd rfl (by first | exact Or.inl rfl | exact Or.inr rfl))) (fun _ x3 => (fun _ _ _ _ _ => qts_one (qt_cmp oq_notinS (qv 4) (qv 3) (by rfl)))) (fun _ x4 => (fun _ _ _ _ _ => (qv 4)))) (qe_lst qa_nil) (nomark _))))) (qss_one (qs_ret qe_bl)) qss_nil))) (qss_one (qs_if (QW.qt (qw_and (qt_val (qe_isi "tuple" (by decide) (fun _ h => pe_callB call_isi (by rfl) B.isinstance (by decide +kernel) (pa_cons h (pa_cons (pe_bltn (v := .ty "tuple") (by rfl) B.tuple (by decide +kernel) rfl) pa_nil))) (qv 2))) (qw_and1 (qt_cmp (oq_neA hr.units) (qv 2) (qe_tup qa_nil) (nomark _))))) (qss_cons (qs_if (qt_cmp (oq_neA hr.units) (qe_callB cq_len (by rfl) B.len PySem.boot_len (qa_cons (qv 2) qa_nil)) qe_int (nomark _)) (qss_one (qs_ret qe_bl)) qss_nil) (qss_one (qs_if (QW.qt (qw_and (qt_val (qe_isi "str" (by decide) (fun _ h => pe_callB call_isi (by rfl) B.isinstance (by decide +kernel) (pa_cons h (pa_cons (pe_bltn (v := .ty "str") (by rfl) B.str (by decide +kernel) rfl) pa_nil))) (qe_ix (qv 2) qe_int (fun _ _ => rfl)))) (qw_and1 (qt_cmp (oq_eqA hr.units) (qe_ix (qv 2) qe_int (fun _ _ => rfl)) qe_str (nomark _))))) (qss_one (qs_if (QW.qt (qw_or (qt_not (qt_val (qe_isi "int" (by decide) (fun _ h => pe_callB call_isi (by rfl) B.isinstance (by decide +kernel) (pa_cons h (pa_cons (pe_bltn (v := .ty "int") (by rfl) B.int (by decide +kernel) rfl) pa_nil))) (qe_ix (qv 2) qe_int (fun _ _ => rfl))))) (qw_or (qt_val (qe_isi "bool" (by decide) (fun _ h => pe_callB call_isi (by rfl) B.isinstance (by decide +kernel) (pa_cons h (pa_cons (pe_bltn (v := .ty "bool") (by rfl) B.bool (by decide +kernel) rfl) pa_nil))) (qe_ix (qv 2) qe_int (fun _ _ => rfl)))) (qw_or1 (qt_cmp oq_lt (qe_ix (qv 2) qe_int (fun _ _ => rfl)) qe_int (nomark _)))))) (qss_one (qs_ret qe_bl)) qss_nil)) (qss_one (qs_ownAddX (k := 1) sc__law_is_term.nd rfl (by first | exact Or.inl rfl | exact Or.inr rfl) (fun _ x5 => (qe_callTy cq_listT (by rfl) B.list (by decide +kernel) (qa_cons (qv 2) qa_nil)))))))) (qss_one (qs_if (QW.qt (qw_and (qt_cmp (oq_neA hr.units) (qv 2) (qe_tup qa_nil) (nomark _)) (qw_and1 (QW.qt (qw_or (qt_not (qt_val (qe_isi "int" (by decide) (fun _ h => pe_callB call_isi (by rfl) B.isinstance (by decide +kernel) (pa_cons h (pa_cons (pe_bltn (v := .ty "int") (by rfl) B.int (by decide +kernel) rfl) pa_nil))) (qv 2)))) (qw_or1 (qt_val (qe_isi "bool" (by decide) (fun _ h => pe_callB call_isi (by rfl) B.isinstance (by decide +kernel) (pa_cons h (pa_cons (pe_bltn (v := .ty "bool") (by rfl) B.bool (by decide +kernel) rfl) pa_nil))) (qv 2))))))))) (qss_one (qs_ret qe_bl)) qss_nil)))))))) (qss_one (qs_ret qe_bl)))), ?_⟩)
  rintro _ ⟨x, rfl, hx, hb⟩
  simp [and_assoc, hide]
  unfold sWhile
  refine ⟨fun m ρ => ∃ (us : List PyData) (o2 o3 o4 : Option PyData), ρ = [some x, some (.list us.reverse), o2, o3, o4] ∧ m = PyData.bulkAll us ∧ clAll us = true ∧ PyData.bulkAll us ≤ 390002 ∧ isTm x = us.all isTm, ⟨_, [x], none, none, none, rfl, rfl, ?_, ?_, ?_⟩, ?_⟩
  · show (cl x && true) = true
    rw [hx]
    rfl
  · show x.bulk + 1 + 0 ≤ _
    omega
  · simp
  rintro m _ ⟨us, o2, o3, o4, rfl, rfl, hc, hbk, hall⟩
  cases us with
  | nil =>
    simp at hall
    simp [and_assoc, hide, hall]
  | cons u us =>
    obtain ⟨cu, cus⟩ := cl_cons hc
    have tu := cl_tok cu
    have hbe : PyData.bulkAll (u :: us) = u.bulk + 1 + PyData.bulkAll us := rfl
    rw [hbe] at hbk ⊢
    rw [List.all_cons] at hall
    simp only [List.reverse_cons]
    have bad : isTm u = false → isTm x = false := fun h => by rw [hall, h]; rfl
    have cont : isTm u = true → isTm x = us.all isTm := fun h => by rw [hall, h]; rfl
    have lt0 : PyData.bulkAll us < u.bulk + 1 + PyData.bulkAll us := by omega
    have bk0 : PyData.bulkAll us ≤ 390002 := by omega
    cases u with
    | none =>
      have b0 := bad rfl
      simp [and_assoc, hide, tu, b0, show PyData.eqv .none (.tuple []) = false from rfl]
    | bool b =>
      have b0 := bad rfl
      simp [and_assoc, hide, tu, b0, show PyData.eqv (.bool b) (.tuple []) = false from rfl]
    | list l =>
      have b0 := bad rfl
      simp [and_assoc, hide, tu, b0, show PyData.eqv (.list l) (.tuple []) = false by simp [PyData.eqv]]
    | dict l =>
      have b0 := bad rfl
      simp [and_assoc, hide, tu, b0, show PyData.eqv (.dict l) (.tuple []) = false by simp [PyData.eqv]]
    | int i =>
      have b0 := cont rfl
      simp [and_assoc, hide, tu, b0, show PyData.eqv (.int i) (.tuple []) = false from rfl, cus, bk0]
    | str z =>
      have er : isTm (.str z) = isWordS z := by simp [isTm, leaves, isLeaf, isNil, isAtom, isWhole, isWord, isUk]
      rw [er] at bad cont
      have hz : z.length ≤ 100000 := of_decide_eq_true cu
      simp [and_assoc, hide, tu, cus, bk0, show z.length ≤ sizeLine from sl (by omega)]
      by_cases h1 : 1 ≤ z.length
      case neg =>
        rw [if_neg (by omega)]
        exact bad (by simp [isWordS, h1])
      rw [if_pos (by omega)]
      by_cases h2 : z.length ≤ 8
      case neg =>
        rw [if_neg (by omega)]
        exact bad (by simp [isWordS, h2])
      rw [if_pos (by omega)]
      have hw : isWordS z = z.cps.toList.all signOk := by simp [isWordS, h1, h2]
      have hl : z.cps.toList.length ≤ 8 := by
        show z.cps.size ≤ 8
        exact h2
      refine lc_go badS _ _ ?_ (fun d hd => ?_) ?_
      · simp only [List.length_map, List.length_nil]
        omega
      · obtain ⟨c, _, rfl⟩ := List.mem_map.mp hd
        refine ⟨[(4, .str ⟨#[c]⟩)], rfl, by simp, fun R hR => ?_⟩
        simp [wipeR]
        rw [show (c ∈ (Str.ofString "abcdefghijklmnopqrstuvwxyz").cps) = (signOk c = true) from by rw [← mem_letters]; simp]
        unfold badS at hR
        simp at hR
        cases hs : signOk c with
        | true =>
          rw [hs] at hR
          simpa using hR
        | false =>
          rw [hs] at hR
          simpa using hR
      · rw [List.nil_append, bad_list]
        refine ⟨_, rfl, ?_⟩
        cases ha : z.cps.toList.all signOk with
        | true =>
          refine .inl ⟨?_, _, lt0, rfl, cont (by rw [hw, ha])⟩
          rw [List.map_eq_nil_iff, List.filter_eq_nil_iff]
          intro c hc'
          have := List.all_eq_true.mp ha c hc'
          simp [this]
        | false =>
          refine .inr ⟨?_, bad (by rw [hw, ha])⟩
          rw [List.map_eq_nil_iff, List.filter_eq_nil_iff]
          intro hcc
          have : z.cps.toList.all signOk = true := List.all_eq_true.mpr fun c hc' => by simpa using hcc c hc'
          rw [this] at ha
          cases ha
    | tuple xs =>
      match xs with
      | [] =>
        have b0 := cont rfl
        simp [and_assoc, hide, tu, b0, show PyData.eqv (.tuple []) (.tuple []) = true from rfl, cus, bk0]
      | [a] =>
        have b0 := bad rfl
        simp [and_assoc, hide, tu, b0, show PyData.eqv (.tuple [a]) (.tuple []) = false from rfl]
      | a :: b :: c :: r =>
        have b0 := bad (by simp [isTm, leaves, isLeaf, isNil, isAtom, isWhole, isWord, isUk])
        simp [and_assoc, hide, tu, b0, show PyData.eqv (.tuple (a :: b :: c :: r)) (.tuple []) = false from rfl]
        omega
      | [a, b] =>
        obtain ⟨ca, cb'⟩ := cl_cons (cl_all cu)
        have cb := (cl_cons cb').1
        have ta := cl_tok ca
        have tb := cl_tok cb
        have eb : (PyData.tuple [a, b]).bulk = a.bulk + b.bulk + 2 := by
          show a.bulk + 1 + (b.bulk + 1 + 0) = _
          omega
        simp [and_assoc, hide, tu, show PyData.eqv (.tuple [a, b]) (.tuple []) = false from rfl, at_h, at_h2, ta, tb]
        cases hq : isQ a with
        | true =>
          have ea := isQ_is hq
          subst ea
          have el : isTm (.tuple [.str "?", b]) = isUk (.tuple [.str "?", b]) := by
            show (leaves (.tuple [.str "?", b])).all isLeaf = _
            rw [leaves_leaf (by simp [isPr])]
            simp [isLeaf, isNil, isAtom, isWhole, isWord]
          rw [el] at bad cont
          simp [show PyData.eqv (.str "?") (.str "?") = true from by decide +kernel]
          cases b with
          | int i =>
            have eu : isUk (.tuple [.str "?", .int i]) = decide (0 ≤ i) := by simp [isUk]
            rw [eu] at bad cont
            by_cases h : i < 0
            · simp [h]
              exact bad (by simp; omega)
            · have h0 : 0 ≤ i := by omega
              simp [h, cus, bk0]
              exact ⟨_, lt0, rfl, cont (by simp [h0])⟩
          | _ => simpa using bad rfl
        | false =>
          have et : isTm (.tuple [a, b]) = (isTm a && isTm b) := by
            show (leaves (.tuple [a, b])).all isLeaf = _
            rw [leaves_pair hq, List.all_append]
            rfl
          have hql : PyData.eqv a (.str "?") = false := hq
          have hlen := len_bulk us
          have fin : us.length + 2 ≤ sizeLine ∧ ∃ m', m' < (PyData.tuple [a, b]).bulk + 1 + PyData.bulkAll us ∧ ∃ us_1, us.reverse ++ [a, b] = us_1.reverse ∧ m' = PyData.bulkAll us_1 ∧ clAll us_1 = true ∧ PyData.bulkAll us_1 ≤ 390002 ∧ isTm x = us_1.all isTm := by
            have e2 : PyData.bulkAll (b :: a :: us) = b.bulk + 1 + (a.bulk + 1 + PyData.bulkAll us) := rfl
            refine ⟨sl (by omega), _, ?_, b :: a :: us, by simp, rfl, ?_, by omega, ?_⟩
            · omega
            · show (cl b && (cl a && clAll us)) = true
              rw [cb, ca, cus]
              rfl
            · rw [hall, et, List.all_cons, List.all_cons]
              cases isTm a <;> cases isTm b <;> rfl
          have hql' : PyData.eqv a (.str (Str.ofString "?")) = false := hql
          rw [hql']
          exact iteP (by rw [if_neg (by decide)]; exact fin) fin
end
end Kr

set_option Elab.async false
set_option linter.all false
set_option maxRecDepth 100000
set_option maxHeartbeats 4000000
namespace Kr
open PySem PySem.Spec PyProof.Rows L2
/-! things of small parts: k, how much has been put on -/
mutual
def gd (k : Nat) : PyData → Bool
  | .none => true
  | .bool _ => true
  | .int i => decide (i.natAbs ≤ 10 ^ 39 + k)
  | .str z => decide (z.length ≤ 1000 + k) && z.cps.toList.all fun c => decide (c < 128)
  | .list xs => gdAll k xs
  | .tuple xs => gdAll k xs
  | .dict kvs => gdKv k kvs
def gdAll (k : Nat) : List PyData → Bool
  | [] => true
  | x :: xs => gd k x && gdAll k xs
def gdKv (k : Nat) : List (PyData × PyData) → Bool
  | [] => true
  | (.int j, v) :: r => gd k (.int j) && gd k v && gdKv k r
  | (.str z, v) :: r => gd k (.str z) && gd k v && gdKv k r
  | _ :: _ => false
end
variable {k : Nat}
theorem gd_str {z : Str} : gd k (.str z) = true ↔ z.length ≤ 1000 + k ∧ ∀ c ∈ z.cps.toList, c < 128 := by
  rw [gd, Bool.and_eq_true, List.all_eq_true, decide_eq_true_eq]
  simp only [decide_eq_true_eq]
theorem gd_num {i : Int} : gd k (.int i) = true ↔ i.natAbs ≤ 10 ^ 39 + k := by rw [gd, decide_eq_true_eq]
theorem gdAll_mem : ∀ {xs : List PyData}, gdAll k xs = true ↔ ∀ x ∈ xs, gd k x = true
  | [] => by simp [gdAll]
  | x :: xs => by
    rw [gdAll, Bool.and_eq_true, gdAll_mem]
    simp
theorem gd_tup {xs : List PyData} : gd k (.tuple xs) = true ↔ ∀ x ∈ xs, gd k x = true := by rw [gd, gdAll_mem]
theorem gd_lst {xs : List PyData} : gd k (.list xs) = true ↔ ∀ x ∈ xs, gd k x = true := by rw [gd, gdAll_mem]
mutual
theorem gd_mono {m : Nat} (h : k ≤ m) : ∀ t : PyData, gd k t = true → gd m t = true
  | .none, _ => rfl
  | .bool _, _ => rfl
  | .int _, g => gd_num.mpr (by have := gd_num.mp g; omega)
  | .str z, g => gd_str.mpr ⟨by have := (gd_str.mp g).1; omega, (gd_str.mp g).2⟩
  | .list xs, g => gdAll_mono h xs g
  | .tuple xs, g => gdAll_mono h xs g
  | .dict kvs, g => gdKv_mono h kvs g
theorem gdAll_mono {m : Nat} (h : k ≤ m) : ∀ ts : List PyData, gdAll k ts = true → gdAll m ts = true
  | [], _ => rfl
  | x :: xs, g => by
    have g' : (gd k x && gdAll k xs) = true := g
    rw [Bool.and_eq_true] at g'
    show (gd m x && gdAll m xs) = true
    rw [gd_mono h x g'.1, gdAll_mono h xs g'.2]
    rfl
theorem gdKv_mono {m : Nat} (h : k ≤ m) : ∀ ts : List (PyData × PyData), gdKv k ts = true → gdKv m ts = true
  | [], _ => rfl
  | (.int j, v) :: xs, g => by
    have g' : (gd k (.int j) && gd k v && gdKv k xs) = true := g
    rw [Bool.and_eq_true, Bool.and_eq_true] at g'
    show (gd m (.int j) && gd m v && gdKv m xs) = true
    rw [gd_mono h (.int j) g'.1.1, gd_mono h v g'.1.2, gdKv_mono h xs g'.2]
    rfl
  | (.str j, v) :: xs, g => by
    have g' : (gd k (.str j) && gd k v && gdKv k xs) = true := g
    rw [Bool.and_eq_true, Bool.and_eq_true] at g'
    show (gd m (.str j) && gd m v && gdKv m xs) = true
    rw [gd_mono h (.str j) g'.1.1, gd_mono h v g'.1.2, gdKv_mono h xs g'.2]
    rfl
  | (.none, _) :: _, g => by cases g
  | (.bool _, _) :: _, g => by cases g
  | (.list _, _) :: _, g => by cases g
  | (.tuple _, _) :: _, g => by cases g
  | (.dict _, _) :: _, g => by cases g
end
theorem gd_int {i : Int} (h : i.natAbs ≤ 10 ^ 39 + 1000) : i.natAbs.log2 < 1920 ∧ (PyData.shown (.int i)).length ≤ 42 := by
  constructor
  · by_cases z : i.natAbs = 0
    · rw [z]
      decide
    · have h2 : i.natAbs < 2 ^ 1920 := Nat.lt_of_le_of_lt h (by decide +kernel)
      exact (Nat.log2_lt z).mpr h2
  · have e := int_text_length_le10 (k := 41) (a := i) (by decide) (Nat.lt_of_le_of_lt h (by decide +kernel))
    show (Str.ofString (toString i)).length ≤ 42
    rw [PySem.ofString_length]
    exact e
mutual
theorem gd_show (hk : k ≤ 1000) : ∀ t : PyData, gd k t = true → t.showable = true ∧ t.leavesShort 42 = true ∧ nt t = true ∧ cl t = true
  | .none, _ => ⟨rfl, rfl, rfl, rfl⟩
  | .bool _, _ => ⟨rfl, rfl, rfl, rfl⟩
  | .int i, g => by
    have h := gd_int (i := i) (by have := gd_num.mp g; omega)
    exact ⟨decide_eq_true h.1, decide_eq_true h.2, rfl, rfl⟩
  | .str z, g => by
    refine ⟨rfl, ?_, rfl, decide_eq_true (by have := (gd_str.mp g).1; omega)⟩
    show (z.cps.toList.all fun c => decide (c < 16 ^ 8)) = true
    rw [List.all_eq_true]
    intro c hc
    exact decide_eq_true (Nat.lt_trans ((gd_str.mp g).2 c hc) (by decide))
  | .list xs, g => gdAll_show hk xs g
  | .tuple xs, g => gdAll_show hk xs g
  | .dict kvs, g => by
    obtain ⟨h1, h2, h3⟩ := gdKv_show hk kvs g
    refine ⟨h1, h2, h3, ?_⟩
    match kvs, g with
    | [], _ => rfl
    | (.int _, _) :: _, _ => rfl
    | (.str _, _) :: _, _ => rfl
    | (.none, _) :: _, g => cases g
    | (.bool _, _) :: _, g => cases g
    | (.list _, _) :: _, g => cases g
    | (.tuple _, _) :: _, g => cases g
    | (.dict _, _) :: _, g => cases g
theorem gdAll_show (hk : k ≤ 1000) : ∀ ts : List PyData, gdAll k ts = true → PyData.showableAll ts = true ∧ PyData.leavesShortAll 42 ts = true ∧ ntAll ts = true ∧ clAll ts = true
  | [], _ => ⟨rfl, rfl, rfl, rfl⟩
  | x :: xs, g => by
    have g' : (gd k x && gdAll k xs) = true := g
    rw [Bool.and_eq_true] at g'
    obtain ⟨a1, a2, a3, a4⟩ := gd_show hk x g'.1
    obtain ⟨b1, b2, b3, b4⟩ := gdAll_show hk xs g'.2
    refine ⟨?_, ?_, ?_, ?_⟩
    · show (x.showable && PyData.showableAll xs) = true
      rw [a1, b1]
      rfl
    · show (x.leavesShort 42 && PyData.leavesShortAll 42 xs) = true
      rw [a2, b2]
      rfl
    · show (nt x && ntAll xs) = true
      rw [a3, b3]
      rfl
    · show (cl x && clAll xs) = true
      rw [a4, b4]
      rfl
theorem gdKv_show (hk : k ≤ 1000) : ∀ ts : List (PyData × PyData), gdKv k ts = true → PyData.showableKv ts = true ∧ PyData.leavesShortKv 42 ts = true ∧ ntKv ts = true
  | [], _ => ⟨rfl, rfl, rfl⟩
  | (.int j, v) :: xs, g => by
    have g' : (gd k (.int j) && gd k v && gdKv k xs) = true := g
    rw [Bool.and_eq_true, Bool.and_eq_true] at g'
    obtain ⟨a1, a2, a3, _⟩ := gd_show hk (.int j) g'.1.1
    obtain ⟨e1, e2, e3, _⟩ := gd_show hk v g'.1.2
    obtain ⟨b1, b2, b3⟩ := gdKv_show hk xs g'.2
    refine ⟨?_, ?_, ?_⟩
    · show ((PyData.int j).showable && v.showable && PyData.showableKv xs) = true
      rw [a1, e1, b1]
      rfl
    · show ((PyData.int j).leavesShort 42 && v.leavesShort 42 && PyData.leavesShortKv 42 xs) = true
      rw [a2, e2, b2]
      rfl
    · show (nt v && ntKv xs) = true
      rw [e3, b3]
      rfl
  | (.str j, v) :: xs, g => by
    have g' : (gd k (.str j) && gd k v && gdKv k xs) = true := g
    rw [Bool.and_eq_true, Bool.and_eq_true] at g'
    obtain ⟨a1, a2, a3, _⟩ := gd_show hk (.str j) g'.1.1
    obtain ⟨e1, e2, e3, _⟩ := gd_show hk v g'.1.2
    obtain ⟨b1, b2, b3⟩ := gdKv_show hk xs g'.2
    refine ⟨?_, ?_, ?_⟩
    · show ((PyData.str j).showable && v.showable && PyData.showableKv xs) = true
      rw [a1, e1, b1]
      rfl
    · show ((PyData.str j).leavesShort 42 && v.leavesShort 42 && PyData.leavesShortKv 42 xs) = true
      rw [a2, e2, b2]
      rfl
    · show (nt v && ntKv xs) = true
      rw [e3, b3]
      rfl
  | (.none, _) :: _, g => by cases g
  | (.bool _, _) :: _, g => by cases g
  | (.list _, _) :: _, g => by cases g
  | (.tuple _, _) :: _, g => by cases g
  | (.dict _, _) :: _, g => by cases g
end
/-- of small parts, so deep and so great at most -/
structure Fit (k n m : Nat) (t : PyData) : Prop where
  g : gd k t = true
  d : t.depth ≤ n
  b : t.bulk ≤ m
theorem Fit.mono {n m k' n' m' : Nat} {t : PyData} (h : Fit k n m t) (h1 : k ≤ k') (h2 : n ≤ n') (h3 : m ≤ m') : Fit k' n' m' t := ⟨gd_mono h1 t h.g, Nat.le_trans h.d h2, Nat.le_trans h.b h3⟩
theorem Fit.cl {n m : Nat} {t : PyData} (h : Fit k n m t) (hk : k ≤ 1000) : Kr.cl t = true := (gd_show hk t h.g).2.2.2
theorem shw_of {t : PyData} (hk : k ≤ 1000) (g : gd k t = true) (hd : t.depth ≤ 64) (hb : t.bulk ≤ 300000) : Kr.shw t = true := by
  obtain ⟨a1, a2, a3, _⟩ := gd_show hk t g
  have e := PyData.shown_le_bulk 42 (by decide) t a2
  have : (42 + 2) * t.bulk ≤ 44 * 300000 := Nat.mul_le_mul (by decide) (by omega)
  unfold Kr.shw
  rw [a1, a3, decide_eq_true hd, decide_eq_true (Nat.le_trans e (Nat.le_trans (show _ ≤ 13200042 by omega) (by decide)))]
  rfl
theorem Fit.shw {n m : Nat} {t : PyData} (h : Fit k n m t) (hk : k ≤ 1000) (h1 : n ≤ 64) (h2 : m ≤ 300000) : Kr.shw t = true := shw_of hk h.g (Nat.le_trans h.d h1) (Nat.le_trans h.b h2)
theorem gd_tm : ∀ {t : Tm}, t.ok → t.sm → gd 0 t.data = true
  | .int _, _, h => gd_num.mpr h
  | .wrd z, h, _ => gd_str.mpr ⟨by have := h.2.1; omega, fun c hc => by have := h.2.2 c hc; omega⟩
  | .nil, _, _ => rfl
  | .unk n, _, h => by
    show (gd 0 (.str "?") && (gd 0 (.int n) && true)) = true
    rw [gd_num.mpr h]
    decide +kernel
  | .pair a b, h, h2 => by
    show (gd 0 a.data && (gd 0 b.data && true)) = true
    rw [gd_tm h.1 h2.1, gd_tm h.2 h2.2]
    rfl
def rowsOf : PyData → List PyData
  | .tuple rows => rows
  | _ => []
/-! a term that is told by its leaves -/
theorem word_wd {z : Str} (h : isWordS z = true) : Wd z := by
  unfold isWordS at h
  simp only [Bool.and_eq_true, decide_eq_true_eq, List.all_eq_true] at h
  refine ⟨h.1.1, h.1.2, fun c hc => ?_⟩
  have := h.2 c hc
  unfold signOk at this
  simpa using this
theorem tm_isTm : ∀ {d : PyData}, isTm d = true → ∃ t : Tm, t.ok ∧ d = t.data
  | .int i, _ => ⟨.int i, trivial, rfl⟩
  | .str z, h => ⟨.wrd z, word_wd (by simpa [isTm, leaves, isLeaf, isNil, isAtom, isWhole, isWord, isUk] using h), rfl⟩
  | .tuple [], _ => ⟨.nil, trivial, rfl⟩
  | .tuple [a, b], h => by
    have h' : (leaves (.tuple [a, b])).all isLeaf = true := h
    cases q : isQ a with
    | false =>
      rw [leaves_pair q, List.all_append, Bool.and_eq_true] at h'
      obtain ⟨t, h1, rfl⟩ := tm_isTm (d := a) h'.1
      obtain ⟨u, h2, rfl⟩ := tm_isTm (d := b) h'.2
      exact ⟨.pair t u, ⟨h1, h2⟩, rfl⟩
    | true =>
      have h2 : isLeaf (.tuple [a, b]) = true := by simpa [leaves, q] using h'
      have h3 : isUk (.tuple [a, b]) = true := by simpa [isLeaf, isNil, isAtom, isWhole, isWord] using h2
      obtain rfl := isQ_is q
      cases b with
      | int n =>
        have : 0 ≤ n := by simpa [isUk] using h3
        exact ⟨.unk n, this, rfl⟩
      | _ => simp [isUk] at h3
  | .tuple [_], h => by simp [isTm, leaves, isLeaf, isNil, isAtom, isWhole, isWord, isUk] at h
  | .tuple (_ :: _ :: _ :: _), h => by simp [isTm, leaves, isLeaf, isNil, isAtom, isWhole, isWord, isUk] at h
  | .none, h => by cases h
  | .bool _, h => by cases h
  | .list _, h => by cases h
  | .dict _, h => by cases h
theorem isTm_data : ∀ {t : Tm}, t.ok → isTm t.data = true
  | .int _, _ => rfl
  | .wrd z, h => by
    have : isWordS z = true := by
      unfold isWordS
      rw [decide_eq_true h.1, decide_eq_true h.2.1]
      simp only [Bool.true_and, List.all_eq_true]
      intro c hc
      have := h.2.2 c hc
      simp [signOk, this.1, this.2]
    show (isNil (.str z) || (false || isWordS z) || isUk (.str z)) && true = true
    rw [this]
    rfl
  | .nil, _ => rfl
  | .unk n, h => by
    have h0 : (0 : Int) ≤ n := h
    have e : isUk (.tuple [.str "?", .int n]) = true := by simp [isUk, h0]
    simp [isTm, Tm.data, leaves, isLeaf, e]
  | .pair a b, h => by
    show (leaves (.tuple [a.data, b.data])).all isLeaf = true
    rw [leaves_pair (isQ_tm h.1), List.all_append]
    have h1 : (leaves a.data).all isLeaf = true := isTm_data h.1
    have h2 : (leaves b.data).all isLeaf = true := isTm_data h.2
    rw [h1, h2]
    rfl
theorem leaves_tm : ∀ {t : Tm}, t.ok → (leaves t.data).filterMap ukOf = t.vars
  | .int _, _ => rfl
  | .wrd _, _ => rfl
  | .nil, _ => rfl
  | .unk n, h => by
    have h : (0 : Int) ≤ n := h
    rw [show Tm.data (.unk n) = .tuple [.str "?", .int n] from rfl, leaves, if_pos isQ_q, List.filterMap_cons]
    have : ukOf (.tuple [.str "?", .int n]) = some n := by
      show (if isQ (.str "?") && decide (0 ≤ n) then some n else none) = _
      rw [isQ_q, decide_eq_true h]
      rfl
    rw [this]
    rfl
  | .pair a b, h => by
    rw [show Tm.data (.pair a b) = .tuple [a.data, b.data] from rfl, leaves_pair (isQ_tm h.1), List.filterMap_append, leaves_tm h.1, leaves_tm h.2]
    rfl
theorem nums_tm {ts : List Tm} (h : ∀ t ∈ ts, t.ok) : nums (ts.map Tm.data) = ts.flatMap Tm.vars := by
  unfold nums leavesAll
  induction ts with
  | nil => rfl
  | cons t ts ih =>
    rw [List.map_cons, List.flatMap_cons, List.filterMap_append, leaves_tm (h t (List.mem_cons_self ..)), ih fun u hu => h u (List.mem_cons_of_mem _ hu)]
    rfl
theorem eqv_ints (a b : List Int) : (PyData.list (a.map .int)).eqv (.list (b.map .int)) = decide (a = b) := by
  have key : ∀ a b : List Int, PyData.eqvAll (a.map .int) (b.map .int) = decide (a = b) := by
    intro a
    induction a with
    | nil =>
      intro b
      cases b with
      | nil => rfl
      | cons y b => simp [PyData.eqvAll]
    | cons x a ih =>
      intro b
      cases b with
      | nil => simp [PyData.eqvAll]
      | cons y b =>
        rw [List.map_cons, List.map_cons, PyData.eqvAll, ih b, eqv_int]
        by_cases h : x = y <;> simp [h]
  rw [PyData.eqv]
  exact key a b
theorem inOk_intsL (x : Int) (ns : List Int) : inOk (.int x) (.list (ns.map .int)) = true := by
  show (shp _ && shp _) = true
  rw [show shp (.list (ns.map .int)) = true from rShpL ns]
  rfl
theorem inD_intsL (x : Int) : ∀ ns : List Int, inD (.int x) (.list (ns.map .int)) = decide (x ∈ ns)
  | [] => by simp [inD]
  | n :: r => by
    have ih := inD_intsL x r
    show (PyData.eqv (.int n) (.int x) || inD (.int x) (.list (r.map .int))) = _
    rw [ih, eqv_int]
    by_cases h : n = x
    · subst h
      simp
    · have : ¬ x = n := fun e => h e.symm
      simp [h, this]
theorem size_bulk : ∀ t : Tm, t.size ≤ t.data.bulk + 1
  | .int _ => Nat.le_add_left _ _
  | .wrd _ => Nat.le_add_left _ _
  | .nil => Nat.le_add_left _ _
  | .unk _ => Nat.le_add_left _ _
  | .pair a b => by
    have h1 := size_bulk a
    have h2 := size_bulk b
    show a.size + b.size + 1 ≤ (PyData.tuple [a.data, b.data]).bulk + 1
    rw [bulk_pair]
    omega
theorem depth_data : ∀ t : Tm, t.depth ≤ t.data.depth + 1
  | .int _ => Nat.le_refl _
  | .wrd _ => Nat.le_refl _
  | .nil => Nat.le_add_left _ _
  | .unk _ => Nat.le_add_left _ _
  | .pair a b => by
    have h1 := depth_data a
    have h2 := depth_data b
    show max a.depth b.depth + 1 ≤ max a.data.depth (max b.data.depth 0) + 1 + 1
    omega
end Kr

set_option Elab.async false
set_option linter.all false
set_option maxRecDepth 100000
set_option maxHeartbeats 4000000
namespace Kr
open PySem PySem.Spec PyProof.Rows L2
/-! dict(x), x a tuple or a list of pairs -/
section
variable {X : Cx} {C : Cz} {pins : List (Addr × Obj)} {σ : L2.St} {H : Hp} {s : Shared}
theorem pairsV (I : Inv X pins σ H s) : ∀ {ps : List Addr} {kvs : List (Key × V)}, Paired (fun p kv => SqT X.K H p [kV kv.1, kv.2]) ps kvs →
    ∃ (prs : List (Key × Value)) (pv : List (Value × Value)), KV kvs prs ∧ pv.length = ps.length ∧ prs.length = ps.length ∧ ∀ (j : Nat) (k v : Value), pv[j]? = some (k, v) → ∃ b key, ps[j]? = some b ∧ s.heap.IsTuple b #[k, v] ∧ prs[j]? = some (key, v) ∧ (mixKind X.prog X.w).is key k = true
  | _, _, .nil => ⟨[], [], .nil, rfl, rfl, fun j k v e => by simp at e⟩
  | _, _, .cons (a := p) (b := kv) h t => by
    obtain ⟨prs, pv, r, h1, h2, h3⟩ := pairsV I t
    obtain ⟨its, rv, ⟨o, e, hc, n, hd⟩, _⟩ := I.tuple h
    obtain ⟨u, y, ei, ru, ry⟩ := vals2 rv
    subst ei
    refine ⟨(kv.1, y) :: prs, (u, y) :: pv, .cons ⟨rfl, ry⟩ r, by simp [h1], by simp [h2], fun j k v q => ?_⟩
    cases j with
    | zero =>
      cases (Option.some.inj q : (u, y) = (k, v))
      exact ⟨p, kv.1, rfl, ⟨o, e, hc, n, hd⟩, rfl, kV_is (P := X.prog) (w := X.w) ru⟩
    | succ j =>
      obtain ⟨b, key, a1, a2, a3, a4⟩ := h3 j k v (by simpa using q)
      exact ⟨b, key, by simpa using a1, a2, by simpa using a3, a4⟩
/-- a list or a tuple, its object known to have no dict -/
theorem call_dictQ (hc : X.calm = true) : CallR X (.type "dict") (fun xs H Q => ∃ (a : Addr) (ps : List Addr) (kvs : List (Key × V)), xs = [.ref a] ∧ (SqL X.K H a (ps.map V.ref) ∨ Tp H a (ps.map V.ref)) ∧ Paired (fun p kv => SqT X.K H p [kV kv.1, kv.2]) ps kvs ∧
    ∀ p, H p = none → Q (.ref p) (upd H p (.dK (mergeK [] kvs)))) := by
  intro pins s σ H xs us Q I r ⟨a, ps, kvs, ex, hs, hp, q⟩
  subst ex
  rcases hs with hs | hs
  · exact call_dictP hc pins s σ H _ us Q I r ⟨a, ps, kvs, rfl, hs, hp, q⟩
  obtain ⟨u, rfl, rx⟩ := vals1 r
  cases rx
  obtain ⟨ob, eo, nd⟩ := hs
  obtain ⟨ho, hz, its, rv, o', ho', hcl, n, hdat⟩ := I.hok a _ eo
  rw [ho] at ho'
  cases ho'
  have ei := refs_at rv
  subst ei
  obtain ⟨prs, pv, rk, l1, l2, hpv⟩ := pairsV I hp
  rw [List.length_map] at hz
  have ok : PlainSeq "tuple" s.heap a (ps.map Value.ref).toArray ∧ PairItems s.heap (ps.map Value.ref).toArray (fun j => ps.getD j 0) pv := by
    refine ⟨⟨ob, n, ho, hcl, nd, hdat⟩, by simp [l1], fun j k v e => ?_⟩
    obtain ⟨b, key, e1, e2, _⟩ := hpv j k v e
    have eb : ps.getD j 0 = b := by rw [List.getD_eq_getElem?_getD, e1]; rfl
    exact ⟨by simp [e1], by show PairAt s.heap (ps.getD j 0) k v; rw [eb]; exact .inl e2⟩
  refine PySem.call_dict_pairs (knd := mixKind X.prog X.w) (kvs := prs) (PairArg.tuple a (ps.map Value.ref).toArray (fun j => ps.getD j 0) pv) (I.ok.hd hc) ok ⟨by rw [l1, l2], fun i key v e => ?_⟩ (by rw [l1]; exact hz) fun h' tk hd hk => ?_
  · obtain ⟨b, k, e1, e2, e3, e4⟩ := hpv i key v e
    exact ⟨k, e3, e4⟩
  · have hm : (s.heap.objs.size == sysModules) = false := beq_eq_false_iff_ne.mpr (Nat.ne_of_gt I.big)
    have hl : (mergeK [] kvs).length ≤ sizeLine := by
      refine Nat.le_trans (length_mergeK kvs []) ?_
      rw [List.length_nil, Nat.zero_add, ← hp.length]
      exact hz
    exact ⟨.ref s.heap.objs.size, _, I.laid (t' := tk) (fun b o e => hk b o (fun z => nomatch z) e) (Nat.le_refl _) (show ObjOk X.prog X.w _ _ _ (.dK (mergeK [] kvs)) from ⟨hl, hm, merged [] prs, KV.merge rk .nil, hd⟩), rfl, q _ (I.hok.fresh (Nat.le_refl _))⟩
/-- pairs as data -/
def pairsD (l : DL) : List PyData := l.map fun p => .tuple [keyD p.1, p.2]
theorem dq_pairs : ∀ {l : DL} {vs : List V}, DqAll C H vs (pairsD l) → ∃ (ps : List Addr) (kvs : List (Key × V)), vs = ps.map V.ref ∧ Paired (fun p kv => SqT X.K H p [kV kv.1, kv.2]) ps kvs ∧ DqL C H kvs l
  | [], _, .nil => ⟨[], [], rfl, .nil, .nil⟩
  | (k, d) :: l, _, .cons h t => by
    obtain ⟨ps, kvs, rfl, h1, h2⟩ := dq_pairs t
    cases h with
    | @tup a xs _ ht hr =>
      cases hr with
      | cons g1 hr =>
        cases hr with
        | cons g2 hr =>
          cases hr
          rename_i v1 v2
          cases dq_key g1
          exact ⟨a :: ps, (k, v2) :: kvs, rfl, .cons ht.sq h1, .cons g2 h2⟩
@[simp] def fDictP : Fr := fun ds Q => ∃ l : DL, (ds = [.tuple (pairsD l)] ∨ ds = [.list (pairsD l)]) ∧ Q (dD (mergeG [] l))
theorem cq_dictP (hc : X.calm = true) : CQ X C (.type "dict") fDictP := by
  refine ⟨fun pins s σ H xs us Q I r q => ?_, fun x Q Q' w ⟨l, e1, q⟩ => ⟨l, e1, w _ q⟩⟩
  obtain ⟨ds, hr, j, l, e, q⟩ := q
  have fin : ∀ (kvs : List (Key × V)), DqL C H kvs l → ∀ p, H p = none → Q (.ref p) (upd H p (.dK (mergeK [] kvs))) := fun kvs h2 p np => by
    have sm := same_upd (o := .dK (mergeK [] kvs)) np
    exact q _ _ (kxSame sm) (C.same _ _ sm j) (.dct (freshM C j np) (.inl upd_same) ((DqL.merge .nil h2).keep (kxSame sm)).kv)
  rcases e with rfl | rfl
  · cases hr with
    | cons hd ht =>
      cases ht
      cases hd with
      | @tup a vs _ h1 hA =>
        obtain ⟨ps, kvs, rfl, g1, g2⟩ := dq_pairs (X := X) hA
        exact call_dictQ hc pins s σ H _ us Q I r ⟨a, ps, kvs, rfl, .inr h1, g1, fin kvs g2⟩
  · cases hr with
    | cons hd ht =>
      cases ht
      cases hd with
      | @lst a vs _ n1 h1 hA =>
        obtain ⟨ps, kvs, rfl, g1, g2⟩ := dq_pairs (X := X) hA
        exact call_dictQ hc pins s σ H _ us Q I r ⟨a, ps, kvs, rfl, .inl (.inl (.inl h1)), g1, fin kvs g2⟩
/-! sorted(xs) of data -/
def srtD (xs : List PyData) : List PyData := xs.mergeSort (PySem.W.dataLe false id)
structure SrtOk (xs : List PyData) : Prop where
  al : PySem.W.AllAlike xs
  so : PySem.W.Sortable xs
  nt : ntAll xs = true
  len : xs.length ≤ 1000000
  dep : ∀ d ∈ xs, d.depth ≤ 64
theorem each_dq : ∀ {vs : List V} {us : List Value} {ds : List PyData}, Vals vs us → DqAll C H vs ds → PySem.W.EachIs (fun u d => ∃ v, RelV v u ∧ Dq C H v d) us ds
  | _, _, _, .nil, .nil => .nil
  | _, _, _, .cons r t, .cons h q => .cons ⟨_, r, h⟩ (each_dq t q)
theorem dq_each : ∀ {us : List Value} {ds : List PyData}, PySem.W.EachIs (fun u d => ∃ v, RelV v u ∧ Dq C H v d) us ds → ∃ vs : List V, Vals vs us ∧ DqAll C H vs ds
  | _, _, .nil => ⟨[], .nil, .nil⟩
  | _, _, .cons h t => by
    obtain ⟨v, r, q⟩ := h
    obtain ⟨vs, r2, q2⟩ := dq_each t
    exact ⟨v :: vs, .cons r r2, .cons q q2⟩
@[simp] def fSort : Fr := fun ds Q => ∃ xs, ds = [.list xs] ∧ SrtOk xs ∧ Q (.list (srtD xs))
theorem cq_sortD (sy : Sy X.base) (hu : X.A.units + 70 < cLine) : CQ X C (.builtin "sorted") fSort := by
  refine ⟨fun pins s σ H xs us Q I r q => ?_, fun x Q Q' w ⟨l, e1, e2, q⟩ => ⟨l, e1, e2, w _ q⟩⟩
  obtain ⟨ds, hr, j, xs, rfl, ok, q⟩ := q
  cases hr with
  | cons hd ht =>
    cases ht
    cases hd with
    | @lst a vs _ n1 hH hA =>
      obtain ⟨u, rfl, rx⟩ := vals1 r
      cases rx
      obtain ⟨its, rv, pl, hz⟩ := I.list (.inl (.inl hH))
      obtain ⟨as, rd, hn⟩ := DqAll.reads sy I ok.nt hA rv
      have e1 := each_dq rv hA
      have e2 : PySem.W.EachIs (fun v d => ∃ as, Reads s.heap v (id d) as) its xs := PySem.W.readsAll_each id (by rw [List.map_id]; exact rd)
      have hlen : xs.length ≤ sizeLine := Nat.le_trans ok.len (by decide)
      refine PySem.W.sorted_data (enc := id) pl.isList e1 e2 (by rw [List.map_id]; exact ok.al) (by rw [List.map_id]; exact ok.so) hlen (fun d hd => ?_) fun out ho eo => ?_
      · have := ok.dep d hd
        show X.A.units + 2 + d.depth < cLine
        omega
      · obtain ⟨vs', rv', hA'⟩ := dq_each eo
        obtain ⟨ep, he'⟩ := PyProof.Rows.sortedAll_at s.heap its (List.toArray out)
        have nF : H (s.heap.objs.size + 1) = none := I.hok.fresh (Nat.le_succ _)
        have sm := same_upd (o := .lst vs') nF
        exact ⟨.ref (s.heap.objs.size + 1), _, I.laid (t' := s.toks) (fun _ _ => PyProof.Rows.sortedAll_old) (Nat.le_succ _) (show ObjOk X.prog X.w _ _ _ (.lst vs') from ⟨by rw [rv'.length, ho]; exact hlen, out, ep, rv', he'⟩), rfl, q _ _ (kxSame sm) (C.same _ _ sm j) (.lst (freshM C j nF) upd_same (hA'.keep (kxSame sm)))⟩
end
end Kr

set_option Elab.async false
set_option linter.all false
set_option maxRecDepth 100000
set_option maxHeartbeats 4000000
namespace Kr
open PySem PySem.Spec PyProof.Rows L2
/-! tables of code objects -/
def ExtP (P : Addr) (H H' : Hp) : Prop := ∀ b o, b ≠ P → H b = some o → H' b = some o
theorem fzTbl {ps : Array Value} {x : Fzd} : ¬ FzO (.tbl ps) x := by
  cases x
  · rintro ⟨o, z⟩
    cases z
  · intro z
    cases z
theorem ExtP.fz {P : Addr} {H H' : Hp} {q : Str} (e : ExtP P H H') (t : LamX.TabS H P q) : FzK H H' := fun b x h => by
  obtain ⟨ps, hP, _⟩ := t
  exact h.stay fun o z => e b o (h.neq hP fzTbl) z
structure IsTb (P : Addr) (q : Str) (C : Cz) : Prop where
  m : C.M P
  tab : ∀ H, C.J H → LamX.TabS H P q
  cl : ∀ H H', C.J H → LamX.TabS H' P q → ExtP P H H' → C.J H'
theorem IsTb.ext {P : Addr} {q : Str} {C C2 : Cz} (h : IsTb P q C) (x : Ext C C2) : IsTb P q C2 :=
  ⟨x.m _ h.m, fun H j => h.tab H (x.j H j), fun H H' j t e => x.k H H' j (h.cl H H' (x.j H j) t e) (e.fz (h.tab H (x.j H j))) fun b o m n eb => e b o (fun z => n (z ▸ h.m)) eb⟩
theorem IsTb.kx {P : Addr} {q : Str} {C : Cz} {H H' : Hp} (h : IsTb P q C) (j : C.J H) (e : ExtP P H H') : Kx C H H' := ⟨e.fz (h.tab H j), fun b o m eb => e b o (fun z => m (z ▸ h.m)) eb⟩
section
variable {X : Cx} {C : Cz} {pins : List (Addr × Obj)} {σ : L2.St} {H : Hp} {s : Shared}
/-- a lambda that takes nothing from around -/
theorem lam_mk {c P : Addr} {q : Str} {params : Arguments} {body : Expr} {scope : Scope} {pos : Pos} {E Q : Value → Shared → Prop} (I : Inv X pins σ H s) (TB : LamX.TabB X.base X.mg c P) (hcode : X.env.code = .ref c) (hq : X.env.qual ++ "<lambda>" = q)
    (hT : LamX.TabS H P q) (hdef : defaultsOf params X.env = ([], [])) (hcl : closureFor scope X.env = pure [])
    (h : ∀ (f c' : Addr) (pm ctv : Value) (H1 : Hp) (s' : Shared), Inv X pins σ H1 s' → ExtP P H H1 → LamX.TabS H1 P q → s'.heap.get? f = some (PySem.W.kla_obj "<lambda>" q params body scope [] pm c' ctv) → s'.heap.CodeRec (.ref c') q → Q (.ref f) s') :
    wpAny (model X.prog X.w) X.A (eval (.Lambda params body scope pos) X.env) Q E s := by
  subst hq
  obtain ⟨ps, hP, ht, old⟩ := hT
  have hPs : s.heap.get? P = some { cls := .none, data := .fields ps } := I.hok P _ hP
  have hg := I.mod.glob.keeps I.bk
  have code := TB.code.keeps I.bk
  have bm : s.heap.BuiltinsAt X.mg P := TB.bm.keeps I.bk
  refine PySem.W.kla_eval hdef ?_
  match hc : codeAmong pos ps.toList with
  | some cv =>
    obtain ⟨c', rfl, hco⟩ := old pos cv hc
    refine PySem.W.kla_makeFunctionHit hcl I.ok.glob hg hcode code hPs ht hc bm fun ctv h' tk keep _ => ?_
    have I1 : Inv X pins σ H { s with heap := h'.push (PySem.W.kla_obj "<lambda>" (X.env.qual ++ "<lambda>") params body scope [] ((X.mg "__name__").getD .none) c' ctv), toks := tk } := I.kept fun b o e => Heap.get?_push_of_some _ (keep b o e)
    obtain ⟨⟨oc, vs, t, e1, e2, e3⟩, _⟩ := I1.hok c' _ hco
    exact h _ c' _ ctv H _ I1 (fun _ _ _ e => e) ⟨ps, hP, ht, old⟩ (Heap.get?_push_size _ rfl) ⟨c', oc, vs, t, rfl, e1, e2, e3⟩
  | none =>
    refine PySem.W.kla_makeFunction hcl I.ok.glob hg hcode code hPs ht hc TB.gP bm fun c' ctv h' tk keep hge _ hrec htb => ?_
    obtain ⟨c2, oc, vs, t, ec, e1, e2, e3⟩ := hrec
    cases ec
    have nC : H c' = none := I.hok.fresh hge
    have nP : P ≠ c' := ne_of_none hP nC
    have I1 := LamX.inv_table (t' := tk) (q := X.env.qual ++ "<lambda>") (h' := h'.push (PySem.W.kla_obj "<lambda>" (X.env.qual ++ "<lambda>") params body scope [] ((X.mg "__name__").getD .none) c' ctv)) I hP (fun b o hb e => Heap.get?_push_of_some _ (keep b o hb e))
      (Heap.get?_push_of_some _ htb) hge ⟨oc, vs, t, Heap.get?_push_of_some _ e1, e2, e3⟩
    have ex : ExtP P H (upd (upd H P (.tbl (ps ++ #[rawInt pos.line, rawInt pos.col, .ref c']))) c' (LamX.CodeO c' (X.env.qual ++ "<lambda>"))) := fun b o hb e => by
      rw [upd_ne (ne_of_none e nC), upd_ne hb]
      exact e
    refine h _ c' _ ctv _ _ I1 ex ⟨_, (upd_ne nP).trans upd_same, ?_, fun p' cv hcv => ?_⟩ (Heap.get?_push_size _ rfl) ⟨c', oc, vs, t, rfl, Heap.get?_push_of_some _ e1, e2, e3⟩
    · rw [Array.toList_append]
      exact PySem.TriplesOk_snoc _ _ _ _ ht
    · rw [Array.toList_append] at hcv
      rcases LamX.among_app _ ht hcv with z | z
      · obtain ⟨c0, h1, h2⟩ := old p' cv z
        exact ⟨c0, h1, ex _ _ (fun y => by
          rw [y, hP] at h2
          exact LamX.codeO_ne _ (Option.some.inj h2).symm) h2⟩
      · exact ⟨c', z, upd_same⟩
end
/-! a lambda that gives a row's first -/
theorem turn0 {P : Program} {w : World} {A : Around} {s : Shared} {f c' t : Addr} {q x : Str} {params : Arguments} {scope : Scope} {pm ctv u : Value} {p1 p2 p3 : Pos} {j : Nat} {its : List Value} {k : PyData}
    (hA : A.depth < recursionLimit) (lim : s.heap.NoLimit) (of : s.heap.get? f = some (PySem.W.kla_obj "<lambda>" q params (.Subscript (.Name x p1) (.Constant (.int 0) j p2) p3) scope [] pm c' ctv)) (cr : s.heap.CodeRec (.ref c') q)
    (sk : scope.kind = .function) (co : scope.isCoroutine = false) (gen : scope.isGenerator = false) (nc : ∀ y ∈ scope.names, y.2 ≠ .cell) (hx : scope.names.lookup x = some .local)
    (hbind : ∀ u, bindArgs (PySem.W.kla_fn "<lambda>" q params (.Subscript (.Name x p1) (.Constant (.int 0) j p2) p3) scope [] pm (.ref c') ctv) ⟨[u], []⟩ = pure [(x, u)]) (hdb : (x == ("__debug__" : Str)) = false)
    (ht : IsTup s.heap t its.toArray) (hu : its[0]? = some u) (hr : Reads s.heap u k []) (h : Heap) (tk : Nat) (kp : ∀ b o, s.heap.get? b = some o → h.get? b = some o) :
    wpAny (model P w) A (call (.ref f) [.ref t]) (PySem.W.KeyPure k { s with heap := h, toks := tk }) (fun _ _ => False) { s with heap := h, toks := tk } := by
  obtain ⟨c2, oc, vs, tq, ec, e1, e2, e3⟩ := cr
  cases ec
  refine wpAny_call (PySem.W.kla_callFunE hA (kp _ _ of) rfl co gen rfl ⟨c', oc, vs, tq, rfl, kp _ _ e1, e2, e3⟩ ?_)
  rw [hbind]
  refine wpAny_pure (wpAny_newFunctionEnv nc (fun y hy => by
    cases hy with
    | head => exact hx
    | tail _ h => cases h) (fun h₁ hns hsb => ⟨(lim.keeps kp).fresh _ hsb, ?_⟩) sk)
  show codeAny _ _ (.expr _ (PySem.W.envX q scope h.objs.size f (.ref c') [])) _ _
  have k1 : ∀ b o, h.get? b = some o → h₁.get? b = some o := fun b o e => hsb.extBut b o (Nat.ne_of_lt (Heap.lt_size e)) (Heap.get?_push_of_some _ e)
  obtain ⟨ot, et, rt⟩ := ht
  refine PySem.W.kla_codeExpr (Subscript_ (wpAny_Name (wpAny_loadName_local (v := .ref t) sk hx hns (by simp [List.lookup]) (wpAny_Constant_int (subscriptTail_builtinR (x := u) (T := "tuple") ?_ slot_tuple_getitem.lookup
    (getItem_tuple (j := 0) (x := u) ⟨ot, k1 _ _ (kp _ _ et), rt⟩ (by decide) (by decide) ?_ (by simpa using hu) ⟨rfl, _, _, rfl, ?_, ?_⟩)))) hdb))
  · exact IsTup.typeIs (s := { s with heap := h₁, toks := _ }) ⟨ot, k1 _ _ (kp _ _ et), rt⟩
  · cases its with
    | nil => cases hu
    | cons a r =>
      have : ((r.length + 1 : Nat) : Int) > 0 := by omega
      simp [seqIndex?]
  · exact k1
  · exact PyProof.Rows.Reads.keeps (fun b o e => k1 _ _ (kp _ _ e)) hr
/-! sorted(xs, key=lambda v: v[0]), the rows' firsts whole numbers or texts -/
structure Rows0 (k : PyData → PyData) (xs : List PyData) : Prop where
  row : ∀ d ∈ xs, ∃ r, d = .tuple (k d :: r)
  len : xs.length ≤ 1000000
structure Key0 (k : PyData → PyData) : Prop where
  al : ∀ a b, PySem.W.alike (k a) (k b) = true
  ne : ∀ a, k a ≠ .none ∧ ∀ xs, k a ≠ .tuple xs
  rd : ∀ (C : Cz) (H : Hp) (v : V) (u : Value) (h : Heap) (d : PyData), Dq C H v (k d) → RelV v u → Reads h u (k d) []
  dep : ∀ d, (k d).depth = 0
def keyI (d : PyData) : Int := match d with
  | .tuple (.int n :: _) => n
  | _ => 0
def keyS (d : PyData) : Str := match d with
  | .tuple (.str x :: _) => x
  | _ => ⟨#[]⟩
theorem key0_int : Key0 (fun d => .int (keyI d)) := ⟨fun _ _ => rfl, fun _ => ⟨fun z => (by cases z), fun _ z => (by cases z)⟩, fun C H v u h d q r => by
  cases q
  obtain ⟨t, rfl⟩ := r
  exact .int _ _, fun _ => rfl⟩
theorem key0_str : Key0 (fun d => .str (keyS d)) := ⟨fun _ _ => rfl, fun _ => ⟨fun z => (by cases z), fun _ z => (by cases z)⟩, fun C H v u h d q r => by
  cases q
  obtain ⟨t, rfl⟩ := r
  exact .str _ _, fun _ => rfl⟩
@[simp] def vSort0 (k : PyData → PyData) (t : P0) : P0 := fun ρ Q => t ρ fun d => ∃ xs, d = .list xs ∧ Rows0 k xs ∧ Q (.list (xs.mergeSort (PySem.W.dataLe false k)))
section
variable {X : Cx} {C : Cz}
theorem qe_sort0 {c P : Addr} {q x : Str} {params : Arguments} {scope : Scope} {e : Expr} {te : P0} {k : PyData → PyData} {p p1 p2 p3 lpos kpos pos : Pos} {j : Nat} {n : Nat} (ky : Key0 k) (ht : IsTb P q C) (TB : LamX.TabB X.base X.mg c P) (hcode : X.env.code = .ref c)
    (hr : Room n X.A) (hg : Gl X "sorted") (hm : X.mg "sorted" = none) (ha : QE X C e te)
    (hq : X.env.qual ++ "<lambda>" = q) (hdef : defaultsOf params X.env = ([], [])) (hcl : closureFor scope X.env = pure [])
    (sk : scope.kind = .function) (co : scope.isCoroutine = false) (gen : scope.isGenerator = false) (nc : ∀ y ∈ scope.names, y.2 ≠ .cell) (hx : scope.names.lookup x = some .local)
    (hbind : ∀ (u cv pm ctv : Value), bindArgs (PySem.W.kla_fn "<lambda>" q params (.Subscript (.Name x p1) (.Constant (.int 0) j p2) p3) scope [] pm cv ctv) ⟨[u], []⟩ = pure [(x, u)]) (hdb : (x == ("__debug__" : Str)) = false)
    (he : backTo pos (starEach [e] X.env) = (false, eval e X.env) :: backTo pos (starEach [] X.env) := by rfl) (hpl : (backTo pos (starEach [e] X.env)).any (·.1) = false := by rfl) :
    QE X C (.Call (.Name "sorted" p) [e] [⟨some "key", .Lambda params (.Subscript (.Name x p1) (.Constant (.int 0) j p2) p3) scope lpos, kpos⟩] pos) (vSort0 k te) := by
  refine ⟨⟨fun pins s σ H Q I h => ?_⟩, fun ρ Q Q' w h => ha.mono _ _ _ (fun d ⟨xs, e1, e2, q⟩ => ⟨xs, e1, e2, w _ q⟩) h⟩
  obtain ⟨ρ, hE, jj, h⟩ := h
  refine wpAny_Call_Name_kw (ld_blt I hg hm (u := .builtin "sorted") (by decide +kernel) ?_)
  refine PyProof.Rows.callWith_kw ?_ he hpl rfl rfl
  rw [he]
  have q1 := (ha.pe.run pins s σ H (fun v H1 => Kx C H H1 ∧ C.J H1 ∧ ∃ xs, Dq C H1 v (.list xs) ∧ Rows0 k xs ∧ Kn C H Q (.list (xs.mergeSort (PySem.W.dataLe false k)))) I ⟨ρ, hE, jj, ha.mono _ _ _ (fun d ⟨xs, e1, e2, q⟩ v H1 k1 j1 r1 => ⟨k1, j1, xs, e1 ▸ r1, e2, q⟩) h⟩)
  refine Calls.spliced_cons (thn q1 fun u s1 ⟨v, H1, I1, r1, k1, j1, xs, d1, ok, q⟩ => Calls.spliced_nil ?_)
  show wpAny _ _ (evalAll [(do let v ← eval (.Lambda params (.Subscript (.Name x p1) (.Constant (.int 0) j p2) p3) scope lpos) X.env; standAt pos; pure v)]) _ _ s1
  refine wpAny_evalAll_cons (wpAny_bind (lam_mk I1 TB hcode hq (ht.tab _ j1) hdef hcl fun f c' pm ctv H2 s2 I2 ex T2 hf cr => wpAny_bind (wpAny_standAt (wpAny_pure (wpAny_evalAll_nil ?_)))))
  show wpAny _ _ (call (.builtin "sorted") [u] [(Str.ofString "key", .ref f)]) _ _ s2
  have k2 : Kx C H1 H2 := ht.kx j1 ex
  have j2 := ht.cl _ _ j1 T2 ex
  have d2 := d1.keep k2
  cases d2 with
  | @lst a vs _ n1 hH hA =>
    cases r1
    obtain ⟨its, rv, pl, hz⟩ := I2.list (.inl (.inl hH))
    have e1 := each_dq rv hA
    have hlen : xs.length ≤ sizeLine := Nat.le_trans ok.len (by decide)
    refine PySem.W.sorted_key_data (b := false) k pl.isList e1 (PySem.W.AllAlike.of fun a b => ky.al a b) (PySem.W.Sortable.others fun a => ky.ne a) hlen (fun d _ => ?_) (PyProof.Rows.ksk_s1 _ _) (fun _ => PyProof.Rows.ksk_l1 _ _) (fun _ => PyProof.Rows.ksk_t1 _ _) (fun u d ⟨v, rv', hd⟩ hm' h tk kp => ?_) fun out c h' tk kp hn hD ho eo => ?_
    · have := hr.units
      rw [ky.dep d]
      omega
    · obtain ⟨r, ed⟩ := ok.row d hm'
      rw [ed] at hd
      cases hd with
      | @tup ta zs _ hT hZ =>
        cases hZ with
        | @cons v0 zs' _ _ hk hZ =>
          cases rv'
          obtain ⟨its0, rz, ht0, _⟩ := I2.tuple hT.sq
          cases rz with
          | @cons _ u0 _ us0 ru rz =>
            exact turn0 (A := X.A.in1.in1) (show X.A.depth < recursionLimit from hr.depth) (I2.nolimit) hf cr sk co gen nc hx (fun u => hbind u _ _ _) hdb ht0 rfl (ky.rd C H2 v0 u0 _ d hk ru) h tk kp
    · obtain ⟨vs', rv', hA'⟩ := dq_each eo
      have nF : H2 (s2.heap.objs.size + 1) = none := I2.hok.fresh (Nat.le_succ _)
      have sm := same_upd (o := .lst vs') nF
      exact ⟨.ref (s2.heap.objs.size + 1), _, I2.laid (t' := tk) kp (Nat.le_succ _) (show ObjOk X.prog X.w _ _ _ (.lst vs') from ⟨by rw [rv'.length, ho]; exact hlen, out, c, rv', hD⟩), rfl, q _ _ (k1.trans (k2.trans (kxSame sm))) (C.same _ _ sm j2) (.lst (freshM C j2 nF) upd_same (hA'.keep (kxSame sm)))⟩
end
end Kr

set_option Elab.async false
set_option linter.all false
set_option maxRecDepth 100000
set_option maxHeartbeats 4000000
namespace Kr
open PySem PySem.Spec PyProof.Rows L2
/-- the law's call, with tables of code objects -/
theorem glawT {P : Program} {w : World} {K : PySem.W.Frag} {mg mb : Str → Option Value} {k : Nat} {fa a : Addr} {fd : FuncData} {x : Str} {sp : Sp} {s₁ : Shared} {vs : List Value} {ns : List Int} {cs : List (Addr × Addr)} (KX : K.In s₁.heap) (hns : s₁.heap.Ns mainGlobals mg)
    (hb : s₁.heap.Ns builtinsNs mb) (hbb : ∀ x : Str, x ≠ "__name__" → mb x = bootBuiltins x) (hlim : s₁.heap.NoLimit) (hg : s₁.gens = #[]) (ha : s₁.heap.get? a = some { cls := .type "list", data := .seq vs.toArray }) (hi : IntsAre vs ns) (hl : ns.length ≤ sizeLine) (hr : Room k callerA)
    (hT : ∀ p ∈ cs, PySem.W.CodeHd s₁.heap p.1 p.2 ∧ s₁.heap.get? p.2 = some { cls := .none, data := .fields #[] }) (nT : ∀ p ∈ cs, K.lookup p.2 = none)
    (hbm : ∃ (bm : Addr) (ob : Obj), mg "__builtins__" = some (.ref bm) ∧ bm ≠ builtinsNs ∧ s₁.heap.get? bm = some ob ∧ ob.cls = .type "module" ∧ ob.dict = some builtinsNs ∧ ob.data = .plain)
    (hsm : ∃ mm, s₁.heap.Ns sysModules mm) (F : ∀ base : Heap, K.In base → base.Ns mainGlobals mg → Sy base → (∀ p ∈ cs, LamX.TabB base mg p.1 p.2) → GOk P w K mg base k fa fd [x] sp) (hbind : ∀ (s : Shared) (u : Value), BindsTo s fd ⟨[u], []⟩ [(x, u)])
    (hsp : ∀ H : Hp, (∀ p ∈ cs, H p.2 = some (.tbl #[])) → SqL K H a (ns.map V.int) → sp [.ref a] H (fun v _ => v = .bl true) fun _ _ _ => False) :
    codeAny (model P w) callerA (.call (.ref fa) ⟨[.ref a], []⟩) (fun r s' => r = .ok (.ret (.bool true)) ∧ OldK s₁.heap s'.heap ∧ s'.os = s₁.os ∧ AllBare s'.gens) s₁ := by
  have rv := vals_ints hi
  let tb : Addr → Prop := fun b => ∃ p ∈ cs, p.2 = b
  have tbs : ∀ {b : Addr}, tb b → s₁.heap.get? b = some { cls := .none, data := .fields #[] } := fun {b} ⟨p, hp, e⟩ => e ▸ (hT p hp).2
  have aT : ¬ tb a := fun z => by
    have q := tbs z
    rw [ha] at q
    cases q
  have from_ : ∀ H : Hp, (∀ b, H b = none ∨ (tb b ∧ H b = some (.tbl #[])) ∨ ∃ ob xs, H b = some (.frz ob (.lst xs))) → (∀ p ∈ cs, H p.2 = some (.tbl #[])) → SqL K H a (ns.map V.int) → HOk P w H s₁.heap → (∀ b u, H b = some u → (b = a ∧ K.lookup a = none) ∨ tb b) →
      codeAny (model P w) callerA (.call (.ref fa) ⟨[.ref a], []⟩) (fun r s' => r = .ok (.ret (.bool true)) ∧ OldK s₁.heap s'.heap ∧ s'.os = s₁.os ∧ AllBare s'.gens) s₁ := by
    intro H hO hH hS hok hA
    have free : ∀ {b : Addr} {o : Obj}, s₁.heap.get? b = some o → (b = a → K.lookup a = none → False) → ¬ tb b → H b = none := fun {b o} e no nt => by
      cases z : H b with
      | none => rfl
      | some u => exact ((hA b u z).elim (fun y => no y.1 y.2) nt).elim
    have free2 : ∀ {b : Addr} {o : Obj}, s₁.heap.get? b = some o → (∀ us n, o.data ≠ .seq us n) → o.data ≠ .fields #[] → H b = none := fun {b o} e n1 n2 => free e (fun z _ => by
      subst z
      rw [ha] at e
      cases e
      exact n1 _ _ rfl) fun z => by
      rw [tbs z] at e
      cases e
      exact n2 rfl
    have nsK : ∀ {b : Addr} {m : Str → Option Value}, s₁.heap.Ns b m → (hidT s₁.heap H).Ns b m := by
      rintro b m ⟨o, es, ep, e, d, r⟩
      exact ⟨o, es, ep, hidT_get e (free2 e (fun us n z => by rw [d] at z; cases z) fun z => by rw [d] at z; cases z), d, r⟩
    have hKb : K.In (hidT s₁.heap H) := fun b o e => hidT_get (KX b o e) (free (KX b o e) (fun z n => by
      subst z
      rw [e] at n
      cases n) fun ⟨p, hp, z⟩ => by
      rw [← z, nT p hp] at e
      cases e)
    have gD : ∀ {b : Addr} {o : Obj}, s₁.heap.get? b = some o → o.data = .plain → (hidT s₁.heap H).get? b = some o := fun {b o} e d => hidT_get e (free2 e (fun us n z => by rw [d] at z; cases z) fun z => by rw [d] at z; cases z)
    have TB : ∀ p ∈ cs, LamX.TabB (hidT s₁.heap H) mg p.1 p.2 := fun p hp => by
      obtain ⟨C, tP⟩ := hT p hp
      obtain ⟨bm, ob, b1, b2, b3, b4, b5, b6⟩ := hbm
      have gG : ∀ {b : Addr} {o : Obj}, s₁.heap.get? b = some o → (∀ es ep, o.data ≠ .dict es ep) → mainGlobals ≠ b := fun {b o} e n z => by
        obtain ⟨o2, es, ep, e2, d2, _⟩ := hns
        rw [z, e] at e2
        cases e2
        exact n _ _ d2
      refine ⟨?_, ⟨bm, ob, b1, b2, ?_, ?_, gD b3 b6, b4, b5, b6⟩, gG tP fun es ep z => by cases z⟩
      · obtain ⟨o, us, file, tf, flags, tg, inF, text, tt, e1, r1, r2, r3, r⟩ := C
        refine ⟨o, us, file, tf, flags, tg, inF, text, tt, hidT_get e1 (free2 e1 (fun vs n z => ?_) fun z => ?_), r1, r2, r3, r⟩
        · rw [r2] at z
          cases z
        · rw [r2] at z
          cases z
          simp at r3
      · exact (gG b3 fun es ep z => by rw [b6] at z; cases z).symm
      · intro z
        rw [z, tP] at b3
        cases b3
        cases b6
    have e0 : Env0 P w K mg (hidT s₁.heap H) callerA [] s₁ H :=
      ⟨rfl, ⟨hKb, nsK hns, ⟨mb, nsK hb, hbb⟩, hlim.elim fun mc h => ⟨mc, nsK h.1, h.2⟩⟩, fun _ _ e => of_hidT e, Nat.le_of_eq (hidT_size _ _), True.intro, fun b (z : b ∈ ([] : List Addr)) => absurd z List.not_mem_nil, hok, .of_eq hg⟩
    refine codeAny_mono ((F _ hKb (nsK hns) (hsm.elim fun _ h => (nsK h).elim fun o h => h.elim fun _ h => h.elim fun _ h => ⟨o, h.1⟩) TB).run callerA [] s₁ H ⟨[.ref a], []⟩ [.ref a] [.ref a] _ _ rfl hr e0 (hbind s₁ (.ref a)) (.cons rfl .nil) (hsp H hH hS)) ?_
    intro r s' h
    match r, h with
    | .error e, h => exact h.elim
    | .ok .next, h => exact h.elim
    | .ok .brk, h => exact h.elim
    | .ok .cont, h => exact h.elim
    | .ok (.ret u), ⟨v, H', os, bare, un, hok', r', q⟩ =>
      cases (show v = .bl true from q)
      cases (show u = Value.bool true from r')
      have old : ∀ b o, s₁.heap.get? b = some o → (s'.heap.get? b = some o ∧ ¬ tb b) ∨ (tb b ∧ ∃ more : Array Value, s'.heap.get? b = some { cls := .none, data := .fields more }) := fun b o e => by
        rcases hO b with z | ⟨t, z⟩ | ⟨ob, xs, z⟩
        · refine .inl ⟨un.keep b o e z (fun (z : b ∈ ([] : List Addr)) => absurd z List.not_mem_nil) (fun (z : b ∈ ([] : List Addr)) => absurd z List.not_mem_nil), fun ⟨p, hp, t⟩ => ?_⟩
          rw [← t, hH p hp] at z
          cases z
        · obtain ⟨more, y⟩ := un.tbls b _ z
          exact .inr ⟨t, _, hok' b _ y⟩
        · have z1 := (hok b _ z).1
          have z2 := (hok' b _ (un.frzs b ob _ z)).1
          rw [e] at z1
          cases z1
          refine .inl ⟨z2, fun ⟨p, hp, t⟩ => ?_⟩
          rw [← t, hH p hp] at z
          cases z
      refine ⟨rfl, ⟨fun b o e => ?_, fun b o e => ?_⟩, os, bare⟩
      · rcases old b o e with z | ⟨t, more, z⟩
        · exact .inl z.1
        · have e1 := tbs t
          rw [e] at e1
          cases e1
          obtain ⟨p, hp, ep⟩ := t
          obtain ⟨C, tP⟩ := hT p hp
          refine .inr (.inl ⟨?_, rfl, #[], more, rfl, ?_⟩)
          · rw [← ep]
            exact (C.tab tP).isCodeTable
          · rw [Array.empty_append]
            exact z
      · rcases old b o e with z | ⟨t, more, z⟩
        · exact ⟨_, z.1⟩
        · exact ⟨_, z⟩
  classical
  have atb : ∀ {b : Addr}, tb b → ¬ b = a := fun t z => aT (z ▸ t)
  cases hk : K.lookup a with
  | some o =>
    have e := KX a o hk
    rw [ha] at e
    cases e
    refine from_ (fun b => if tb b then some (.tbl #[]) else none) (fun b => ?_) (fun p hp => if_pos ⟨p, hp, rfl⟩) (.inr ⟨_, vs.toArray, _, hk, rfl, rfl, rfl, by rw [List.size_toArray, hi.length]; exact hl, by simpa using rv⟩) (fun b u z => ?_) (fun b u z => ?_)
    all_goals by_cases t : tb b
    · exact .inr (.inl ⟨t, if_pos t⟩)
    · exact .inl (if_neg t)
    · cases (if_pos t).symm.trans z
      exact tbs t
    · cases (if_neg t).symm.trans z
    · exact .inr t
    · cases (if_neg t).symm.trans z
  | none =>
    refine from_ (fun b => if b = a then some (.frz { cls := .type "list", data := .seq vs.toArray } (.lst (ns.map V.int))) else if tb b then some (.tbl #[]) else none) (fun b => ?_) (fun p hp => (if_neg (atb ⟨p, hp, rfl⟩)).trans (if_pos ⟨p, hp, rfl⟩)) (.inl (.inr ⟨_, if_pos rfl⟩)) (fun b u z => ?_) (fun b u z => ?_)
    all_goals by_cases hb' : b = a
    · exact .inr (.inr ⟨_, _, if_pos hb'⟩)
    · by_cases t : tb b
      · exact .inr (.inl ⟨t, (if_neg hb').trans (if_pos t)⟩)
      · exact .inl ((if_neg hb').trans (if_neg t))
    · cases (if_pos hb').symm.trans z
      subst hb'
      exact ⟨ha, by rw [List.length_map]; exact hl, vs, _, rv, ha⟩
    · have z := (if_neg hb').symm.trans z
      by_cases t : tb b
      · cases (if_pos t).symm.trans z
        exact tbs t
      · cases (if_neg t).symm.trans z
    · exact .inl ⟨hb', hk⟩
    · have z := (if_neg hb').symm.trans z
      by_cases t : tb b
      · exact .inr t
      · cases (if_neg t).symm.trans z
/-- where a def's table is, told by the fragment -/
def TabTold (q : Program) (K : PySem.W.Frag) (h : Heap) : Prop := ∀ (x : Str) (d : DefRec) (c P : Addr), (recsOf q).find? (fun e => e.name == x) = some d → PySem.W.tabIn K x = some (c, P) → PySem.W.CodeHd h c P ∧ h.get? P = some { cls := .none, data := .fields #[] }
theorem gwalkT {l : PySem.W.OpenLaw} {n k : Nat} {q : Program} {loose : List Str} {XP : (Str → Option Value) → Heap → Prop} {YP : World → Heap → Prop} {d : DefRec} {K : Params → PySem.W.Frag} {x : Str} (hn : l.most = some n) (hn2 : n ≤ sizeLine) (hdf : d.params.defaults = [])
    (hr : Room k callerA) (him : importsNone q = true) (hY : ∀ (w : World) (h : Heap), YP w h → (K w.params).In h)
    (F : ∀ (w : World) (mg : Str → Option Value) (fa : Addr) (h : Heap), (K w.params).In h → h.Ns mainGlobals mg → mg d.name = some (.ref fa) → TabTold q (K w.params) h → ∃ (fd : FuncData) (cs : List (Addr × Addr)) (sp : Sp), (∀ p ∈ cs, PySem.W.CodeHd h p.1 p.2 ∧ h.get? p.2 = some { cls := .none, data := .fields #[] }) ∧ (∀ p ∈ cs, (K w.params).lookup p.2 = none) ∧
      (∀ (s : Shared) (u : Value), BindsTo s fd ⟨[u], []⟩ [(x, u)]) ∧ (∀ (H : Hp) (a : Addr) (ns : List Int), ns.length ≤ n → (∀ p ∈ cs, H p.2 = some (.tbl #[])) → SqL (K w.params) H a (ns.map V.int) → sp [.ref a] H (fun v _ => v = .bl true) fun _ _ _ => False) ∧
      ∀ base : Heap, (K w.params).In base → base.Ns mainGlobals mg → Sy base → (∀ p ∈ cs, LamX.TabB base mg p.1 p.2) → GOk l.prog w (K w.params) mg base k fa fd [x] sp) :
    PySem.W.WalkO q loose XP YP l.row.toRowW d [] (fun f vs => PySem.call f vs) := by
  refine Att.attach_call hn hdf fun w s₀ s₁ mg mb fa o pm cd doc a vs ns G Y ho hd hcd hmg hobj hints hlen hg => ?_
  obtain ⟨fd, cs, sp, h1, h2, bd, hsp, hF⟩ := F w mg fa _ (hY w _ Y) G.T.g hmg fun y dd c P e1 e2 => PySem.W.tab_of G.T (hY w _ Y) e1 e2
  exact glawT (hY w _ Y) G.T.g G.T.b G.T.builtins G.T.nolimit hg hobj hints (Nat.le_trans hlen hn2) hr h1 h2 G.T.bmain ((G.T.seer him).mods.elim fun mm h => ⟨mm, h.1⟩) hF bd fun H hH hS => hsp H a ns hlen hH hS
end Kr

set_option Elab.async false
set_option linter.all false
set_option maxRecDepth 100000
set_option maxHeartbeats 4000000
namespace Kr
open PySem PySem.Spec PyProof.Rows L2
abbrev s__law_is_filling : Stmt := topS 34
theorem sc__law_is_filling : FnScope ["_law_thing", "_law_row", "_law_numbers_here", "_law_number", "_law_term_here", "_law_one"] ["_law_thing"] (defScope s__law_is_filling) := ⟨rfl, rfl, rfl, by decide +kernel, rfl, by decide +kernel, by decide +kernel⟩
section
variable {P : Program} {w : World} {K : PySem.W.Frag} {mg : Str → Option Value} {base : Heap} {n : Nat}
abbrev CIsT (P : Program) (w : World) (K : PySem.W.Frag) (mg : Str → Option Value) (base : Heap) (n : Nat) : Prop := Cal P w K mg base n "_law_is_term" ["_law_thing"] (spQ Any (p1 fun x => cl x = true ∧ x.bulk ≤ 390000) (b1 isTm))
abbrev COpen (P : Program) (w : World) (K : PySem.W.Frag) (mg : Str → Option Value) (base : Heap) (n : Nat) : Prop := Cal P w K mg base n "_law_open" ["_law_term_here"] (spQ Any (p1 (TmZ 62 4000)) rOpen)
theorem fil_bad {rows : List PyData} {r : PyData} (m : r ∈ rows) (h : isRow r = false) : isFil (.tuple rows) = false := by
  have : rows.all isRow = false := by
    rw [List.all_eq_false]
    exact ⟨r, m, by rw [h]; decide⟩
  show (rows.all isRow && _ && _) = false
  rw [this]
  rfl
theorem incr_pw : ∀ ns : List Int, incr ns = true ↔ ns.Pairwise (· < ·)
  | [] => by simp [incr]
  | [a] => by simp [incr]
  | a :: b :: r => by
    have ih := incr_pw (b :: r)
    show (decide (a < b) && incr (b :: r)) = true ↔ _
    rw [Bool.and_eq_true, ih, decide_eq_true_eq]
    refine Iff.trans ?_ (List.pairwise_cons (a := a) (l := b :: r)).symm
    refine ⟨fun ⟨h1, h2⟩ => ⟨fun x hx => ?_, h2⟩, fun ⟨h1, h2⟩ => ⟨h1 b (List.mem_cons_self ..), h2⟩⟩
    rcases List.mem_cons.mp hx with rfl | hx
    · exact h1
    · have := (List.pairwise_cons.mp h2).1 x hx
      omega
theorem pw_unique : ∀ {us ws : List Int}, us.Pairwise (· < ·) → ws.Pairwise (· < ·) → (∀ k, k ∈ us ↔ k ∈ ws) → us = ws
  | [], [], _, _, _ => rfl
  | [], w :: ws, _, _, h => absurd ((h w).mpr (List.mem_cons_self ..)) List.not_mem_nil
  | u :: us, [], _, _, h => absurd ((h u).mp (List.mem_cons_self ..)) List.not_mem_nil
  | u :: us, w :: ws, hu, hw, h => by
    obtain ⟨u1, u2⟩ := List.pairwise_cons.mp hu
    obtain ⟨w1, w2⟩ := List.pairwise_cons.mp hw
    have e : u = w := by
      rcases List.mem_cons.mp ((h u).mp (List.mem_cons_self ..)) with e | e
      · exact e
      · rcases List.mem_cons.mp ((h w).mpr (List.mem_cons_self ..)) with e2 | e2
        · exact e2.symm
        · have := w1 u e
          have := u1 w e2
          omega
    subst e
    rw [pw_unique u2 w2 fun k => ?_]
    constructor
    · intro hk
      rcases List.mem_cons.mp ((h k).mp (List.mem_cons_of_mem _ hk)) with e | e
      · have := u1 k hk
        omega
      · exact e
    · intro hk
      rcases List.mem_cons.mp ((h k).mpr (List.mem_cons_of_mem _ hk)) with e | e
      · have := w1 k hk
        omega
      · exact e
/-- a row with the term in it -/
theorem row_tm {r : PyData} (h : isRow r = true) : ∃ (n : Int) (t : Tm), t.ok ∧ r = .tuple [.int n, t.data] ∧ 0 ≤ n := by
  obtain ⟨n, u, rfl, hu⟩ := row_is h
  obtain ⟨t, ht, rfl⟩ := tm_isTm hu
  have h' : (decide (0 ≤ n) && isTm t.data && (!isUk t.data || decide (ukNo t.data < n))) = true := h
  simp only [Bool.and_eq_true, decide_eq_true_eq] at h'
  exact ⟨n, t, ht, rfl, h'.1.1⟩
theorem row_isT {n : Int} {t : Tm} (ht : t.ok) : isRow (.tuple [.int n, t.data]) = (decide (0 ≤ n) && !(match t with | .unk k => decide (n ≤ k) | _ => false)) := by
  show (decide (0 ≤ n) && isTm t.data && (!isUk t.data || decide (ukNo t.data < n))) = _
  rw [isTm_data ht, isUk_data ht]
  cases t with
  | unk k =>
    show (decide (0 ≤ n) && true && (!true || decide (k < n))) = (decide (0 ≤ n) && !decide (n ≤ k))
    by_cases h1 : 0 ≤ n <;> by_cases h2 : k < n <;> simp [h1, h2] <;> omega
  | _ => simp [Tm.isUnk]
theorem bulk_row {rows : List PyData} {r : PyData} (m : r ∈ rows) : r.bulk ≤ (PyData.tuple rows).bulk := bulk_mem m
theorem depth_mem : ∀ {ts : List PyData} {t : PyData}, t ∈ ts → t.depth ≤ PyData.depthAll ts
  | u :: us, t, h => by
    show t.depth ≤ max u.depth (PyData.depthAll us)
    rcases List.mem_cons.mp h with rfl | h
    · omega
    · have := depth_mem h
      omega
/-- what _law_is_filling asks of what it gets -/
structure FilIn (x : PyData) : Prop where
  g : gd 1000 x = true
  d : x.depth ≤ 60
  b : x.bulk ≤ 100000
  r : ∀ r ∈ rowsOf x, r.bulk ≤ 3900
  l : (rowsOf x).length ≤ 4000
theorem c__law_is_filling (sy : Sy base) (B : Bl mg) (D : Dfn K mg "_law_is_filling" s__law_is_filling ["_law_thing"]) (c__law_is_term : CIsT P w K mg base n) (c__law_is_unknown : CUnk P w K mg base n) (c__law_open : COpen P w K mg base n) :
    Cal P w K mg base (n + 1) "_law_is_filling" ["_law_thing"] (spQ Any (p1 FilIn) (b1 isFil)) := by
  refine defG [] D sc__law_is_filling len1 (by simp) (fun f C hG cdv A outer s H E g0 hr => ⟨_, (qss_cons (qs_if (qt_not (qt_val (qe_isi "tuple" (by decide) (fun _ h => pe_callB call_isi (by rfl) B.isinstance (by decide +kernel) (pa_cons h (pa_cons (pe_bltn (v := .ty "tuple") (by rfl) B.tuple (by decide +kernel) rfl) pa_nil))) (qv 0)))) (qss_one (qs_ret qe_bl)) qss_nil) (qss_cons (qs_for (G := (gName 1)) (dec := (dName 1)) PassesOwn.never rfl (fun _ x1 => (qi_tup (qv 0))) (fun _ => (qg_name (k := 1) sc__law_is_filling.nd rfl (by first | exact Or.inl rfl | exact Or.inr rfl))) (qss_cons (qs_if (QW.qt (qw_or (qt_not (qt_val (qe_isi "tuple" (by decide) (fun _ h => pe_callB call_isi (by rfl) B.isinstance (by decide +kernel) (pa_cons h (pa_cons (pe_bltn (v := .ty "tuple") (by rfl) B.tuple (by decide +kernel) rfl) pa_nil))) (qv 1)))) (qw_or (qt_cmp (oq_neA hr.units) (qe_callB cq_len (by rfl) B.len PySem.boot_len (qa_cons (qv 1) qa_nil)) qe_int (nomark _)) (qw_or1 (qt_not (qt_val (qe_isi "int" (by decide) (fun _ h => pe_callB call_isi (by rfl) B.isinstance (by decide +kernel) (pa_cons h (pa_cons (pe_bltn (v := .ty "int") (by rfl) B.int (by decide +kernel) rfl) pa_nil))) (qe_ix (qv 1) qe_int (fun _ _ => rfl))))))))) (qss_one (qs_ret qe_bl)) qss_nil) (qss_cons (qs_if (QW.qt (qw_or (qt_val (qe_isi "bool" (by decide) (fun _ h => pe_callB call_isi (by rfl) B.isinstance (by decide +kernel) (pa_cons h (pa_cons (pe_bltn (v := .ty "bool") (by rfl) B.bool (by decide +kernel) rfl) pa_nil))) (qe_ix (qv 1) qe_int (fun _ _ => rfl)))) (qw_or (qt_cmp oq_lt (qe_ix (qv 1) qe_int (fun _ _ => rfl)) qe_int (nomark _)) (qw_or1 (qt_not (qt_val (qe_cal c__law_is_term trivial g0 hr (by rfl) (qa_cons (qe_ix (qv 1) qe_int (fun _ _ => rfl)) qa_nil)))))))) (qss_one (qs_ret qe_bl)) qss_nil) (qss_one (qs_if (QW.qt (qw_and (qt_val (qe_cal c__law_is_unknown trivial g0 hr (by rfl) (qa_cons (qe_ix (qv 1) qe_int (fun _ _ => rfl)) qa_nil))) (qw_and1 (qt_cmp oq_ge (qe_ix (qe_ix (qv 1) qe_int (fun _ _ => rfl)) qe_int (fun _ _ => rfl)) (qe_ix (qv 1) qe_int (fun _ _ => rfl)) (nomark _))))) (qss_one (qs_ret qe_bl)) qss_nil))))) (qss_cons (qs_setX (k := 2) (by decide) sc__law_is_filling.nd rfl (by first | exact Or.inl rfl | exact Or.inr rfl) (fun _ x2 => (qe_lc (own := [("_law_number", 3), ("_law_term_here", 4)]) (G := (gTup K 2 (gNames [3, 4]))) (dec := (dTup [3, 4])) rfl sc__law_is_filling.nd (qi_tup (qv 0)) (blkOk_by (own := [("_law_number", 3), ("_law_term_here", 4)]) (N := ["_law_thing", "_law_row", "_law_numbers_here", "_law_number", "_law_term_here", "_law_one"]) (sc := defScope s__law_is_filling) (by decide +kernel)) (fun _ _ _ _ _ _ => (qg_tup (ks := [3, 4]) (pg_tup rfl (pgs_cons (pg_name (i := 3) sc__law_is_filling.nd rfl (by first | exact Or.inl rfl | exact Or.inr rfl)) (pgs_cons (pg_name (i := 4) sc__law_is_filling.nd rfl (by first | exact Or.inl rfl | exact Or.inr rfl)) pgs_nil))))) (fun _ x3 => (fun _ _ _ _ _ => qts_nil)) (fun _ x4 => (fun _ _ _ _ _ => (qv 3)))))) (qss_cons (qs_if (qt_cmp (oq_neA hr.units) (qv 2) (qe_sortSet rfl (by rfl) B.sorted (by rfl) B.set (qv 2)) (nomark _)) (qss_one (qs_ret qe_bl)) qss_nil) (qss_cons (qs_for (G := (gTup K 2 (gNames [3, 4]))) (dec := (dTup [3, 4])) PassesOwn.never rfl (fun _ x5 => (qi_tup (qv 0))) (fun _ => (qg_tup (ks := [3, 4]) (pg_tup rfl (pgs_cons (pg_name (i := 3) sc__law_is_filling.nd rfl (by first | exact Or.inl rfl | exact Or.inr rfl)) (pgs_cons (pg_name (i := 4) sc__law_is_filling.nd rfl (by first | exact Or.inl rfl | exact Or.inr rfl)) pgs_nil))))) (qss_one (qs_if (qt_cmp (oq_neL0 hr.units) (qe_lc (own := [("_law_one", 5)]) (G := (gName 5)) (dec := (dName 5)) rfl sc__law_is_filling.nd (qi_list (qe_cal c__law_open trivial g0 hr (by rfl) (qa_cons (qv 4) qa_nil))) (blkOk_by (own := [("_law_one", 5)]) (N := ["_law_thing", "_law_row", "_law_numbers_here", "_law_number", "_law_term_here", "_law_one"]) (sc := defScope s__law_is_filling) (by decide +kernel)) (fun _ _ _ _ _ _ => (qg_name (k := 5) sc__law_is_filling.nd rfl (by first | exact Or.inl rfl | exact Or.inr rfl))) (fun _ x6 => (fun _ _ _ _ _ => qts_one (qt_cmp (oq_in sy (hu65 hr)) (qv 5) (qv 2) (by rfl)))) (fun _ x7 => (fun _ _ _ _ _ => (qv 5)))) (qe_lst qa_nil) (nomark _)) (qss_one (qs_ret qe_bl)) qss_nil))) (qss_one (qs_ret qe_bl))))))), ?_⟩)
  rintro _ ⟨x, rfl, hg, hd, hb, hrb, hrl⟩
  have tk := cl_tok (gd_show (k := 1000) (by decide) x hg).2.2.2
  cases x with
  | tuple rows =>
    have gm := gd_tup.mp hg
    simp [and_assoc, hide]
    refine ⟨tk, _, rfl, rows, rfl, fun i ρ => (∀ r ∈ rows.take i, isRow r = true) ∧ ∃ o1, ρ = [some (.tuple rows), o1, none, none, none, none], ⟨by simp, none, rfl⟩, ?_⟩
    rintro i ρ ⟨hi, o1, rfl⟩
    refine ⟨fun e => ?_, fun r hr => ⟨_, rfl, by simp, ?_⟩⟩
    · subst e
      rw [List.take_length] at hi
      simp [and_assoc, hide]
      have hlen : rows.length ≤ 4000 := hrl
      refine lc_go (fun r => some (.int (noOf r))) _ _ (by show 0 + _ ≤ _; omega) (fun r m => ?_) ?_
      · obtain ⟨n, u, rfl, _⟩ := row_is (hi r m)
        refine ⟨[(3, .int n), (4, u)], rfl, by simp, fun R hR => ?_⟩
        simp [wipeR]
        exact hR
      rw [List.nil_append, map_some]
      have en : rows.map (fun r => PyData.int (noOf r)) = (rows.map noOf).map .int := by rw [List.map_map]; rfl
      have hfil : isFil (.tuple rows) = (incr (rows.map noOf) && (addAll [] (nums (rows.map tmOf))).all fun m => !decide (m ∈ rows.map noOf)) := by
        show (rows.all isRow && _ && _) = _
        rw [List.all_eq_true.mpr hi]
        rfl
      rw [en]
      have nl : (rows.map noOf).length = rows.length := by simp
      generalize hns : rows.map noOf = ns at *
      refine ⟨ns, rfl, by omega, fun us hp hm => ⟨eqA_of rfl (rShpL _) (rShpL _), ?_⟩⟩
      rw [eqv_ints]
      by_cases hq : ns = us
      case neg =>
        refine .inr ⟨decide_eq_false hq, ?_⟩
        rw [hfil]
        cases hin : incr ns with
        | false => rfl
        | true => exact absurd (pw_unique ((incr_pw ns).mp hin) hp fun k => (hm k).symm) hq
      refine .inl ⟨decide_eq_true hq, ?_⟩
      have hin : incr ns = true := (incr_pw ns).mpr (hq ▸ hp)
      rw [hin, Bool.true_and] at hfil
      clear hq hp hm
      refine ⟨_, rfl, rows, rfl, fun i ρ => (∀ r ∈ rows.take i, ∀ m ∈ (decT (tmOf r)).vars, m ∉ ns) ∧ ∃ o3 o4 o5, ρ = [some (.tuple rows), o1, some (.list (ns.map .int)), o3, o4, o5], ⟨by simp, none, none, none, rfl⟩, ?_⟩
      rintro i ρ ⟨hv, o3, o4, o5, rfl⟩
      refine ⟨fun e => ?_, fun r hr => ?_⟩
      · subst e
        rw [List.take_length] at hv
        refine ⟨.tuple rows, rfl, (congrArg PyData.bool (?_ : isFil (.tuple rows) = true)).symm⟩
        rw [hfil, List.all_eq_true]
        intro m hm
        rw [mem_addAll] at hm
        rcases hm with hm | hm
        · cases hm
        have : m ∈ (rows.map fun r => decT (tmOf r)).flatMap Tm.vars := by
          rw [← nums_tm]
          · rw [List.map_map]
            have : rows.map (Tm.data ∘ fun r => decT (tmOf r)) = rows.map tmOf := by
              refine List.map_congr_left fun r hr => ?_
              obtain ⟨n, t, ht, rfl, _⟩ := row_tm (hi r hr)
              show (decT t.data).data = t.data
              rw [decT_data ht]
            rw [this]
            exact hm
          · intro t ht
            obtain ⟨r, hr, rfl⟩ := List.mem_map.mp ht
            obtain ⟨n, t, hto, rfl, _⟩ := row_tm (hi r hr)
            show (decT t.data).ok
            rw [decT_data hto]
            exact hto
        obtain ⟨t, ht, hv2⟩ := List.mem_flatMap.mp this
        obtain ⟨r, hr, rfl⟩ := List.mem_map.mp ht
        have := hv r hr m hv2
        simp [this]
      · have mr : r ∈ rows := List.mem_of_getElem? hr
        obtain ⟨n, t, ht, rfl, _⟩ := row_tm (hi r mr)
        refine ⟨[(3, .int n), (4, t.data)], rfl, by simp, ?_⟩
        simp [and_assoc, hide, decT_data ht]
        have d1 := depth_mem mr
        rw [depth_pair] at d1
        have d2 : PyData.depthAll rows + 1 ≤ 60 := hd
        have d3 := depth_data t
        have b1 : (PyData.tuple [.int n, t.data]).bulk ≤ 3900 := hrb _ mr
        rw [bulk_pair] at b1
        have b2 := size_bulk t
        refine ⟨⟨t, ht, by omega, by omega, rfl⟩, ?_⟩
        rintro d ⟨us, rfl, hp, hu⟩
        have l1 := nodup_len us t.vars (pw_nodup hp) fun k h => (hu k).mp h
        have l2 := vars_len t
        refine ⟨_, rfl, lc_go (fun d => match d with | .int m => if m ∈ ns then some (.int m) else none | _ => none) _ _ ?_ (fun d m => ?_) ?_⟩
        · rw [List.length_map]
          show 0 + _ ≤ _
          omega
        · obtain ⟨k, _, rfl⟩ := List.mem_map.mp m
          refine ⟨[(5, .int k)], rfl, by simp, fun R hR => ?_⟩
          simp [wipeR, inOk_intsL, inD_intsL]
          by_cases hk : k ∈ ns
          · simp [hk] at hR ⊢
            exact hR
          · simp [hk] at hR ⊢
            exact hR
        · refine ⟨_, rfl, ?_⟩
          rw [List.nil_append]
          by_cases hx : ∃ k ∈ us, k ∈ ns
          · obtain ⟨k, h1, h2⟩ := hx
            refine .inr ⟨fun z => ?_, ?_⟩
            · have : PyData.int k ∈ (us.map PyData.int).filterMap (fun d => match d with | .int m => if m ∈ ns then some (.int m) else none | _ => none) := List.mem_filterMap.mpr ⟨.int k, List.mem_map_of_mem h1, by simp [h2]⟩
              rw [z] at this
              cases this
            · rw [hfil, List.all_eq_false]
              refine ⟨k, ?_, by simp [h2]⟩
              rw [mem_addAll]
              refine .inr (List.mem_filterMap.mpr ?_)
              have hk := (hu k).mp h1
              rw [← leaves_tm ht] at hk
              obtain ⟨l, h3, h4⟩ := List.mem_filterMap.mp hk
              exact ⟨l, List.mem_flatMap.mpr ⟨t.data, List.mem_map.mpr ⟨_, mr, rfl⟩, h3⟩, h4⟩
          · refine .inl ⟨?_, fun r hr2 m hm hn => ?_⟩
            · rw [List.filterMap_eq_nil_iff]
              intro d hd2
              obtain ⟨k, h1, rfl⟩ := List.mem_map.mp hd2
              have : k ∉ ns := fun z => hx ⟨k, h1, z⟩
              simp [this]
            · rw [List.take_add_one, hr] at hr2
              rcases List.mem_append.mp hr2 with h1 | h1
              · exact hv r h1 m hm hn
              · have : r = .tuple [.int n, t.data] := by simpa using h1
                subst this
                have e : decT (tmOf (.tuple [.int n, t.data])) = t := decT_data ht
                rw [e] at hm
                exact hx ⟨m, (hu m).mpr hm, hn⟩
    · have mr : r ∈ rows := List.mem_of_getElem? hr
      have gr := gm r mr
      have tr := cl_tok (gd_show (k := 1000) (by decide) r gr).2.2.2
      have bad : isRow r = false → isFil (.tuple rows) = false := fil_bad mr
      have nxt : isRow r = true → ∀ q ∈ rows.take (i + 1), isRow q = true := fun h q hq => by
        rw [List.take_add_one, hr] at hq
        rcases List.mem_append.mp hq with hq | hq
        · exact hi q hq
        · have : q = r := by simpa using hq
          exact this ▸ h
      cases r with
      | tuple xs =>
        match xs with
        | [] => simp [and_assoc, tr, bad rfl]
        | [a] =>
          have b0 := bad (by cases a <;> rfl)
          simp [and_assoc, tr, b0]
        | a :: b :: c :: l =>
          have b0 := bad (by cases a <;> rfl)
          simp [and_assoc, tr, b0]
          omega
        | [a, t] =>
          have ga := gd_tup.mp gr a (by simp)
          have gt := gd_tup.mp gr t (by simp)
          have ta := cl_tok (gd_show (k := 1000) (by decide) a ga).2.2.2
          have tt := (gd_show (k := 1000) (by decide) t gt).2.2.2
          cases a with
          | int k =>
            have bt : t.bulk ≤ 3900 := by
              have h1 := hrb _ mr
              rw [bulk_pair] at h1
              omega
            simp [and_assoc, tr, ta, tt, show t.bulk ≤ 390000 by omega]
            by_cases hk : k < 0
            · rw [if_pos hk]
              refine bad ?_
              show (decide (0 ≤ k) && isTm t && _) = false
              rw [decide_eq_false (by omega)]
              rfl
            rw [if_neg hk]
            cases it : isTm t with
            | false =>
              refine .inl ⟨rfl, bad ?_⟩
              show (decide (0 ≤ k) && isTm t && _) = false
              rw [it, Bool.and_false, Bool.false_and]
            | true =>
              obtain ⟨u, hu, rfl⟩ := tm_isTm it
              have d1 := depth_mem mr
              rw [depth_pair] at d1
              have d2 : PyData.depthAll rows + 1 ≤ 60 := hd
              have d3 := depth_data u
              refine .inr ⟨rfl, ⟨u, hu, by omega, rfl⟩, ?_⟩
              rw [isMk_data hu]
              have er := row_isT (n := k) hu
              cases u with
              | unk m =>
                refine .inr ⟨rfl, _, rfl, m, rfl, ?_⟩
                have er : _ = (decide (0 ≤ k) && !decide (k ≤ m)) := er
                split
                · rename_i h
                  exact bad (by rw [er, decide_eq_true h, Bool.not_true, Bool.and_false])
                · rename_i h
                  exact nxt (by rw [er, decide_eq_false h, decide_eq_true (show 0 ≤ k by omega)]; rfl)
              | _ => exact .inl ⟨rfl, nxt (by rw [er, decide_eq_true (show 0 ≤ k by omega)]; rfl)⟩
          | bool k =>
            have b0 := bad rfl
            simp [and_assoc, tr, ta, b0]
          | _ =>
            have b0 := bad rfl
            simp [and_assoc, tr, ta, b0]
      | _ =>
        have b0 := bad rfl
        simp [and_assoc, tr, b0]
  | none => simp [isFil, tk]
  | bool b => simp [isFil, tk]
  | int i => simp [isFil, tk]
  | str z => simp [isFil, tk]
  | list l => simp [isFil, tk]
  | dict l => simp [isFil, tk]
end
end Kr

set_option Elab.async false
set_option linter.all false
set_option maxRecDepth 100000
set_option maxHeartbeats 4000000
namespace Kr
open PySem PySem.Spec PyProof.Rows L2
section
variable {X : Cx} {C : Cz} {pos apos : Pos} {o : Expr} {t : P0}
/-! str(x), x a number or a text -/
@[simp] def fStr : Fr := fun ds Q => (∃ i, ds = [.int i] ∧ i.natAbs.log2 < 1920 ∧ Q (.str (toString i))) ∨ ∃ a, ds = [.str a] ∧ Q (.str a)
theorem cq_str : CQ X C (.type "str") fStr := by
  refine ⟨fun pins s σ H xs us Q I r q => ?_, fun x Q Q' w q => q.elim (fun ⟨i, e1, e2, q⟩ => .inl ⟨i, e1, e2, w _ q⟩) fun ⟨a, e, q⟩ => .inr ⟨a, e, w _ q⟩⟩
  obtain ⟨ds, hr, j, q⟩ := q
  rcases q with ⟨i, rfl, hi, q⟩ | ⟨a, rfl, q⟩
  · cases hr with
    | cons h1 h2 =>
      cases h2
      cases h1
      exact call_str_int pins s σ H _ us Q I r ⟨i, rfl, hi, q _ H Kx.refl j (.str _)⟩
  · cases hr with
    | cons h1 h2 =>
      cases h2
      cases h1
      exact SkE.call_str_str pins s σ H _ us Q I r ⟨a, rfl, q _ H Kx.refl j (.str _)⟩
/-! x.upper() -/
@[simp] def vUp (t : P0) : P0 := fun ρ Q => t ρ fun d => ∃ a, d = .str a ∧ a.length ≤ 5592405 ∧ Q (.str (Txt.upper a))
theorem qe_upper (h : QE X C o t) (hbase : attributeBase o "upper" X.env (eval o X.env) = eval o X.env := by rfl) (hline : (apos.endLine == pos.line) = true := by rfl) : QE X C (.Call (.Attribute o "upper" apos) [] [] pos) (vUp t) := by
  refine ⟨PE.weak (pe_upper h.pe hbase hline) fun σ H Q q => ?_, fun ρ Q Q' w q => h.mono _ _ _ (fun d ⟨a, e1, e2, q⟩ => ⟨a, e1, e2, w _ q⟩) q⟩
  obtain ⟨ρ, he, j, q⟩ := q
  refine ⟨ρ, he, j, h.mono _ _ _ (fun d ⟨a, e, hl, q⟩ v H' k1 j1 r => ?_) q⟩
  subst e
  cases r
  exact ⟨⟨a, rfl⟩, a, rfl, rfl, hl, q _ H' k1 j1 (.str _)⟩
theorem up_ascii (c : Nat) (hc : c < 128) : ∀ d ∈ Unicode.upperOf c, d < 128 := by
  have key : ((List.range 128).all fun c => (Unicode.upperOf c).all fun d => decide (d < 128)) = true := by decide +kernel
  rw [List.all_eq_true] at key
  have := key c (List.mem_range.mpr hc)
  rw [List.all_eq_true] at this
  exact fun d hd => of_decide_eq_true (this d hd)
theorem up_low {a : Str} (h : ∀ c ∈ a.cps.toList, c < 128) : ∀ c ∈ (Txt.upper a).cps.toList, c < 128 := by
  intro c hc
  have hc' : c ∈ (a.cps.mapIdx fun i c => (Unicode.upperOf c).toArray).flatten := Array.mem_toList_iff.mp hc
  obtain ⟨ar, h1, h2⟩ := Array.mem_flatten.mp hc'
  obtain ⟨i, hi, rfl⟩ := Array.mem_mapIdx.mp h1
  exact up_ascii a.cps[i] (h _ (Array.mem_toList_iff.mpr (Array.getElem_mem hi))) c (by simpa using h2)
theorem up_one (c : Nat) (hc : c < 128) : (Unicode.upperOf c).length = 1 := by
  have key : ((List.range 128).all fun c => decide ((Unicode.upperOf c).length = 1)) = true := by decide +kernel
  rw [List.all_eq_true] at key
  exact of_decide_eq_true (key c (List.mem_range.mpr hc))
theorem up_len {a : Str} (h : ∀ c ∈ a.cps.toList, c < 128) : (Txt.upper a).length = a.length := by
  show ((a.cps.mapIdx fun i c => (Unicode.upperOf c).toArray).flatten).size = a.cps.size
  rw [Array.size_flatten]
  have e : (a.cps.mapIdx fun i c => (Unicode.upperOf c).toArray).map Array.size = Array.replicate a.cps.size 1 := by
    apply Array.ext
    · simp
    · intro i h1 h2
      simp at h1 ⊢
      exact up_one _ (h _ (Array.mem_toList_iff.mpr (Array.getElem_mem h1)))
  rw [e, Array.sum_replicate_nat]
  omega
theorem cutS_sub (z : Str) (lo hi : Option Int) : (cutS z lo hi).length ≤ z.length ∧ ∀ c ∈ (cutS z lo hi).cps.toList, c ∈ z.cps.toList := by
  have sb : ((z.cps.toList.drop (HT.sIx z.length 0 lo)).take (HT.sIx z.length z.length hi - HT.sIx z.length 0 lo)).Sublist z.cps.toList := (List.take_sublist ..).trans (List.drop_sublist ..)
  constructor
  · show (List.toArray _).size ≤ z.cps.size
    rw [List.size_toArray]
    have := sb.length_le
    rwa [Array.length_toList] at this
  · intro c hc
    have hc' : c ∈ (List.toArray ((z.cps.toList.drop (HT.sIx z.length 0 lo)).take (HT.sIx z.length z.length hi - HT.sIx z.length 0 lo))).toList := hc
    rw [List.toList_toArray] at hc'
    exact sb.subset hc'
end
end Kr

set_option Elab.async false
set_option linter.all false
set_option maxRecDepth 100000
set_option maxHeartbeats 4000000
namespace Kr
open PySem PySem.Spec PyProof.Rows L2
abbrev s__law_odd : Stmt := topS 35
theorem sc__law_odd : FnScope ["_law_deck_here", "_law_some"] ["_law_deck_here"] (defScope s__law_odd) := ⟨rfl, rfl, rfl, by decide +kernel, rfl, by decide +kernel, by decide +kernel⟩
abbrev s__law_row_bent : Stmt := topS 36
theorem sc__law_row_bent : FnScope ["_law_deck_here", "_law_thing", "_law_at", "_law_way"] ["_law_deck_here", "_law_thing"] (defScope s__law_row_bent) := ⟨rfl, rfl, rfl, by decide +kernel, rfl, by decide +kernel, by decide +kernel⟩
/-! pieces of a tuple -/
theorem cut_sub {α : Type} (xs : List α) (lo hi : Option Int) : (cutG xs lo hi).Sublist xs := by
  unfold cutG
  exact (List.take_sublist ..).trans (List.drop_sublist ..)
theorem cut_to {α : Type} (xs : List α) (i : Nat) : cutG xs none (some (i : Int)) = xs.take i := by
  unfold cutG
  rw [HT.sIx_none, HT.sIx_nat, List.drop_zero, Nat.sub_zero]
  by_cases h : i ≤ xs.length
  · rw [Nat.min_eq_left h]
  · rw [Nat.min_eq_right (by omega), List.take_length, List.take_of_length_le (by omega)]
theorem cut_from {α : Type} (xs : List α) (i : Nat) : cutG xs (some (i : Int)) none = xs.drop i := by
  unfold cutG
  rw [HT.sIx_none, HT.sIx_nat]
  by_cases h : i ≤ xs.length
  · rw [Nat.min_eq_left h]
    exact List.take_of_length_le (by rw [List.length_drop]; omega)
  · rw [Nat.min_eq_right (by omega), List.drop_length, List.drop_eq_nil_of_le (by omega), List.take_nil]
theorem take_drop_sub {α : Type} (xs : List α) {i j : Nat} (h : i ≤ j) : (xs.take i ++ xs.drop j).Sublist xs := by
  have h1 : (xs.drop j).Sublist (xs.drop i) := by
    rw [show j = i + (j - i) by omega, ← List.drop_drop]
    exact List.drop_sublist ..
  have := List.Sublist.append (List.Sublist.refl (xs.take i)) h1
  rwa [List.take_append_drop] at this
theorem bulkAll_app : ∀ xs ys : List PyData, PyData.bulkAll (xs ++ ys) = PyData.bulkAll xs + PyData.bulkAll ys
  | [], ys => by simp [PyData.bulkAll]
  | x :: xs, ys => by
    rw [List.cons_append, PyData.bulkAll, PyData.bulkAll, bulkAll_app xs ys]
    omega
theorem bulkAll_sub {xs ys : List PyData} (h : xs.Sublist ys) : PyData.bulkAll xs ≤ PyData.bulkAll ys := by
  induction h with
  | slnil => exact Nat.le_refl _
  | cons a _ ih => rw [PyData.bulkAll]; omega
  | cons_cons a _ ih => rw [PyData.bulkAll, PyData.bulkAll]; omega
theorem depthAll_le {xs : List PyData} {n : Nat} : PyData.depthAll xs ≤ n ↔ ∀ x ∈ xs, x.depth ≤ n := by
  induction xs with
  | nil => simp [PyData.depthAll]
  | cons x xs ih =>
    rw [PyData.depthAll, Nat.max_le, ih]
    simp
/-- items of small parts -/
structure FitL (k n m : Nat) (xs : List PyData) : Prop where
  g : ∀ x ∈ xs, gd k x = true
  d : ∀ x ∈ xs, x.depth ≤ n
  b : PyData.bulkAll xs ≤ m
theorem Fit.items {k n m : Nat} {xs : List PyData} (h : Fit k n m (.tuple xs)) : FitL k (n - 1) m xs ∧ 1 ≤ n := by
  have hd : PyData.depthAll xs + 1 ≤ n := h.d
  exact ⟨⟨gd_tup.mp h.g, depthAll_le.mp (by omega), h.b⟩, by omega⟩
theorem FitL.tup {k n m : Nat} {xs : List PyData} (h : FitL k n m xs) : Fit k (n + 1) m (.tuple xs) := ⟨gd_tup.mpr h.g, Nat.succ_le_succ (depthAll_le.mpr h.d), h.b⟩
theorem FitL.lst {k n m : Nat} {xs : List PyData} (h : FitL k n m xs) : Fit k (n + 1) m (.list xs) := ⟨gd_lst.mpr h.g, Nat.succ_le_succ (depthAll_le.mpr h.d), h.b⟩
theorem FitL.sub {k n m : Nat} {xs ys : List PyData} (h : FitL k n m ys) (s : xs.Sublist ys) : FitL k n m xs := ⟨fun x hx => h.g x (s.subset hx), fun x hx => h.d x (s.subset hx), Nat.le_trans (bulkAll_sub s) h.b⟩
theorem FitL.app {k n m m' : Nat} {xs ys : List PyData} (h : FitL k n m xs) (h' : FitL k n m' ys) : FitL k n (m + m') (xs ++ ys) :=
  ⟨fun x hx => (List.mem_append.mp hx).elim (h.g x) (h'.g x), fun x hx => (List.mem_append.mp hx).elim (h.d x) (h'.d x), by rw [bulkAll_app]; have := h.b; have := h'.b; omega⟩
theorem FitL.mono {k n m k' n' m' : Nat} {xs : List PyData} (h : FitL k n m xs) (h1 : k ≤ k') (h2 : n ≤ n') (h3 : m ≤ m') : FitL k' n' m' xs := ⟨fun x hx => gd_mono h1 x (h.g x hx), fun x hx => Nat.le_trans (h.d x hx) h2, Nat.le_trans h.b h3⟩
theorem Fit.one {k n m : Nat} {x : PyData} (h : Fit k n m x) : FitL k n (m + 1) [x] := ⟨fun y hy => by rw [List.mem_singleton.mp hy]; exact h.g, fun y hy => by rw [List.mem_singleton.mp hy]; exact h.d, by rw [PyData.bulkAll, PyData.bulkAll]; have := h.b; omega⟩
theorem FitL.perm {k n m : Nat} {xs ys : List PyData} (h : FitL k n m xs) (p : ys.Perm xs) : FitL k n m ys := ⟨fun x hx => h.g x (p.mem_iff.mp hx), fun x hx => h.d x (p.mem_iff.mp hx), by
  have : ∀ {as bs : List PyData}, as.Perm bs → PyData.bulkAll as = PyData.bulkAll bs := fun {as bs} q => by
    induction q with
    | nil => rfl
    | cons x _ ih => rw [PyData.bulkAll, PyData.bulkAll, ih]
    | swap x y l => simp only [PyData.bulkAll]; omega
    | trans _ _ h1 h2 => rw [h1, h2]
  rw [this p]
  exact h.b⟩
theorem FitL.len {k n m : Nat} {xs : List PyData} (h : FitL k n m xs) : xs.length ≤ m := Nat.le_trans (len_bulk xs) h.b
section
variable {P : Program} {w : World} {K : PySem.W.Frag} {mg : Str → Option Value} {base : Heap} {n : Nat}
theorem c__law_odd (B : Bl mg) (D : Dfn K mg "_law_odd" s__law_odd ["_law_deck_here"]) (c__law_pick : CPick P w K mg base n) : Cal P w K mg base (n + 1) "_law_odd" ["_law_deck_here"] (spQ IsDk (p1 fun x => x = tokD) (fun ds d => Fit 0 1 12 d)) := by
  refine defG [] D sc__law_odd len1' (by simp) (fun f C hG cdv A outer s H E g0 hr => ⟨_, (qss_cons (qs_setX (k := 1) (by decide) sc__law_odd.nd rfl (by first | exact Or.inl rfl | exact Or.inr rfl) (fun _ x1 => (qe_lst (qa_cons qe_non (qa_cons qe_bl (qa_cons qe_bl (qa_cons qe_int (qa_cons qe_int (qa_cons (qe_neg qe_int) (qa_cons (qe_op oq_pow qe_int qe_int) (qa_cons qe_str (qa_cons qe_str (qa_cons qe_str (qa_cons qe_str (qa_cons qe_str (qa_cons (qe_tup qa_nil) (qa_cons (qe_tup (qa_cons qe_str (qa_cons qe_int qa_nil))) (qa_cons (qe_tup (qa_cons qe_str (qa_cons qe_int qa_nil))) qa_nil)))))))))))))))))) (qss_cons (qs_setX (k := 1) (by decide) sc__law_odd.nd rfl (by first | exact Or.inl rfl | exact Or.inr rfl) (fun _ x2 => (qe_op oq_add (qv 1) (qe_lst (qa_cons (qe_tup (qa_cons qe_str (qa_cons qe_bl qa_nil))) (qa_cons (qe_tup (qa_cons qe_str (qa_cons (qe_neg qe_int) qa_nil))) (qa_cons (qe_tup (qa_cons qe_int qa_nil)) (qa_cons (qe_tup (qa_cons qe_int (qa_cons qe_int (qa_cons qe_int qa_nil)))) (qa_cons (qe_lst qa_nil) (qa_cons qe_dnew (qa_cons (qe_lst (qa_cons qe_int qa_nil)) (qa_cons (qe_disp (qps_cons (fun _ x3 => qe_int) (fun _ x4 => qe_int) qps_nil)) (qa_cons (qe_tup (qa_cons qe_str qa_nil)) (qa_cons (qe_tup (qa_cons qe_str (qa_cons qe_str qa_nil))) qa_nil)))))))))))))) (qss_one (qs_ret (qe_cal c__law_pick hG g0 hr (by rfl) (qa_cons (qv 0) (qa_cons (qv 1) qa_nil))))))), ?_⟩)
  rintro _ ⟨x, rfl, rfl⟩
  simp [and_assoc, hide]
  have fb : ∀ d : PyData, (gd 0 d && decide (d.depth ≤ 1) && decide (d.bulk ≤ 12)) = true → Fit 0 1 12 d := fun d h => by
    simp only [Bool.and_eq_true, decide_eq_true_eq] at h
    exact ⟨h.1.1, h.1.2, h.2⟩
  refine ⟨⟨by decide, by decide, by decide⟩, ?_⟩
  simp [vPs]
  refine ⟨.inl 0, rfl, fun d hd => ?_⟩
  repeat' first | (subst hd; exact fb _ (by decide +kernel)) | (rcases hd with hd | hd)
abbrev COdd (P : Program) (w : World) (K : PySem.W.Frag) (mg : Str → Option Value) (base : Heap) (n : Nat) : Prop := Cal P w K mg base n "_law_odd" ["_law_deck_here"] (spQ IsDk (p1 fun x => x = tokD) (fun ds d => Fit 0 1 12 d))
theorem c__law_row_bent (B : Bl mg) (D : Dfn K mg "_law_row_bent" s__law_row_bent ["_law_deck_here", "_law_thing"]) (c__law_draw : CDraw P w K mg base n) (c__law_odd : COdd P w K mg base n) : Cal P w K mg base (n + 1) "_law_row_bent" ["_law_deck_here", "_law_thing"] (spQ IsDk (fun ds => ∃ xs k d b, ds = [tokD, .tuple xs] ∧ Fit k d b (.tuple xs) ∧ b ≤ 100000 ∧ k ≤ 900) (fun ds r => ∀ xs k d b, ds = [tokD, .tuple xs] → Fit k d b (.tuple xs) → Fit k (d + 1) (2 * b + 20) r)) := by
  refine defG [] D sc__law_row_bent (by rintro _ ⟨_, _, _, _, rfl, _⟩; rfl) (by simp) (fun f C hG cdv A outer s H E g0 hr => ⟨_, (qss_cons (qs_setX (k := 2) (by decide) sc__law_row_bent.nd rfl (by first | exact Or.inl rfl | exact Or.inr rfl) (fun _ x1 => (qe_cal c__law_draw (hG.ext x1) g0 hr (by rfl) (qa_cons (qv 0) (qa_cons (qe_op oq_add (qe_callB cq_len (by rfl) B.len PySem.boot_len (qa_cons (qv 1) qa_nil)) qe_int) qa_nil))))) (qss_cons (qs_setX (k := 3) (by decide) sc__law_row_bent.nd rfl (by first | exact Or.inl rfl | exact Or.inr rfl) (fun _ x2 => (qe_cal c__law_draw (hG.ext x2) g0 hr (by rfl) (qa_cons (qv 0) (qa_cons qe_int qa_nil))))) (qss_cons (qs_if (qt_cmp (oq_eqA hr.units) (qv 3) qe_int (nomark _)) (qss_one (qs_ret (qe_op oq_add (qe_slice (qv 1) qo_none (qo_some (qv 2))) (qe_slice (qv 1) (qo_some (qe_op oq_add (qv 2) qe_int)) qo_none)))) qss_nil) (qss_cons (qs_if (qt_cmp (oq_eqA hr.units) (qv 3) qe_int (nomark _)) (qss_one (qs_ret (qe_op oq_add (qe_op oq_add (qe_slice (qv 1) qo_none (qo_some (qv 2))) (qe_slice (qv 1) (qo_some (qv 2)) (qo_some (qe_op oq_add (qv 2) qe_int)))) (qe_slice (qv 1) (qo_some (qv 2)) qo_none)))) qss_nil) (qss_cons (qs_if (qt_cmp (oq_eqA hr.units) (qv 3) qe_int (nomark _)) (qss_one (qs_ret (qe_op oq_add (qe_op oq_add (qe_slice (qv 1) qo_none (qo_some (qv 2))) (qe_revT (qe_slice (qv 1) (qo_some (qv 2)) (qo_some (qe_op oq_add (qv 2) qe_int))))) (qe_slice (qv 1) (qo_some (qe_op oq_add (qv 2) qe_int)) qo_none)))) qss_nil) (qss_cons (qs_if (qt_cmp (oq_eqA hr.units) (qv 3) qe_int (nomark _)) (qss_one (qs_ret (qe_op oq_add (qe_op oq_add (qe_slice (qv 1) qo_none (qo_some (qv 2))) (qe_tup (qa_cons (qe_cal c__law_odd hG g0 hr (by rfl) (qa_cons (qv 0) qa_nil)) qa_nil))) (qe_slice (qv 1) (qo_some (qv 2)) qo_none)))) qss_nil) (qss_one (qs_ret (qe_ix (qe_lst (qa_cons (qe_revT (qv 1)) (qa_cons (qe_callTy cq_listT (by rfl) B.list (by decide +kernel) (qa_cons (qv 1) qa_nil)) (qa_cons (qe_tup (qa_cons (qv 1) qa_nil)) qa_nil)))) (qe_op oq_sub (qv 3) qe_int) (fun _ _ => rfl)))))))))), ?_⟩)
  rintro _ ⟨xs, k, d, b, rfl, hF, hb, hk⟩
  simp [and_assoc, hide]
  obtain ⟨hI, h1d⟩ := hF.items
  have hlen := hI.len
  refine ⟨by omega, fun x h0 h1 y y0 y1 => ?_⟩
  obtain ⟨i, rfl⟩ := Int.eq_ofNat_of_zero_le h0
  have hi : i ≤ xs.length := by omega
  rw [cut_to, cut_from, show ((i : Int) + 1) = ((i + 1 : Nat) : Int) from rfl, show ((i : Int) + 2) = ((i + 2 : Nat) : Int) from rfl, cut_from, cut_from]
  have lt : (xs.take i).length ≤ xs.length := by simp; omega
  have lm : ∀ lo hi, (cutG xs lo hi).length ≤ xs.length := fun lo hi => (cut_sub xs lo hi).length_le
  have ld : ∀ j, (xs.drop j).length ≤ xs.length := fun j => by simp
  by_cases w0 : y = 0
  · rw [if_pos w0]
    refine ⟨sl (by have := ld (i + 1); omega), ?_⟩
    rintro _ k d b rfl hF
    obtain ⟨hI, h1d⟩ := hF.items
    have := (hI.sub (take_drop_sub xs (show i ≤ i + 1 by omega))).tup
    exact this.mono (Nat.le_refl _) (by omega) (by omega)
  rw [if_neg w0]
  by_cases w1 : y = 1
  · rw [if_pos w1]
    have l1 := lm (some (i : Int)) (some ((i + 1 : Nat) : Int))
    have l2 := ld i
    refine ⟨sl (by omega), sl (by omega), ?_⟩
    rintro _ k d b rfl hF
    obtain ⟨hI, h1d⟩ := hF.items
    have q : (xs.take i ++ (cutG xs (some (i : Int)) (some ((i + 1 : Nat) : Int)) ++ xs.drop i)).Perm (xs ++ cutG xs (some (i : Int)) (some ((i + 1 : Nat) : Int))) := by
      have : (xs.take i ++ (cutG xs (some (i : Int)) (some ((i + 1 : Nat) : Int)) ++ xs.drop i)).Perm (xs.take i ++ (xs.drop i ++ cutG xs (some (i : Int)) (some ((i + 1 : Nat) : Int)))) := List.Perm.append_left _ List.perm_append_comm
      rwa [← List.append_assoc (xs.take i) (xs.drop i), List.take_append_drop] at this
    have := ((hI.app (hI.sub (cut_sub xs (some (i : Int)) (some ((i + 1 : Nat) : Int))))).perm q).tup
    exact this.mono (Nat.le_refl _) (by omega) (by omega)
  rw [if_neg w1]
  by_cases w2 : y = 2
  · rw [if_pos w2]
    have l1 := lm (some (i : Int)) (some ((i + 2 : Nat) : Int))
    have l2 := ld (i + 2)
    refine ⟨sl (by omega), sl (by omega), ?_⟩
    rintro _ k d b rfl hF
    obtain ⟨hI, h1d⟩ := hF.items
    have q : (xs.take i ++ ((cutG xs (some (i : Int)) (some ((i + 2 : Nat) : Int))).reverse ++ xs.drop (i + 2))).Perm ((xs.take i ++ xs.drop (i + 2)) ++ cutG xs (some (i : Int)) (some ((i + 2 : Nat) : Int))) := by
      rw [List.append_assoc]
      exact List.Perm.append_left _ (List.perm_append_comm.trans (List.Perm.append_left _ (List.reverse_perm _)))
    have := (((hI.sub (take_drop_sub xs (show i ≤ i + 2 by omega))).app (hI.sub (cut_sub xs (some (i : Int)) (some ((i + 2 : Nat) : Int))))).perm q).tup
    exact this.mono (Nat.le_refl _) (by omega) (by omega)
  rw [if_neg w2]
  by_cases w3 : y = 3
  · rw [if_pos w3]
    intro z hz
    have l2 := ld i
    refine ⟨sl (by omega), sl (by omega), ?_⟩
    rintro _ k d b rfl hF
    obtain ⟨hI, h1d⟩ := hF.items
    have q : (xs.take i ++ z :: xs.drop i).Perm (xs ++ [z]) := by
      have : (xs.take i ++ ([z] ++ xs.drop i)).Perm (xs.take i ++ (xs.drop i ++ [z])) := List.Perm.append_left _ List.perm_append_comm
      rwa [← List.append_assoc (xs.take i) (xs.drop i), List.take_append_drop] at this
    have := (((hI.mono (Nat.le_refl _) (show d - 1 ≤ d by omega) (Nat.le_refl _)).app ((hz.mono (Nat.zero_le k) h1d (Nat.le_refl _)).one)).perm q).tup
    exact this.mono (Nat.le_refl _) (by omega) (by omega)
  rw [if_neg w3]
  have all : ∀ k d b, Fit k d b (.tuple xs) → Fit k (d + 1) (2 * b + 20) (.tuple xs.reverse) ∧ Fit k (d + 1) (2 * b + 20) (.list xs) ∧ Fit k (d + 1) (2 * b + 20) (.tuple [.tuple xs]) := fun k d b hF => by
    obtain ⟨hI, h1d⟩ := hF.items
    exact ⟨(hI.perm (List.reverse_perm xs)).tup.mono (Nat.le_refl _) (by omega) (by omega), hI.lst.mono (Nat.le_refl _) (by omega) (by omega), hF.one.tup.mono (Nat.le_refl _) (by omega) (by omega)⟩
  rcases (show y = 4 ∨ y = 5 ∨ y = 6 by omega) with rfl | rfl | rfl
  · refine ⟨_, rfl, ?_⟩
    rintro _ k d b rfl hF
    exact (all k d b hF).1
  · refine ⟨_, rfl, ?_⟩
    rintro _ k d b rfl hF
    exact (all k d b hF).2.1
  · refine ⟨_, rfl, ?_⟩
    rintro _ k d b rfl hF
    exact (all k d b hF).2.2
end
end Kr

set_option Elab.async false
set_option linter.all false
set_option maxRecDepth 100000
set_option maxHeartbeats 4000000
namespace Kr
open PySem PySem.Spec PyProof.Rows L2
abbrev s__law_spoilt : Stmt := topS 37
theorem sc__law_spoilt : FnScope ["_law_deck_here", "_law_thing", "_law_deep_here", "_law_at", "_law_way"] ["_law_deck_here", "_law_thing", "_law_deep_here"] (defScope s__law_spoilt) := ⟨rfl, rfl, rfl, by decide +kernel, rfl, by decide +kernel, by decide +kernel⟩
section
variable {P : Program} {w : World} {K : PySem.W.Frag} {mg : Str → Option Value} {base : Heap} {n : Nat}
abbrev CBent (P : Program) (w : World) (K : PySem.W.Frag) (mg : Str → Option Value) (base : Heap) (n : Nat) : Prop := Cal P w K mg base n "_law_row_bent" ["_law_deck_here", "_law_thing"] (spQ IsDk (fun ds => ∃ xs k d b, ds = [tokD, .tuple xs] ∧ Fit k d b (.tuple xs) ∧ b ≤ 100000 ∧ k ≤ 900) (fun ds r => ∀ xs k d b, ds = [tokD, .tuple xs] → Fit k d b (.tuple xs) → Fit k (d + 1) (2 * b + 20) r))
def pSp (m : Int) : List PyData → Prop := fun ds => ∃ x q k d b, ds = [tokD, x, .int q] ∧ 0 ≤ q ∧ q < m ∧ Fit k d b x ∧ d ≤ 50 ∧ b ≤ 50000 ∧ k ≤ 900
def rSp : List PyData → PyData → Prop := fun ds r => ∀ x q k d b, ds = [tokD, x, .int q] → Fit k d b x → Fit (k + 1) (d + 2) (2 * b + 60) r
theorem rsp_mk {x r : PyData} {q : Int} (h : ∀ k d b, Fit k d b x → Fit (k + 1) (d + 2) (2 * b + 60) r) : rSp [tokD, x, .int q] r := by
  rintro _ _ k d b e hF
  cases e
  exact h k d b hF
theorem str_len_app (x y : Str) : (x ++ y).length = x.length + y.length := Array.size_append
theorem str_mem_app {x y : Str} {c : Nat} (h : c ∈ (x ++ y).cps.toList) : c ∈ x.cps.toList ∨ c ∈ y.cps.toList := by
  have h' : c ∈ (x.cps ++ y.cps).toList := h
  rw [Array.toList_append] at h'
  exact List.mem_append.mp h'
theorem s1_law_spoilt (m : Nat) (B : Bl mg) (D : Dfn K mg "_law_spoilt" s__law_spoilt ["_law_deck_here", "_law_thing", "_law_deep_here"]) (c__law_draw : CDraw P w K mg base n) (c__law_odd : COdd P w K mg base n) (c__law_row_bent : CBent P w K mg base n)
    (c__law_spoilt : Cal P w K mg base (n + 1 + m) "_law_spoilt" ["_law_deck_here", "_law_thing", "_law_deep_here"] (spQ IsDk (pSp m) rSp)) : Cal P w K mg base (n + 1 + m + 1) "_law_spoilt" ["_law_deck_here", "_law_thing", "_law_deep_here"] (spQ IsDk (pSp (m + 1 : Nat)) rSp) := by
  have c__law_draw := c__law_draw.mono (show n ≤ n + 1 + m by omega)
  have c__law_odd := c__law_odd.mono (show n ≤ n + 1 + m by omega)
  have c__law_row_bent := c__law_row_bent.mono (show n ≤ n + 1 + m by omega)
  refine defG [] D sc__law_spoilt (by rintro _ ⟨_, q, _, _, _, rfl, h1, h2, _⟩; rfl) (by simp) (fun f C hG cdv A outer s H E g0 hr => ⟨_, (qss_cons (qs_if (QW.qt (qw_and (qt_val (qe_isi "tuple" (by decide) (fun _ h => pe_callB call_isi (by rfl) B.isinstance (by decide +kernel) (pa_cons h (pa_cons (pe_bltn (v := .ty "tuple") (by rfl) B.tuple (by decide +kernel) rfl) pa_nil))) (qv 1))) (qw_and (qt_cmp (oq_neA hr.units) (qv 1) (qe_tup qa_nil) (nomark _)) (qw_and1 (qt_cmp oq_gt (qv 2) qe_int (nomark _)))))) (qss_cons (qs_setX (k := 3) (by decide) sc__law_spoilt.nd rfl (by first | exact Or.inl rfl | exact Or.inr rfl) (fun _ x1 => (qe_cal c__law_draw (hG.ext x1) g0 hr (by rfl) (qa_cons (qv 0) (qa_cons (qe_callB cq_len (by rfl) B.len PySem.boot_len (qa_cons (qv 1) qa_nil)) qa_nil))))) (qss_one (qs_ret (qe_op oq_add (qe_op oq_add (qe_slice (qv 1) qo_none (qo_some (qv 3))) (qe_tup (qa_cons (qe_cal c__law_spoilt hG g0 hr (by rfl) (qa_cons (qv 0) (qa_cons (qe_ix (qv 1) (qv 3) (fun _ _ => rfl)) (qa_cons (qe_op oq_sub (qv 2) qe_int) qa_nil)))) qa_nil))) (qe_slice (qv 1) (qo_some (qe_op oq_add (qv 3) qe_int)) qo_none))))) qss_nil) (qss_cons (qs_setX (k := 4) (by decide) sc__law_spoilt.nd rfl (by first | exact Or.inl rfl | exact Or.inr rfl) (fun _ x2 => (qe_cal c__law_draw (hG.ext x2) g0 hr (by rfl) (qa_cons (qv 0) (qa_cons qe_int qa_nil))))) (qss_cons (qs_if (QW.qt (qw_and (qt_val (qe_isi "tuple" (by decide) (fun _ h => pe_callB call_isi (by rfl) B.isinstance (by decide +kernel) (pa_cons h (pa_cons (pe_bltn (v := .ty "tuple") (by rfl) B.tuple (by decide +kernel) rfl) pa_nil))) (qv 1))) (qw_and1 (qt_cmp oq_gt (qv 4) qe_int (nomark _))))) (qss_one (qs_ret (qe_cal c__law_row_bent hG g0 hr (by rfl) (qa_cons (qv 0) (qa_cons (qv 1) qa_nil))))) qss_nil) (qss_cons (qs_if (QW.qt (qw_and (qt_val (qe_isi "int" (by decide) (fun _ h => pe_callB call_isi (by rfl) B.isinstance (by decide +kernel) (pa_cons h (pa_cons (pe_bltn (v := .ty "int") (by rfl) B.int (by decide +kernel) rfl) pa_nil))) (qv 1))) (qw_and (qt_not (qt_val (qe_isi "bool" (by decide) (fun _ h => pe_callB call_isi (by rfl) B.isinstance (by decide +kernel) (pa_cons h (pa_cons (pe_bltn (v := .ty "bool") (by rfl) B.bool (by decide +kernel) rfl) pa_nil))) (qv 1)))) (qw_and1 (qt_cmp oq_gt (qv 4) qe_int (nomark _)))))) (qss_one (qs_ret (qe_ix (qe_lst (qa_cons (qe_op oq_add (qv 1) qe_int) (qa_cons (qe_op oq_sub (qv 1) qe_int) (qa_cons (qe_op oq_sub qe_int (qv 1)) (qa_cons (qe_cmp (oq_eqA hr.units) (qv 1) qe_int (nomark _)) (qa_cons (qe_callTy cq_str (by rfl) B.str (by decide +kernel) (qa_cons (qv 1) qa_nil)) qa_nil)))))) (qe_op oq_sub (qv 4) qe_int) (fun _ _ => rfl)))) qss_nil) (qss_cons (qs_if (QW.qt (qw_and (qt_val (qe_isi "str" (by decide) (fun _ h => pe_callB call_isi (by rfl) B.isinstance (by decide +kernel) (pa_cons h (pa_cons (pe_bltn (v := .ty "str") (by rfl) B.str (by decide +kernel) rfl) pa_nil))) (qv 1))) (qw_and1 (qt_cmp oq_gt (qv 4) qe_int (nomark _))))) (qss_one (qs_ret (qe_ix (qe_lst (qa_cons (qe_op oq_add (qv 1) qe_str) (qa_cons (qe_slice (qv 1) (qo_some qe_int) qo_none) (qa_cons (qe_upper (qv 1)) (qa_cons qe_str (qa_cons (qe_tup (qa_cons (qv 1) qa_nil)) qa_nil)))))) (qe_op oq_sub (qv 4) qe_int) (fun _ _ => rfl)))) qss_nil) (qss_one (qs_ret (qe_cal c__law_odd hG g0 hr (by rfl) (qa_cons (qv 0) qa_nil))))))))), ?_⟩)
  rintro _ ⟨x, q, k, d, b, rfl, q0, q1, hF, hd, hb, hk⟩
  have hc := (gd_show (show k ≤ 1000 by omega) x hF.g).2.2.2
  have tk := cl_tok hc
  have odd : ∀ d, Fit 0 1 12 d → rSp [tokD, x, .int q] d := by
    rintro y hy _ _ k d b e hF
    cases e
    exact hy.mono (by omega) (by omega) (by omega)
  have bent : ∀ {xs : List PyData} {d : PyData}, x = .tuple xs → (∀ (xs_1 : List PyData) (k d_1 b : Nat), xs = xs_1 → Fit k d_1 b (.tuple xs_1) → Fit k (d_1 + 1) (2 * b + 20) d) → rSp [tokD, x, .int q] d := by
    rintro xs r rfl h
    exact rsp_mk fun k d b hF => (h xs k d b rfl hF).mono (by omega) (by omega) (by omega)
  cases x with
  | tuple xs =>
    simp [and_assoc, hide]
    refine ⟨tk, ?_⟩
    have way : ∀ (x : Int), 0 ≤ x → x < 6 → isTok (PyData.tuple xs) = false ∧ if 0 < x then (∃ x x_1 x_2, Fit x x_1 x_2 (PyData.tuple xs) ∧ x_2 ≤ 100000 ∧ x ≤ 900) ∧ ∀ (d : PyData), (∀ (xs_1 : List PyData) (k d_1 b : Nat), xs = xs_1 → Fit k d_1 b (PyData.tuple xs_1) → Fit k (d_1 + 1) (2 * b + 20) d) → rSp [tokD, PyData.tuple xs, PyData.int q] d
        else isTok (PyData.tuple xs) = false ∧ ∀ (d : PyData), Fit 0 1 12 d → rSp [tokD, PyData.tuple xs, PyData.int q] d := fun x _ _ => by
      refine ⟨tk, ?_⟩
      split
      · exact ⟨⟨k, d, b, hF, by omega, hk⟩, fun d h => bent rfl h⟩
      · exact ⟨tk, odd⟩
    cases xs with
    | nil => exact .inl ⟨by simp [PyData.eqv, PyData.eqvAll], way⟩
    | cons y ys =>
      refine .inr ⟨by simp [PyData.eqv, PyData.eqvAll], ?_⟩
      generalize exs : y :: ys = xs at *
      obtain ⟨hI, h1d⟩ := hF.items
      have hlen := hI.len
      split
      · rename_i hq
        have hpos : 0 < xs.length := by rw [← exs]; simp
        refine ⟨hpos, by omega, fun v v0 v1 => ?_⟩
        obtain ⟨i, rfl⟩ := Int.eq_ofNat_of_zero_le v0
        have hi : i < xs.length := by omega
        have e : xs[i]? = some xs[i] := List.getElem?_eq_getElem hi
        have me : xs[i] ∈ xs := List.getElem_mem hi
        refine ⟨xs[i], atI_nat e, ⟨xs[i], q - 1, k, d, b, rfl, by omega, by omega, ⟨hI.g _ me, by have := hI.d _ me; omega, by have := bulk_mem me; have := hI.b; omega⟩, hd, hb, hk⟩, fun r hr => ?_⟩
        rw [cut_to, show ((i : Int) + 1) = ((i + 1 : Nat) : Int) from rfl, cut_from]
        have lt : (xs.take i).length ≤ xs.length := by simp; omega
        have ld : (xs.drop (i + 1)).length ≤ xs.length := by simp
        refine ⟨sl (by omega), sl (by omega), rsp_mk fun k d b hF => ?_⟩
        obtain ⟨hI, h1d⟩ := hF.items
        have hx : Fit k (d - 1) (xs[i]).bulk xs[i] := ⟨hI.g _ me, hI.d _ me, Nat.le_refl _⟩
        have hr := hr xs[i] (q - 1) k (d - 1) (xs[i]).bulk rfl hx
        have sub := take_drop_sub xs (show i ≤ i + 1 by omega)
        have eb : PyData.bulkAll (xs.take i ++ xs.drop (i + 1)) + (xs[i]).bulk + 1 ≤ b := by
          have e2 : PyData.bulkAll xs = PyData.bulkAll (xs.take i ++ xs[i] :: xs.drop (i + 1)) := by
            rw [List.getElem_cons_drop, List.take_append_drop]
          have h1 := hI.b
          rw [e2, bulkAll_app, PyData.bulkAll] at h1
          rw [bulkAll_app]
          omega
        have hA : FitL k (d - 1) (b - 1 - (xs[i]).bulk) (xs.take i ++ xs.drop (i + 1)) := ⟨(hI.sub sub).g, (hI.sub sub).d, by omega⟩
        have hB := ((hA.mono (Nat.le_succ k) (show d - 1 ≤ d - 1 + 2 by omega) (Nat.le_refl _)).app hr.one)
        have q : (xs.take i ++ r :: xs.drop (i + 1)).Perm ((xs.take i ++ xs.drop (i + 1)) ++ [r]) := by
          rw [List.append_assoc]
          exact List.Perm.append_left _ (List.perm_append_comm (l₁ := [r]))
        exact (hB.perm q).tup.mono (Nat.le_refl _) (by omega) (by omega)
      · exact way
  | int i =>
    have hi := gd_num.mp hF.g
    simp [and_assoc, hide]
    refine ⟨tk, fun v v0 v1 => ⟨tk, ?_⟩⟩
    split
    · refine ⟨(gd_int (by omega)).1, ?_⟩
      rcases (show v = 1 ∨ v = 2 ∨ v = 3 ∨ v = 4 ∨ v = 5 by omega) with rfl | rfl | rfl | rfl | rfl
      · exact ⟨_, rfl, rsp_mk fun k d b hF => ⟨gd_num.mpr (by have := gd_num.mp hF.g; omega), Nat.zero_le _, Nat.zero_le _⟩⟩
      · exact ⟨_, rfl, rsp_mk fun k d b hF => ⟨gd_num.mpr (by have := gd_num.mp hF.g; omega), Nat.zero_le _, Nat.zero_le _⟩⟩
      · exact ⟨_, rfl, rsp_mk fun k d b hF => ⟨gd_num.mpr (by have := gd_num.mp hF.g; omega), Nat.zero_le _, Nat.zero_le _⟩⟩
      · exact ⟨_, rfl, rsp_mk fun k d b hF => ⟨rfl, Nat.zero_le _, Nat.zero_le _⟩⟩
      · have hl : (Str.ofString (toString i)).length ≤ 42 := (gd_int (i := i) (by omega)).2
        refine ⟨_, rfl, rsp_mk fun k d b hF => ⟨gd_str.mpr ⟨?_, fun c hc => ?_⟩, Nat.zero_le _, ?_⟩⟩
        · show (Str.ofString (toString i)).length ≤ _
          omega
        · by_cases h : c ≠ 45 ∧ (c < 48 ∨ 57 < c)
          · exact absurd hc (PyProof.Rows.int_text_free' c h i)
          · omega
        · show (Str.ofString (toString i)).length ≤ _
          omega
    · exact ⟨tk, odd⟩
  | str z =>
    obtain ⟨hz, hzc⟩ := gd_str.mp hF.g
    simp [and_assoc, hide]
    refine ⟨tk, fun v v0 v1 => ⟨tk, ?_⟩⟩
    split
    · have la : (Str.ofString "a").length = 1 := rfl
      refine ⟨sl (by omega), sl (by omega), by omega, ?_⟩
      rcases (show v = 1 ∨ v = 2 ∨ v = 3 ∨ v = 4 ∨ v = 5 by omega) with rfl | rfl | rfl | rfl | rfl
      · refine ⟨_, rfl, rsp_mk fun k d b hF => ?_⟩
        obtain ⟨hz, hzc⟩ := gd_str.mp hF.g
        have hb : z.length ≤ b := hF.b
        have e : (z ++ Str.ofString "a").length = z.length + 1 := str_len_app z (Str.ofString "a")
        refine ⟨gd_str.mpr ⟨by omega, fun c hc => ?_⟩, Nat.zero_le _, ?_⟩
        · rcases str_mem_app hc with h | h
          · exact hzc c h
          · exact (show ∀ c ∈ (Str.ofString "a").cps.toList, c < 128 by decide +kernel) c h
        · show (z ++ Str.ofString "a").length ≤ _
          omega
      · refine ⟨_, rfl, rsp_mk fun k d b hF => ?_⟩
        obtain ⟨hz, hzc⟩ := gd_str.mp hF.g
        have hb : z.length ≤ b := hF.b
        obtain ⟨h1, h2⟩ := cutS_sub z (some 1) none
        refine ⟨gd_str.mpr ⟨by omega, fun c hc => hzc c (h2 c hc)⟩, Nat.zero_le _, ?_⟩
        show (cutS z (some 1) none).length ≤ _
        omega
      · refine ⟨_, rfl, rsp_mk fun k d b hF => ?_⟩
        obtain ⟨hz, hzc⟩ := gd_str.mp hF.g
        have hb : z.length ≤ b := hF.b
        have e := up_len hzc
        refine ⟨gd_str.mpr ⟨by omega, up_low hzc⟩, Nat.zero_le _, ?_⟩
        show (Txt.upper z).length ≤ _
        omega
      · exact ⟨_, rfl, rsp_mk fun k d b hF => ⟨gd_str.mpr ⟨by show 1 ≤ _; omega, by decide⟩, Nat.zero_le _, by show 1 ≤ _; omega⟩⟩
      · exact ⟨_, rfl, rsp_mk fun k d b hF => hF.one.tup.mono (by omega) (by omega) (by omega)⟩
    · exact odd
  | none =>
    simp [and_assoc, hide, tk]
    exact fun _ _ _ => odd
  | bool k =>
    simp [and_assoc, hide, tk]
    exact fun _ _ _ => odd
  | list l =>
    simp [and_assoc, hide, tk]
    exact fun _ _ _ => odd
  | dict l =>
    simp [and_assoc, hide, tk]
    exact fun _ _ _ => odd
theorem c__law_spoilt (B : Bl mg) (D : Dfn K mg "_law_spoilt" s__law_spoilt ["_law_deck_here", "_law_thing", "_law_deep_here"]) (c__law_draw : CDraw P w K mg base n) (c__law_odd : COdd P w K mg base n) (c__law_row_bent : CBent P w K mg base n) :
    ∀ m : Nat, Cal P w K mg base (n + 1 + m) "_law_spoilt" ["_law_deck_here", "_law_thing", "_law_deep_here"] (spQ IsDk (pSp m) rSp)
  | 0 => (Cal.no D (G := IsDk)).pre (by rintro _ ⟨_, q, _, _, _, rfl, h1, h2, _⟩; omega) (fun _ _ _ h => h)
  | m + 1 => s1_law_spoilt m B D c__law_draw c__law_odd c__law_row_bent (c__law_spoilt B D c__law_draw c__law_odd c__law_row_bent m)
end
end Kr

set_option Elab.async false
set_option linter.all false
set_option maxRecDepth 100000
set_option maxHeartbeats 1000000
namespace Kr
open PySem PySem.Spec PyProof.Rows L2
/-! what makes pairs alike behind rows, put in wherever it is found -/
def Keys (rs : Rows) : List Int := rs.map (·.1)
theorem look_none {rs : Rows} {n : Int} (h : n ∉ Keys rs) : look rs n = none := by
  unfold look
  rw [List.find?_eq_none.mpr fun p hp => ?_]
  · rfl
  · intro e
    have e' : p.1 = n := of_decide_eq_true e
    exact h (List.mem_map.mpr ⟨p, hp, e'⟩)
theorem look_some {rs : Rows} {n : Int} (h : n ∈ Keys rs) : ∃ t, look rs n = some t := by
  cases e : look rs n with
  | some t => exact ⟨t, rfl⟩
  | none =>
    exfalso
    obtain ⟨p, hp, rfl⟩ := List.mem_map.mp h
    unfold look at e
    rw [Option.map_eq_none_iff, List.find?_eq_none] at e
    exact e p hp (decide_eq_true rfl)
/-- no number of the rows stands in it -/
def Free (rs : Rows) (t : Tm) : Prop := ∀ n ∈ t.vars, n ∉ Keys rs
def Idem (rs : Rows) : Prop := ∀ p ∈ rs, Free rs p.2
theorem put_free {rs : Rows} {t : Tm} (h : Free rs t) : put rs t = t := by
  have e : put rs t = Tm.sub .unk t := Tm.sub_congr t fun n hn => by
    rw [look_none (h n hn)]
    rfl
  rw [e, Tm.sub_id]
theorem free_put {rs : Rows} (h : Idem rs) (t : Tm) : Free rs (put rs t) := fun n hn hk => by
  obtain ⟨m, _, h2⟩ := Tm.vars_sub hn
  cases e : look rs m with
  | some u =>
    rw [e] at h2
    exact h _ (look_mem e) n h2 hk
  | none =>
    rw [e] at h2
    have : n = m := by simpa [Tm.vars] using h2
    subst this
    obtain ⟨u, e2⟩ := look_some hk
    rw [e2] at e
    cases e
theorem put_vars {rs : Rows} {t : Tm} {n : Int} (h : n ∈ (put rs t).vars) : n ∈ t.vars ∨ ∃ p ∈ rs, n ∈ p.2.vars := by
  obtain ⟨m, h1, h2⟩ := Tm.vars_sub h
  cases e : look rs m with
  | some u =>
    rw [e] at h2
    exact .inr ⟨_, look_mem e, h2⟩
  | none =>
    rw [e] at h2
    have : n = m := by simpa [Tm.vars] using h2
    subst this
    exact .inl h1
theorem put_okR {rs : Rows} {t : Tm} (hk : RowsOk rs) (h : t.ok) : (put rs t).ok := by
  have sub_ok2 : ∀ t : Tm, t.ok → (put rs t).ok := by
    intro t
    induction t with
    | unk m =>
      intro ho
      show ((look rs m).getD (.unk m)).ok
      cases e : look rs m with
      | some u => exact hk _ (look_mem e)
      | none => exact ho
    | pair a b ia ib => exact fun ho => ⟨ia ho.1, ib ho.2⟩
    | int _ => exact fun _ => trivial
    | wrd _ => exact fun ho => ho
    | nil => exact fun _ => trivial
  exact sub_ok2 t h
theorem put_size {rs : Rows} {M : Nat} (hM : 1 ≤ M) (h : ∀ p ∈ rs, p.2.size ≤ M) (t : Tm) : (put rs t).size ≤ t.size * M := Tm.sub_size hM fun n _ => by
  cases e : look rs n with
  | some u => exact h _ (look_mem e)
  | none => exact hM
theorem put_depth {rs : Rows} {M : Nat} (hM : 1 ≤ M) (h : ∀ p ∈ rs, p.2.depth ≤ M) (t : Tm) : (put rs t).depth ≤ t.depth + M := Tm.sub_depth hM fun n _ => by
  cases e : look rs n with
  | some u => exact h _ (look_mem e)
  | none => exact hM
end Kr

set_option Elab.async false
set_option linter.all false
set_option maxRecDepth 100000
set_option maxHeartbeats 4000000
namespace Kr
open PySem PySem.Spec PyProof.Rows L2
abbrev s_put_in : Stmt := topS 19
theorem sc_put_in : FnScope ["term", "filling"] ["term", "filling"] (defScope s_put_in) := ⟨rfl, rfl, rfl, by decide +kernel, rfl, by decide +kernel, by decide +kernel⟩
/-! rows as a filling -/
def fD (rs : Rows) : PyData := .tuple (rs.map fun p => .tuple [.int p.1, p.2.data])
theorem fD_pairs (rs : Rows) : fD rs = .tuple (pairsD (dR rs)) := by
  unfold fD pairsD dR
  rw [List.map_map]
  rfl
theorem keys_dR (rs : Rows) : (dR rs).map (·.1) = (Keys rs).map Sum.inl := by
  unfold dR Keys
  rw [List.map_map, List.map_map]
  rfl
theorem mergeG_app : ∀ (l acc : DL), (∀ kv ∈ l, kv.1 ∉ acc.map (·.1)) → (l.map (·.1)).Nodup → mergeG acc l = acc ++ l
  | [], acc, _, _ => by simp [mergeG]
  | kv :: l, acc, h, hn => by
    rw [List.map_cons, List.nodup_cons] at hn
    have e : putG acc kv.1 kv.2 = acc ++ [kv] := by
      unfold putG
      rw [if_neg]
      rw [Bool.not_eq_true, List.any_eq_false]
      intro x hx hd
      have hd' : x.1 = kv.1 := by simpa using hd
      exact h kv (List.mem_cons_self ..) (List.mem_map.mpr ⟨x, hx, hd'⟩)
    show mergeG (putG acc kv.1 kv.2) l = _
    rw [e, mergeG_app l (acc ++ [kv]) (fun x hx hm => ?_) hn.2, List.append_assoc]
    · rfl
    · rw [List.map_append, List.mem_append] at hm
      rcases hm with hm | hm
      · exact h x (List.mem_cons_of_mem _ hx) hm
      · have : x.1 = kv.1 := by simpa using hm
        exact hn.1 (List.mem_map.mpr ⟨x, hx, this⟩)
theorem mergeG_dR {rs : Rows} (h : (Keys rs).Nodup) : mergeG [] (dR rs) = dR rs := by
  rw [mergeG_app _ _ (fun _ _ => by simp) ?_]
  · rfl
  · rw [keys_dR]
    exact List.Pairwise.map _ (fun a b hab e => hab (Sum.inl.inj e)) h
theorem pairsD_inj : ∀ {l m : DL}, pairsD l = pairsD m → l = m
  | [], [], _ => rfl
  | (k, v) :: l, (j, u) :: m, h => by
    obtain ⟨h1, h2⟩ := List.cons.inj (show PyData.tuple [keyD k, v] :: pairsD l = PyData.tuple [keyD j, u] :: pairsD m from h)
    obtain ⟨h3, h4⟩ := List.cons.inj (PyData.tuple.inj h1)
    rw [keyD_inj h3, (List.cons.inj h4).1, pairsD_inj h2]
  | [], _ :: _, h => by cases h
  | _ :: _, [], h => by cases h
theorem tm_data : ∀ {t : Tm}, t.ok → tm t.data = true
  | .int _, _ => rfl
  | .wrd z, h => by
    have := h.2.1
    exact decide_eq_true (by omega)
  | .nil, _ => rfl
  | .unk n, _ => by
    show (if isQ (.str "?") then isWhole (.int n) else _) = true
    rw [isQ_q]
    rfl
  | .pair a b, h => by
    show (if isQ a.data then isWhole b.data else tm a.data && tm b.data) = true
    rw [isQ_tm h.1, tm_data h.1, tm_data h.2]
    rfl
theorem wt_data (rs : Rows) : ∀ {t : Tm}, t.ok → wt (dR rs) t.data = (put rs t).data
  | .int _, _ => rfl
  | .wrd z, _ => rfl
  | .nil, _ => rfl
  | .unk n, _ => by
    show wt (dR rs) (.tuple [.str "?", .int n]) = ((look rs n).getD (.unk n)).data
    rw [wt, if_pos isQ_q, valG_dR]
    cases look rs n <;> rfl
  | .pair a b, h => by
    show wt (dR rs) (.tuple [a.data, b.data]) = .tuple [(put rs a).data, (put rs b).data]
    rw [wt_pair (isQ_tm h.1), wt_data rs h.1, wt_data rs h.2]
theorem noL_data (t : Tm) : noL t.data = true := by
  induction t with
  | pair a b ia ib =>
    show (noL a.data && (noL b.data && true)) = true
    rw [ia, ib]
    rfl
  | _ => rfl
theorem tb_dR (rs : Rows) : tbOk (dR rs) = true := by
  unfold tbOk dR
  rw [List.map_map]
  induction rs with
  | nil => rfl
  | cons p rs ih =>
    show (noL p.2.data && noLs _) = true
    rw [noL_data, ih]
    rfl
theorem Tm.sub_sm {σ : Int → Tm} : ∀ {t : Tm}, t.sm → (∀ n ∈ t.vars, (σ n).sm) → (sub σ t).sm
  | .unk m, _, h => h m (by simp [vars])
  | .pair a b, h, k => ⟨sub_sm h.1 fun n hn => k n (by simp [vars, hn]), sub_sm h.2 fun n hn => k n (by simp [vars, hn])⟩
  | .int _, h, _ => h
  | .wrd _, _, _ => trivial
  | .nil, _, _ => trivial
theorem put_sm {rs : Rows} {t : Tm} (hk : ∀ p ∈ rs, p.2.sm) (h : t.sm) : (put rs t).sm := by
  have sub_sm2 : ∀ t : Tm, t.sm → (put rs t).sm := by
    intro t
    induction t with
    | unk m =>
      intro ho
      show ((look rs m).getD (.unk m)).sm
      cases e : look rs m with
      | some u => exact hk _ (look_mem e)
      | none => exact ho
    | pair a b ia ib => exact fun ho => ⟨ia ho.1, ib ho.2⟩
    | int _ => exact fun ho => ho
    | wrd _ => exact fun _ => trivial
    | nil => exact fun _ => trivial
  exact sub_sm2 t h
theorem fit_tm {t : Tm} {z : Nat} (h1 : t.ok) (h2 : t.sm) (h3 : t.size ≤ z) : Fit 0 z (12 * z) t.data :=
  ⟨gd_tm h1 h2, Nat.le_trans t.data_depth (Nat.le_trans t.depth_size h3), Nat.le_trans (bulk_data h1) (Nat.mul_le_mul_left _ h3)⟩
/-- a filling of so many rows, of so great terms -/
structure FilR (z m : Nat) (rs : Rows) : Prop where
  ok : ∀ p ∈ rs, p.2.ok ∧ p.2.sm ∧ p.2.size ≤ z
  ky : ∀ p ∈ rs, 0 ≤ p.1 ∧ p.1.natAbs ≤ 10 ^ 39
  up : (Keys rs).Pairwise (· < ·)
  fr : Idem rs
  lt : ∀ p ∈ rs, ∀ k, p.2 = .unk k → k < p.1
  len : rs.length ≤ m
theorem FilR.nodup {z m : Nat} {rs : Rows} (h : FilR z m rs) : (Keys rs).Nodup := pw_nodup h.up
theorem fit_rows {z m : Nat} {rs : Rows} (hok : ∀ p ∈ rs, p.2.ok ∧ p.2.sm ∧ p.2.size ≤ z) (hky : ∀ p ∈ rs, 0 ≤ p.1 ∧ p.1.natAbs ≤ 10 ^ 39) (hlen : rs.length ≤ m) : FitL 0 (z + 1) (m * (12 * z + 3)) (rs.map fun p => .tuple [.int p.1, p.2.data]) := by
  refine ⟨fun x hx => ?_, fun x hx => ?_, ?_⟩
  · obtain ⟨p, hp, rfl⟩ := List.mem_map.mp hx
    obtain ⟨o1, o2, _⟩ := hok p hp
    refine gd_tup.mpr fun y hy => ?_
    rcases List.mem_cons.mp hy with rfl | hy
    · exact gd_num.mpr (hky p hp).2
    · rw [List.mem_singleton.mp hy]
      exact gd_tm o1 o2
  · obtain ⟨p, hp, rfl⟩ := List.mem_map.mp hx
    obtain ⟨o1, o2, o3⟩ := hok p hp
    have := (fit_tm o1 o2 o3).d
    rw [depth_pair]
    show max 0 _ + 1 ≤ _
    omega
  · have key : ∀ rs : Rows, (∀ p ∈ rs, p.2.ok ∧ p.2.size ≤ z) → PyData.bulkAll (rs.map fun p => .tuple [.int p.1, p.2.data]) ≤ rs.length * (12 * z + 3) := by
      intro rs
      induction rs with
      | nil => intro _; exact Nat.zero_le _
      | cons p rs ih =>
        intro h
        have h1 := ih fun q hq => h q (List.mem_cons_of_mem _ hq)
        obtain ⟨o1, o2⟩ := h p (List.mem_cons_self ..)
        have h2 := bulk_data o1
        have h3 : 12 * p.2.size ≤ 12 * z := Nat.mul_le_mul_left _ o2
        rw [List.map_cons, PyData.bulkAll, bulk_pair, List.length_cons, Nat.succ_mul]
        show 0 + p.2.data.bulk + 2 + 1 + _ ≤ _
        omega
    exact Nat.le_trans (key rs fun p hp => ⟨(hok p hp).1, (hok p hp).2.2⟩) (Nat.mul_le_mul_right _ hlen)
theorem FilR.fitL {z m : Nat} {rs : Rows} (h : FilR z m rs) : FitL 0 (z + 1) (m * (12 * z + 3)) (rs.map fun p => .tuple [.int p.1, p.2.data]) := fit_rows h.ok h.ky h.len
theorem FilR.fit {z m : Nat} {rs : Rows} (h : FilR z m rs) : Fit 0 (z + 2) (m * (12 * z + 3)) (fD rs) := h.fitL.tup
theorem row_ok {p : Int × Tm} (o : p.2.ok) (h0 : 0 ≤ p.1) (hl : ∀ k, p.2 = .unk k → k < p.1) : isRow (.tuple [.int p.1, p.2.data]) = true := by
  obtain ⟨n, t⟩ := p
  rw [row_isT o, decide_eq_true h0]
  cases t with
  | unk k =>
    have := hl k rfl
    show (true && !decide (n ≤ k)) = true
    have h : k < n := this
    rw [decide_eq_false (by omega)]
    rfl
  | _ => rfl
/-- the filling's three clauses, of rows whose terms are such -/
theorem fil_fD {rs : Rows} (ho : ∀ p ∈ rs, p.2.ok ∧ 0 ≤ p.1 ∧ ∀ k, p.2 = .unk k → k < p.1) : isFil (fD rs) = true ↔ (Keys rs).Pairwise (· < ·) ∧ Idem rs := by
  have e1 : (rs.map fun p : Int × Tm => PyData.tuple [.int p.1, p.2.data]).all isRow = true := by
    rw [List.all_eq_true]
    intro x hx
    obtain ⟨p, hp, rfl⟩ := List.mem_map.mp hx
    exact row_ok (ho p hp).1 (ho p hp).2.1 (ho p hp).2.2
  have e2 : (rs.map fun p : Int × Tm => PyData.tuple [.int p.1, p.2.data]).map noOf = Keys rs := by
    rw [List.map_map]
    rfl
  have e3 : (rs.map fun p : Int × Tm => PyData.tuple [.int p.1, p.2.data]).map tmOf = (rs.map (·.2)).map Tm.data := by
    rw [List.map_map, List.map_map]
    rfl
  show (_ && incr _ && _) = true ↔ _
  rw [e1, e2, e3, nums_tm (fun t ht => by obtain ⟨p, hp, rfl⟩ := List.mem_map.mp ht; exact (ho p hp).1), Bool.true_and, Bool.and_eq_true, incr_pw, List.all_eq_true]
  refine and_congr Iff.rfl ⟨fun h p hp n hn hk => ?_, fun h n hn => ?_⟩
  · have := h n ((mem_addAll _ _ _).mpr (.inr (List.mem_flatMap.mpr ⟨p.2, List.mem_map.mpr ⟨p, hp, rfl⟩, hn⟩)))
    simp [hk] at this
  · rcases (mem_addAll _ _ _).mp hn with hn | hn
    · cases hn
    · obtain ⟨t, ht, hv⟩ := List.mem_flatMap.mp hn
      obtain ⟨p, hp, rfl⟩ := List.mem_map.mp ht
      have := h p hp n hv
      simp [this]
theorem FilR.fil {z m : Nat} {rs : Rows} (h : FilR z m rs) : isFil (fD rs) = true := (fil_fD fun p hp => ⟨(h.ok p hp).1, (h.ky p hp).1, h.lt p hp⟩).mpr ⟨h.up, h.fr⟩
section
variable {P : Program} {w : World} {K : PySem.W.Frag} {mg : Str → Option Value} {base : Heap} {n : Nat}
/-- what put_in is asked of -/
def PutIn (d : Nat) (ds : List PyData) : Prop := ∃ (t : Tm) (rs : Rows), ds = [t.data, fD rs] ∧ t.ok ∧ t.depth ≤ d ∧ t.size ≤ 30000 ∧ (Keys rs).Nodup
theorem c_put_in (d : Nat) (B : Bl mg) (D : Dfn K mg "put_in" s_put_in ["term", "filling"]) (c_with_terms : Cal P w K mg base n "with_terms" ["term", "table"] (spQ Any (preW d) resW)) :
    Cal P w K mg base (n + 1) "put_in" ["term", "filling"] (spQ Any (PutIn d) (fun ds r => ∀ (t : Tm) (rs : Rows), ds = [t.data, fD rs] → t.ok → (Keys rs).Nodup → r = (put rs t).data)) := by
  refine defG [] D sc_put_in (by rintro _ ⟨_, _, rfl, _⟩; rfl) (by simp) (fun f C hG cdv A outer s H E g0 hr => ⟨_, (qss_one (qs_ret (qe_cal c_with_terms trivial g0 hr (by rfl) (qa_cons (qv 0) (qa_cons (qe_callTy (cq_dictP rfl) (by rfl) B.dict (by decide +kernel) (qa_cons (qv 1) qa_nil)) qa_nil))))), ?_⟩)
  rintro _ ⟨t, rs, rfl, ho, hd, hz, hn⟩
  simp [and_assoc, hide]
  refine ⟨dR rs, .inl (fD_pairs rs), ?_⟩
  rw [mergeG_dR hn]
  refine ⟨⟨t.data, dR rs, rfl, tm_data ho, ?_, Nat.le_trans t.data_depth hd, tb_dR rs⟩, ?_⟩
  · have := bulk_data ho
    omega
  · rintro r ⟨x, l, e, rfl⟩ u us e1 e2 hu hn2
    obtain ⟨e3, e4⟩ := List.cons.inj e
    have e5 : dR rs = l := dD_inj (List.cons.inj e4).1
    rw [fD_pairs, fD_pairs] at e2
    have e6 := pairsD_inj (PyData.tuple.inj e2)
    rw [← e3, ← e5, e1, e6, wt_data us hu]
end
end Kr

set_option Elab.async false
set_option linter.all false
set_option maxRecDepth 100000
set_option maxHeartbeats 4000000
namespace Kr
open PySem PySem.Spec PyProof.Rows L2
abbrev s__law_made : Stmt := topS 38
theorem sc__law_made : FnScope ["_law_deck_here", "_law_numbers_here", "_law_chosen", "_law_number", "_law_free", "_law_rows", "_law_lesser", "_law_one", "_law_term_here"] ["_law_deck_here"] (defScope s__law_made) := ⟨rfl, rfl, rfl, by decide +kernel, rfl, by decide +kernel, by decide +kernel⟩
section
variable {P : Program} {w : World} {K : PySem.W.Frag} {mg : Str → Option Value} {base : Heap} {n : Nat}
def qMade : Str := ("_law_made" : Str) ++ ".<locals>." ++ "<lambda>"
abbrev GT (T : Addr) (C : Cz) : Prop := IsDk C ∧ IsTb T qMade C
abbrev CNums (P : Program) (w : World) (K : PySem.W.Frag) (mg : Str → Option Value) (base : Heap) (n : Nat) : Prop := Cal P w K mg base n "_law_numbers" ["_law_deck_here"] (spQ IsDk (p1 fun x => x = tokD) (fun ds d => NumsD d))
abbrev CTerm (P : Program) (w : World) (K : PySem.W.Frag) (mg : Str → Option Value) (base : Heap) (n m : Nat) : Prop := Cal P w K mg base n "_law_term" ["_law_deck_here", "_law_numbers_here", "_law_room", "_law_open_ones"] (spQ IsDk (pTerm m) rTerm)
/-- a comprehension that keeps some of what it walks -/
theorem lc_sub {ks : List Nat} {dec : Dec} {tt : P0T} {te : P0} {ρ : Rho} {Q : PyData → Prop} : ∀ (ds acc : List PyData), acc.length + ds.length ≤ 1000000 →
    (∀ d ∈ ds, ∃ l, dec d = some l ∧ (∀ p ∈ l, p.1 ∈ ks) ∧ ∀ R : Option PyData → Prop, R none → R (some d) → tt (setsR ρ l) fun b => if b = true then te (setsR ρ l) fun y => R (some y) else R none) →
    (∀ ys : List PyData, ys.Sublist ds → Q (.list (acc ++ ys))) → lcGo ks dec tt te ρ Q ds acc
  | [], acc, _, _, q => by
    have := q [] (List.Sublist.refl _)
    rwa [List.append_nil] at this
  | d :: ds, acc, hl, h, q => by
    obtain ⟨l, e, c, hr⟩ := h d (List.mem_cons_self ..)
    rw [List.length_cons] at hl
    have rest := fun d hd => h d (List.mem_cons_of_mem _ hd)
    have big : acc.length < sizeLine := Nat.lt_of_lt_of_le (show acc.length < 1000000 by omega) (by decide)
    refine ⟨l, e, c, ?_⟩
    have := hr (fun o => match o with | some y => acc.length < sizeLine ∧ lcGo ks dec tt te ρ Q ds (acc ++ [y]) | none => lcGo ks dec tt te ρ Q ds acc) ?_ ?_
    · exact this
    · exact lc_sub ds acc (by omega) rest fun ys h1 => q ys (h1.cons d)
    · refine ⟨big, lc_sub ds (acc ++ [d]) (by rw [List.length_append]; show acc.length + 1 + _ ≤ _; omega) rest fun ys h1 => ?_⟩
      rw [List.append_assoc]
      exact q _ (h1.cons_cons d)
def rowD (p : Int × Tm) : PyData := .tuple [.int p.1, p.2.data]
theorem sub_ints {ns : List Int} {ys : List PyData} (h : ys.Sublist (ns.map .int)) : ∃ cs : List Int, ys = cs.map .int ∧ cs.Sublist ns := by
  obtain ⟨cs, h1, h2⟩ := List.sublist_map_iff.mp h
  exact ⟨cs, h2, h1⟩
def keepI (p : Int → Bool) : PyData → Option PyData
  | .int m => if p m = true then some (.int m) else none
  | _ => none
theorem keepI_int (p : Int → Bool) (m : Int) : keepI p (.int m) = if p m = true then some (.int m) else none := rfl
theorem filt_ints (p : Int → Bool) (ns : List Int) : (ns.map PyData.int).filterMap (keepI p) = (ns.filter p).map .int := by
  induction ns with
  | nil => rfl
  | cons n ns ih =>
    rw [List.map_cons, List.filterMap_cons, List.filter_cons, keepI_int]
    cases h : p n with
    | true =>
      rw [if_pos rfl, if_pos rfl, List.map_cons, ← ih]
    | false =>
      rw [if_neg Bool.false_ne_true, if_neg Bool.false_ne_true, ← ih]
theorem sort_rows {rs : Rows} (h : (Keys rs).Pairwise (· < ·)) : (rs.map rowD).mergeSort (PySem.W.dataLe false fun d => .int (keyI d)) = rs.map rowD := by
  rw [PySem.W.dataLe_int]
  refine List.mergeSort_of_pairwise ?_
  rw [List.pairwise_map]
  have h' : rs.Pairwise fun p q => p.1 < q.1 := List.pairwise_map.mp h
  exact h'.imp fun {p q} hpq => decide_eq_true (show p.1 ≤ q.1 by omega)
theorem c__law_made {c T : Addr} (sy : Sy base) (B : Bl mg) (TB : LamX.TabB base mg c T) (D : DfnC K mg "_law_made" s__law_made ["_law_deck_here"] (.ref c)) (c__law_numbers : CNums P w K mg base n) (c__law_draw : CDraw P w K mg base n) (c__law_pick : CPick P w K mg base n) (c__law_term : CTerm P w K mg base n 15) (c__law_is_unknown : CUnk P w K mg base n) :
    Cal P w K mg base (n + 1) "_law_made" ["_law_deck_here"] (spQ (GT T) (p1 fun x => x = tokD) (fun ds d => ∃ rs, FilR 9 8 rs ∧ d = fD rs)) := by
  refine defGC [5] D sc__law_made len1' (by simp) (fun f C hGT A outer s H E g0 hr => ⟨_, (qss_cons (qs_setX (k := 1) (by decide) sc__law_made.nd rfl (by first | exact Or.inl rfl | exact Or.inr rfl) (fun _ x1 => (qe_cal c__law_numbers (hGT.1.ext x1) g0 hr (by rfl) (qa_cons (qv 0) qa_nil)))) (qss_cons (qs_setX (k := 2) (by decide) sc__law_made.nd rfl (by first | exact Or.inl rfl | exact Or.inr rfl) (fun _ x2 => (qe_lc (own := [("_law_number", 3)]) (G := (gName 3)) (dec := (dName 3)) rfl sc__law_made.nd (qi_list (qv 1)) (blkOk_by (own := [("_law_number", 3)]) (N := ["_law_deck_here", "_law_numbers_here", "_law_chosen", "_law_number", "_law_free", "_law_rows", "_law_lesser", "_law_one", "_law_term_here"]) (sc := defScope s__law_made) (by decide +kernel)) (fun _ _ _ _ _ _ => (qg_name (k := 3) sc__law_made.nd rfl (by first | exact Or.inl rfl | exact Or.inr rfl))) (fun _ x3 => (fun _ _ _ _ _ => qts_one (qt_cmp (oq_eqA hr.units) (qe_cal c__law_draw ((hGT.1.ext x2).ext x3) g0 hr (by rfl) (qa_cons (qv 0) (qa_cons qe_int qa_nil))) qe_int (nomark _)))) (fun _ x4 => (fun _ _ _ _ _ => (qv 3)))))) (qss_cons (qs_setLc (k := 4) (own := [("_law_number", 3)]) (G := (gName 3)) (dec := (dName 3)) (by decide) rfl rfl (sw_true rfl rfl (by decide) (by decide +kernel)) rfl sc__law_made.nd (fun _ x5 => (qi_list (qv 1))) (blkOk_by (own := [("_law_number", 3)]) (N := ["_law_deck_here", "_law_numbers_here", "_law_chosen", "_law_number", "_law_free", "_law_rows", "_law_lesser", "_law_one", "_law_term_here"]) (sc := defScope s__law_made) (by decide +kernel)) (fun _ _ _ _ _ _ => (qg_name (k := 3) sc__law_made.nd rfl (by first | exact Or.inl rfl | exact Or.inr rfl))) (fun _ x6 => (fun _ _ _ _ _ => qts_one (qt_cmp (oq_notin sy (hu65 hr)) (qv 3) (qv 2) (by rfl)))) (fun _ x7 => (fun _ _ _ _ _ => (qv 3)))) (qss_cons (qs_own (k := 5) (by decide) sc__law_made.nd rfl (by first | exact Or.inl rfl | exact Or.inr rfl) (fun _ x8 => (qf_lst qa_nil))) (qss_cons (qs_for (G := (gName 3)) (dec := (dName 3)) PassesOwn.never rfl (fun _ x9 => (qi_list (qv 2))) (fun _ => (qg_name (k := 3) sc__law_made.nd rfl (by first | exact Or.inl rfl | exact Or.inr rfl))) (qss_cons (qs_setLc (k := 6) (own := [("_law_one", 7)]) (G := (gName 7)) (dec := (dName 7)) (by decide) rfl rfl (sw_true rfl rfl (by decide) (by decide +kernel)) rfl sc__law_made.nd (fun _ x10 => (qi_list (qv 4))) (blkOk_by (own := [("_law_one", 7)]) (N := ["_law_deck_here", "_law_numbers_here", "_law_chosen", "_law_number", "_law_free", "_law_rows", "_law_lesser", "_law_one", "_law_term_here"]) (sc := defScope s__law_made) (by decide +kernel)) (fun _ _ _ _ _ _ => (qg_name (k := 7) sc__law_made.nd rfl (by first | exact Or.inl rfl | exact Or.inr rfl))) (fun _ x11 => (fun _ _ _ _ _ => qts_one (qt_cmp oq_lt (qv 7) (qv 3) (nomark _)))) (fun _ x12 => (fun _ _ _ _ _ => (qv 7)))) (qss_one (qs_if (QW.qt (qw_and (qt_cmp (oq_neL0 hr.units) (qv 6) (qe_lst qa_nil) (nomark _)) (qw_and1 (qt_cmp (oq_eqA hr.units) (qe_cal c__law_draw hGT.1 g0 hr (by rfl) (qa_cons (qv 0) (qa_cons qe_int qa_nil))) qe_int (nomark _))))) (qss_one (qs_append (k := 5) (fun _ h => pe_bm PySem.F.plainAttrs_list PySem.F.slot_list_append PySem.F.type_list_append mt_append (pv 5) (pa_cons h pa_nil)) (fun _ x13 => (qe_tup (qa_cons (qv 3) (qa_cons (qe_tup (qa_cons qe_str (qa_cons (qe_cal c__law_pick (hGT.1.ext x13) g0 hr (by rfl) (qa_cons (qv 0) (qa_cons (qv 6) qa_nil))) qa_nil))) qa_nil)))))) (qss_cons (qs_setX (k := 8) (by decide) sc__law_made.nd rfl (by first | exact Or.inl rfl | exact Or.inr rfl) (fun _ x14 => (qe_cal c__law_term (hGT.1.ext x14) g0 hr (by rfl) (qa_cons (qv 0) (qa_cons (qv 4) (qa_cons (qe_op oq_add qe_int (qe_cal c__law_draw (hGT.1.ext x14) g0 hr (by rfl) (qa_cons (qv 0) (qa_cons qe_int qa_nil)))) (qa_cons qe_int qa_nil))))))) (qss_one (qs_append (k := 5) (fun _ h => pe_bm PySem.F.plainAttrs_list PySem.F.slot_list_append PySem.F.type_list_append mt_append (pv 5) (pa_cons h pa_nil)) (fun _ x15 => (qe_tup (qa_cons (qv 3) (qa_cons (qe_if (qt_val (qe_cal c__law_is_unknown trivial g0 hr (by rfl) (qa_cons (qv 8) qa_nil))) (qe_tup (qa_cons (qv 8) (qa_cons qe_int qa_nil))) (qv 8)) qa_nil))))))))))) (qss_one (qs_ret (qe_callTy cq_tuple (by rfl) B.tuple (by decide +kernel) (qa_cons (qe_sort0 key0_int hGT.2 TB rfl hr (by rfl) B.sorted (qv 5) rfl rfl rfl rfl rfl rfl (by decide +kernel) rfl (fun _ _ _ _ => rfl) (by decide)) qa_nil))))))))), ?_⟩)
  rintro _ ⟨x, rfl, rfl⟩
  simp [and_assoc, hide]
  rintro _ ⟨ns, rfl, hl, hk, hp⟩
  refine ⟨_, rfl, lc_sub _ _ (by simp; omega) (fun d hd => ?_) fun ys hs => ?_⟩
  · obtain ⟨k, _, rfl⟩ := List.mem_map.mp hd
    refine ⟨[(3, .int k)], rfl, by simp, fun R h1 h2 => ?_⟩
    simp [wipeR, and_assoc]
    intro x _ _
    split
    · exact h2
    · exact h1
  obtain ⟨cs, rfl, hcs⟩ := sub_ints hs
  rw [List.nil_append]
  have cp := hp.sublist hcs
  have cl := hcs.length_le
  refine ⟨_, rfl, lc_go (keepI fun m => !decide (m ∈ cs)) _ _ (by simp; omega) (fun d hd => ?_) ?_⟩
  · obtain ⟨k, _, rfl⟩ := List.mem_map.mp hd
    refine ⟨[(3, .int k)], rfl, by simp, fun R hR => ?_⟩
    rw [keepI_int] at hR
    simp [wipeR, inOk_intsL, inD_intsL]
    by_cases h : k ∈ cs
    · simp [h] at hR ⊢
      exact hR
    · simp [h] at hR ⊢
      exact hR
  rw [List.nil_append, filt_ints]
  generalize hfr : ns.filter (fun m => !decide (m ∈ cs)) = fr
  have ff : ∀ k ∈ fr, k ∈ ns ∧ k ∉ cs := fun k hk => by
    rw [← hfr, List.mem_filter] at hk
    simpa using hk
  have fl : fr.length ≤ 8 := by
    rw [← hfr]
    exact Nat.le_trans (List.length_filter_le ..) hl
  have fI : IntsD (.list (fr.map .int)) := ⟨fr, rfl, fun k h => hk k (ff k h).1, by omega⟩
  refine ⟨_, rfl, cs.map .int, rfl, fun i ρ => ∃ (rs : Rows) (o3 o6 o7 o8 : Option PyData), ρ = [some tokD, some (.list (ns.map .int)), some (.list (cs.map .int)), o3, some (.list (fr.map .int)), some (.list (rs.map rowD)), o6, o7, o8] ∧ Keys rs = cs.take i ∧
    ∀ p ∈ rs, p.2.ok ∧ p.2.sm ∧ p.2.size ≤ 9 ∧ (∀ v ∈ p.2.vars, v ∈ fr) ∧ ∀ k, p.2 = .unk k → k < p.1, ⟨[], none, none, none, none, rfl, by simp [Keys], by simp⟩, ?_⟩
  rintro i ρ ⟨rs, o3, o6, o7, o8, rfl, hK, hR⟩
  refine ⟨fun e => ?_, fun d hd => ?_⟩
  · rw [List.length_map] at e
    subst e
    rw [List.take_length] at hK
    have up : (Keys rs).Pairwise (· < ·) := by rw [hK]; exact cp
    have F : FilR 9 8 rs := ⟨fun p hp => ⟨(hR p hp).1, (hR p hp).2.1, (hR p hp).2.2.1⟩, fun p hp => hk p.1 (hcs.subset (by rw [← hK]; exact List.mem_map.mpr ⟨p, hp, rfl⟩)), up, fun p hp n hn hq => (ff n ((hR p hp).2.2.2.1 n hn)).2 (by rw [← hK]; exact hq), fun p hp => (hR p hp).2.2.2.2, by
      have := congrArg List.length hK
      rw [Keys, List.length_map] at this
      omega⟩
    simp [and_assoc, hide]
    refine ⟨⟨fun d hd => ?_, by rw [List.length_map]; have := F.len; omega⟩, rs, F, ?_⟩
    · obtain ⟨p, _, rfl⟩ := List.mem_map.mp hd
      exact ⟨[p.2.data], rfl⟩
    · rw [sort_rows up]
      rfl
  · rw [List.getElem?_map] at hd
    have hi : i < cs.length := by
      rcases Nat.lt_or_ge i cs.length with h | h
      · exact h
      · rw [List.getElem?_eq_none h] at hd
        cases hd
    rw [List.getElem?_eq_getElem hi] at hd
    cases hd
    have hx : cs[i] ∈ cs := List.getElem_mem hi
    have ht : cs.take (i + 1) = cs.take i ++ [cs[i]] := by rw [List.take_add_one, List.getElem?_eq_getElem hi]; rfl
    generalize cs[i] = x at *
    refine ⟨[(3, .int x)], rfl, by simp, ?_⟩
    simp [and_assoc, hide]
    have rl : rs.length < sizeLine := sl' (by
      have := congrArg List.length hK
      rw [Keys, List.length_map, List.length_take] at this
      omega)
    have put1 : ∀ t : Tm, t.ok → t.sm → t.size ≤ 9 → (∀ v ∈ t.vars, v ∈ fr) → (∀ k, t = .unk k → k < x) → ∃ rs_1 : Rows, rs.map rowD ++ [PyData.tuple [.int x, t.data]] = rs_1.map rowD ∧ Keys rs_1 = cs.take (i + 1) ∧ ∀ (a : Int) (b : Tm), (a, b) ∈ rs_1 → b.ok ∧ b.sm ∧ b.size ≤ 9 ∧ (∀ v : Int, v ∈ b.vars → v ∈ fr) ∧ ∀ k : Int, b = Tm.unk k → k < a := fun t h1 h2 h3 h4 h5 => by
      refine ⟨rs ++ [(x, t)], by rw [List.map_append]; rfl, by rw [Keys, List.map_append, ht, ← hK]; rfl, fun a b hab => ?_⟩
      rcases List.mem_append.mp hab with h | h
      · exact hR (a, b) h
      · cases List.mem_singleton.mp h
        exact ⟨h1, h2, h3, h4, h5⟩
    have oth : ∀ y : Int, 0 ≤ y → y < 7 → IntsD (PyData.list (List.map PyData.int fr)) ∧ 1 ≤ 1 + y ∧ 1 + y ≤ 15 ∧ ∀ (d : PyData), TmV fr (1 + y).toNat d → List.length rs < sizeLine ∧ TmP 62 d ∧
        ((isMk d = false ∧ ∃ rs_1 : Rows, List.map rowD rs ++ [PyData.tuple [PyData.int x, d]] = List.map rowD rs_1 ∧ Keys rs_1 = List.take (i + 1) cs ∧ ∀ (a : Int) (b : Tm), (a, b) ∈ rs_1 → b.ok ∧ b.sm ∧ b.size ≤ 9 ∧ (∀ (v : Int), v ∈ b.vars → v ∈ fr) ∧ ∀ (k : Int), b = Tm.unk k → k < a) ∨
          isMk d = true ∧ ∃ rs_1 : Rows, List.map rowD rs ++ [PyData.tuple [PyData.int x, PyData.tuple [d, PyData.int 0]]] = List.map rowD rs_1 ∧ Keys rs_1 = List.take (i + 1) cs ∧ ∀ (a : Int) (b : Tm), (a, b) ∈ rs_1 → b.ok ∧ b.sm ∧ b.size ≤ 9 ∧ (∀ (v : Int), v ∈ b.vars → v ∈ fr) ∧ ∀ (k : Int), b = Tm.unk k → k < a) := fun y h0 h1 => by
      refine ⟨fI, by omega, by omega, ?_⟩
      rintro d ⟨t, o1, o2, o3, o4, rfl⟩
      have dp := t.depth_size
      refine ⟨rl, ⟨t, o1, by omega, rfl⟩, ?_⟩
      rw [isMk_data o1]
      cases hu : t.isUnk with
      | false =>
        refine .inl ⟨rfl, put1 t o1 o2 (by omega) o4 fun k e => ?_⟩
        rw [e] at hu
        cases hu
      | true =>
        exact .inr ⟨rfl, put1 (.pair t (.int 0)) ⟨o1, trivial⟩ ⟨o2, Nat.zero_le _⟩ (by show t.size + 1 + 1 ≤ 9; omega) (fun v hv => (List.mem_append.mp hv).elim (o4 v) fun h => (by cases h)) fun k e => by cases e⟩
    refine lc_go (keepI fun m => decide (m < x)) _ _ (by simp; omega) (fun d hd => ?_) ?_
    · obtain ⟨k, _, rfl⟩ := List.mem_map.mp hd
      refine ⟨[(7, .int k)], rfl, by simp, fun R hR => ?_⟩
      rw [keepI_int] at hR
      simp [wipeR]
      by_cases h : k < x
      · simp [h] at hR ⊢
        exact hR
      · simp [h] at hR ⊢
        exact hR
    rw [List.nil_append, filt_ints]
    generalize hls : fr.filter (fun m => decide (m < x)) = ls
    have lf : ∀ k ∈ ls, k ∈ fr ∧ k < x := fun k hk => by
      rw [← hls, List.mem_filter] at hk
      simpa using hk
    have ll : ls.length ≤ 8 := by
      rw [← hls]
      exact Nat.le_trans (List.length_filter_le ..) fl
    refine ⟨_, rfl, ?_⟩
    by_cases hn : ls.map PyData.int = []
    · exact .inl ⟨hn, oth⟩
    · refine .inr ⟨hn, fun y h0 h1 => ?_⟩
      split
      · refine ⟨rl, ⟨_, rfl, hn, by rw [List.length_map]; omega⟩, ?_⟩
        rintro d _ e hm
        cases e
        obtain ⟨k, hk2, rfl⟩ := List.mem_map.mp hm
        obtain ⟨g1, g2⟩ := lf k hk2
        obtain ⟨g3, g4⟩ := hk k (ff k g1).1
        exact put1 (.unk k) g3 g4 (by show 1 ≤ 9; omega) (fun v hv => by rw [List.mem_singleton.mp hv]; exact g1) fun j e => by cases e; exact g2
      · exact oth
end
end Kr

set_option Elab.async false
set_option linter.all false
set_option maxRecDepth 100000
set_option maxHeartbeats 4000000
namespace Kr
open PySem PySem.Spec PyProof.Rows L2
abbrev s__law_near : Stmt := topS 39
theorem sc__law_near : FnScope ["_law_deck_here", "_law_filling", "_law_at", "_law_number", "_law_term_here", "_law_some"] ["_law_deck_here", "_law_filling"] (defScope s__law_near) := ⟨rfl, rfl, rfl, by decide +kernel, rfl, by decide +kernel, by decide +kernel⟩
abbrev s__law_right : Stmt := topS 40
theorem sc__law_right : FnScope ["_law_thing", "_law_kept", "_law_found"] ["_law_thing"] (defScope s__law_right) := ⟨rfl, rfl, rfl, by decide +kernel, rfl, by decide +kernel, by decide +kernel⟩
abbrev s__law_put_right : Stmt := topS 41
theorem sc__law_put_right : FnScope ["_law_deck_here", "_law_filling", "_law_numbers_here", "_law_number", "_law_term_here", "_law_turn", "_law_due", "_law_kept"] ["_law_deck_here", "_law_filling"] (defScope s__law_put_right) := ⟨rfl, rfl, rfl, by decide +kernel, rfl, by decide +kernel, by decide +kernel⟩
section
variable {P : Program} {w : World} {K : PySem.W.Frag} {mg : Str → Option Value} {base : Heap} {n : Nat}
abbrev CFil (P : Program) (w : World) (K : PySem.W.Frag) (mg : Str → Option Value) (base : Heap) (n : Nat) : Prop := Cal P w K mg base n "is_filling" ["thing"] (spQ Any (p1 fun x => cl x = true ∧ x.bulk ≤ 390000) (b1 isFil))
abbrev CLFil (P : Program) (w : World) (K : PySem.W.Frag) (mg : Str → Option Value) (base : Heap) (n : Nat) : Prop := Cal P w K mg base n "_law_is_filling" ["_law_thing"] (spQ Any (p1 FilIn) (b1 isFil))
abbrev CPutIn (P : Program) (w : World) (K : PySem.W.Frag) (mg : Str → Option Value) (base : Heap) (n : Nat) : Prop := Cal P w K mg base n "put_in" ["term", "filling"] (spQ Any (PutIn 60) (fun ds r => ∀ (t : Tm) (rs : Rows), ds = [t.data, fD rs] → t.ok → (Keys rs).Nodup → r = (put rs t).data))
abbrev CLPut (P : Program) (w : World) (K : PySem.W.Frag) (mg : Str → Option Value) (base : Heap) (n : Nat) : Prop := Cal P w K mg base n "_law_put" ["_law_term_here", "_law_rows"] (spQ Any (fun ds => ∃ x y, ds = [x, y] ∧ TmP 62 x ∧ RowD y) (fun ds d => d = (put (decR (a1 ds)) (decT (a0 ds))).data))
theorem fit_two {k n m m' : Nat} {a b : PyData} (h1 : Fit k n m a) (h2 : Fit k n m' b) : Fit k (n + 1) (m + m' + 2) (.tuple [a, b]) := by
  have := (h1.one.app h2.one).tup
  exact this.mono (Nat.le_refl _) (Nat.le_refl _) (by omega)
theorem fit_int {k n m : Nat} {i : Int} (h : i.natAbs ≤ 10 ^ 39 + k) : Fit k n m (.int i) := ⟨gd_num.mpr h, Nat.zero_le _, Nat.zero_le _⟩
theorem fit_q {k n m : Nat} (h : 1 ≤ m) : Fit k n m (.str "?") := ⟨gd_mono (Nat.zero_le k) _ (by decide +kernel), Nat.zero_le _, h⟩
theorem c__law_near (B : Bl mg) (D : Dfn K mg "_law_near" s__law_near ["_law_deck_here", "_law_filling"]) (c__law_draw : CDraw P w K mg base n) (c__law_pick : CPick P w K mg base n) :
    Cal P w K mg base (n + 1) "_law_near" ["_law_deck_here", "_law_filling"] (spQ IsDk (fun ds => ∃ rs, ds = [tokD, fD rs] ∧ FilR 9 8 rs) (fun ds d => Fit 1 14 1200 d)) := by
  refine defG [] D sc__law_near (by rintro _ ⟨_, rfl, _⟩; rfl) (by simp) (fun f C hG cdv A outer s H E g0 hr => ⟨_, (qss_cons (qs_if (qt_cmp (oq_eqA hr.units) (qv 1) (qe_tup qa_nil) (nomark _)) (qss_one (qs_ret (qe_tup (qa_cons (qe_tup (qa_cons qe_int (qa_cons (qe_tup (qa_cons qe_str (qa_cons qe_int qa_nil))) qa_nil))) qa_nil)))) qss_nil) (qss_cons (qs_setX (k := 2) (by decide) sc__law_near.nd rfl (by first | exact Or.inl rfl | exact Or.inr rfl) (fun _ x1 => (qe_cal c__law_draw (hG.ext x1) g0 hr (by rfl) (qa_cons (qv 0) (qa_cons (qe_callB cq_len (by rfl) B.len PySem.boot_len (qa_cons (qv 1) qa_nil)) qa_nil))))) (qss_later (qss_cons (qs_asgX (G := (gTup K 2 (gNames [3, 4]))) (dec := (dTup [3, 4])) (fun _ x2 => (qe_ix (qv 1) (qv 2) (fun _ _ => rfl))) (fun _ => (qg_tup (ks := [3, 4]) (pg_tup rfl (pgs_cons (pg_name (i := 3) sc__law_near.nd rfl (by first | exact Or.inl rfl | exact Or.inr rfl)) (pgs_cons (pg_name (i := 4) sc__law_near.nd rfl (by first | exact Or.inl rfl | exact Or.inr rfl)) pgs_nil)))))) (qss_cons (qs_setX (k := 5) (by decide) sc__law_near.nd rfl (by first | exact Or.inl rfl | exact Or.inr rfl) (fun _ x3 => (qe_lst (qa_cons (qe_tup (qa_cons qe_str (qa_cons (qv 3) qa_nil))) (qa_cons (qe_tup (qa_cons qe_str (qa_cons (qe_op oq_add (qv 3) qe_int) qa_nil))) (qa_cons (qe_tup (qa_cons (qe_tup (qa_cons qe_str (qa_cons (qv 3) qa_nil))) (qa_cons qe_int qa_nil))) qa_nil)))))) (qss_later (qss_cons (qs_setX (k := 5) (by decide) sc__law_near.nd rfl (by first | exact Or.inl rfl | exact Or.inr rfl) (fun _ x4 => (qe_op oq_add (qv 5) (qe_lst (qa_cons (qe_tup (qa_cons (qv 4) (qa_cons (qe_tup (qa_cons qe_str (qa_cons (qe_ix (qe_ix (qv 1) qe_int (fun _ _ => rfl)) qe_int (fun _ _ => rfl)) qa_nil))) qa_nil))) (qa_cons (qe_tup (qa_cons qe_str (qa_cons (qe_neg qe_int) qa_nil))) (qa_cons (qe_tup (qa_cons qe_str (qa_cons qe_str qa_nil))) qa_nil))))))) (qss_later (qss_one (qs_ret (qe_op oq_add (qe_op oq_add (qe_slice (qv 1) qo_none (qo_some (qv 2))) (qe_tup (qa_cons (qe_tup (qa_cons (qv 3) (qa_cons (qe_cal c__law_pick hG g0 hr (by rfl) (qa_cons (qv 0) (qa_cons (qv 5) qa_nil))) qa_nil))) qa_nil))) (qe_slice (qv 1) (qo_some (qe_op oq_add (qv 2) qe_int)) qo_none)))))))))))), ?_⟩)
  rintro _ ⟨rs, rfl, hF⟩
  cases rs with
  | nil =>
    simp [and_assoc, hide, fD]
    exact ⟨rfl, by simp [PyData.eqv, PyData.eqvAll], by decide +kernel, by decide +kernel, by decide +kernel⟩
  | cons p0 rs0 =>
    have e0 : (fD (p0 :: rs0)).eqv (.tuple []) = false := by simp [fD, PyData.eqv, PyData.eqvAll]
    have z0 : ∃ r, fD (p0 :: rs0) = .tuple (.tuple [.int p0.1, p0.2.data] :: r) := ⟨_, rfl⟩
    have hm0 : p0 ∈ p0 :: rs0 := List.mem_cons_self ..
    have efD : fD (p0 :: rs0) = .tuple ((p0 :: rs0).map rowD) := rfl
    generalize ers : p0 :: rs0 = rs at *
    have hFL := hF.fitL
    have hFt := hF.fit
    simp [and_assoc, hide]
    rw [e0, efD]
    refine ⟨rfl, ?_⟩
    rw [if_neg Bool.false_ne_true]
    have hl := hF.len
    have hpos : 0 < rs.length := by rw [← ers]; simp
    have lm : (rs.map rowD).length = rs.length := by simp
    refine ⟨_, rfl, by omega, by omega, fun x x0 x1 => Later.go ?_⟩
    obtain ⟨i, rfl⟩ := Int.eq_ofNat_of_zero_le x0
    have hi : i < rs.length := by omega
    have ha : L2.atI (rs.map rowD) (i : Int) = some (rowD rs[i]) := atI_nat (by rw [List.getElem?_map, List.getElem?_eq_getElem hi]; rfl)
    have hm : rs[i] ∈ rs := List.getElem_mem hi
    generalize rs[i] = p at *
    have ha0 : L2.atI (rs.map rowD) 0 = some (.tuple [.int p0.1, p0.2.data]) := by
      rw [← ers]
      exact atI_nat (j := 0) rfl
    simp [and_assoc, hide, ha]
    refine ⟨[(3, .int p.1), (4, p.2.data)], rfl, .int p.1, rfl, .int p.1, rfl, .int p.1, rfl, Later.go ?_⟩
    simp [and_assoc, hide, ha0]
    refine Later.go ?_
    simp [and_assoc, hide]
    obtain ⟨po, ps, pz⟩ := hF.ok p hm
    have l1 := (cut_sub (rs.map rowD) none (some (i : Int))).length_le
    have l2 := (cut_sub (rs.map rowD) (some ((i : Int) + 1)) none).length_le
    have z1 : (cutG (rs.map rowD) none (some (i : Int))).length + 1 ≤ sizeLine := sl (by omega)
    have z2 : (cutG (rs.map rowD) none (some (i : Int))).length + 1 + (cutG (rs.map rowD) (some ((i : Int) + 1)) none).length ≤ sizeLine := sl (by omega)
    have fin : ∀ y, Fit 1 12 200 y → Fit 1 14 1200 (PyData.tuple (cutG (rs.map rowD) none (some (i : Int)) ++ PyData.tuple [PyData.int p.1, y] :: cutG (rs.map rowD) (some ((i : Int) + 1)) none)) := fun y hy => by
      have hL : FitL 1 13 888 (rs.map rowD) := FitL.mono hFL (by omega) (by omega) (by omega)
      rw [show ((i : Int) + 1) = ((i + 1 : Nat) : Int) from rfl, cut_to, cut_from]
      have hk := (hF.ky p hm).2
      have hrow : Fit 1 13 202 (.tuple [.int p.1, y]) := (fit_two (fit_int (k := 1) (n := 12) (m := 0) (by omega)) hy).mono (by omega) (by omega) (by omega)
      have q : ((rs.map rowD).take i ++ .tuple [.int p.1, y] :: (rs.map rowD).drop (i + 1)).Perm (((rs.map rowD).take i ++ (rs.map rowD).drop (i + 1)) ++ [.tuple [.int p.1, y]]) := by
        rw [List.append_assoc]
        exact List.Perm.append_left _ (List.perm_append_comm (l₁ := [PyData.tuple [.int p.1, y]]))
      exact (((hL.sub (take_drop_sub _ (show i ≤ i + 1 by omega))).app hrow.one).perm q).tup.mono (by omega) (by omega) (by omega)
    have hk := (hF.ky p hm).2
    have hk0 := (hF.ky p0 hm0).2
    have uk : ∀ j : Int, j.natAbs ≤ 10 ^ 39 + 1 → Fit 1 10 3 (.tuple [.str "?", .int j]) := fun j hj => (fit_two (fit_q (k := 1) (n := 9) (m := 1) (by omega)) (fit_int (k := 1) (n := 9) (m := 0) hj)).mono (by omega) (by omega) (by omega)
    have ft : Fit 1 10 108 p.2.data := (fit_tm po ps pz).mono (by omega) (by omega) (by omega)
    refine ⟨z1, z2, fin _ ((uk _ (by omega)).mono (by omega) (by omega) (by omega)), z1, z2, fin _ ((uk _ (by omega)).mono (by omega) (by omega) (by omega)), z1, z2, fin _ ((fit_two (uk _ (by omega)) (fit_int (k := 1) (n := 10) (m := 0) (by decide))).mono (by omega) (by omega) (by omega)),
      z1, z2, fin _ ((fit_two ft (uk _ (by omega))).mono (by omega) (by omega) (by omega)), z1, z2, fin _ ((uk _ (by decide)).mono (by omega) (by omega) (by omega)), z1, z2, fin _ ⟨by decide +kernel, by decide +kernel, by decide +kernel⟩⟩
theorem c__law_right (sy : Sy base) (B : Bl mg) (D : Dfn K mg "_law_right" s__law_right ["_law_thing"]) (c_is_filling : CFil P w K mg base n) (c__law_is_filling : CLFil P w K mg base n) :
    Cal P w K mg base (n + 1) "_law_right" ["_law_thing"] (spQ Any (p1 FilIn) (fun _ d => d = .bool true)) := by
  refine defG [] D sc__law_right len1' (by simp) (fun f C hG cdv A outer s H E g0 hr => ⟨_, (qss_cons (qs_setX (k := 1) (by decide) sc__law_right.nd rfl (by first | exact Or.inl rfl | exact Or.inr rfl) (fun _ x1 => (qe_callB (cq_repr sy g0 (hu70 hr)) (by rfl) B.repr (by decide +kernel) (qa_cons (qv 0) qa_nil)))) (qss_cons (qs_setX (k := 2) (by decide) sc__law_right.nd rfl (by first | exact Or.inl rfl | exact Or.inr rfl) (fun _ x2 => (qe_cal c_is_filling trivial g0 hr (by rfl) (qa_cons (qv 0) qa_nil)))) (qss_one (qs_ret (qe_and (qe_isi "bool" (by decide) (fun _ h => pe_callB call_isi (by rfl) B.isinstance (by decide +kernel) (pa_cons h (pa_cons (pe_bltn (v := .ty "bool") (by rfl) B.bool (by decide +kernel) rfl) pa_nil))) (qv 2)) (qe_and (qe_cmp (oq_eqA hr.units) (qv 2) (qe_cal c__law_is_filling trivial g0 hr (by rfl) (qa_cons (qv 0) qa_nil)) (nomark _)) (qe_one (qe_cmp (oq_eqA hr.units) (qe_callB (cq_repr sy g0 (hu70 hr)) (by rfl) B.repr (by decide +kernel) (qa_cons (qv 0) qa_nil)) (qv 1) (nomark _))))))))), ?_⟩)
  rintro _ ⟨x, rfl, hx⟩
  simp [and_assoc, hide]
  have hb := hx.b
  have sh := shw_of (show 1000 ≤ 1000 by decide) hx.g (Nat.le_trans hx.d (by decide)) (by omega)
  exact ⟨sh, (gd_show (show 1000 ≤ 1000 by decide) x hx.g).2.2.2, by omega, rfl, hx, sh, rfl⟩
theorem c__law_put_right (sy : Sy base) (B : Bl mg) (D : Dfn K mg "_law_put_right" s__law_put_right ["_law_deck_here", "_law_filling"]) (c__law_draw : CDraw P w K mg base n) (c__law_term : CTerm P w K mg base n 15) (c_put_in : CPutIn P w K mg base n) (c__law_put : CLPut P w K mg base n) :
    Cal P w K mg base (n + 1) "_law_put_right" ["_law_deck_here", "_law_filling"] (spQ IsDk (fun ds => ∃ rs, ds = [tokD, fD rs] ∧ FilR 9 203 rs) (fun _ d => d = .bool true)) := by
  refine defG [] D sc__law_put_right (by rintro _ ⟨_, rfl, _⟩; rfl) (by simp) (fun f C hG cdv A outer s H E g0 hr => ⟨_, (qss_cons (qs_setX (k := 2) (by decide) sc__law_put_right.nd rfl (by first | exact Or.inl rfl | exact Or.inr rfl) (fun _ x1 => (qe_sortSet rfl (by rfl) B.sorted (by rfl) B.set (qe_op oq_add (qe_lc (own := [("_law_number", 3), ("_law_term_here", 4)]) (G := (gTup K 2 (gNames [3, 4]))) (dec := (dTup [3, 4])) rfl sc__law_put_right.nd (qi_tup (qv 1)) (blkOk_by (own := [("_law_number", 3), ("_law_term_here", 4)]) (N := ["_law_deck_here", "_law_filling", "_law_numbers_here", "_law_number", "_law_term_here", "_law_turn", "_law_due", "_law_kept"]) (sc := defScope s__law_put_right) (by decide +kernel)) (fun _ _ _ _ _ _ => (qg_tup (ks := [3, 4]) (pg_tup rfl (pgs_cons (pg_name (i := 3) sc__law_put_right.nd rfl (by first | exact Or.inl rfl | exact Or.inr rfl)) (pgs_cons (pg_name (i := 4) sc__law_put_right.nd rfl (by first | exact Or.inl rfl | exact Or.inr rfl)) pgs_nil))))) (fun _ x2 => (fun _ _ _ _ _ => qts_nil)) (fun _ x3 => (fun _ _ _ _ _ => (qv 3)))) (qe_lst (qa_cons qe_int (qa_cons qe_int (qa_cons qe_int qa_nil)))))))) (qss_cons (qs_for (G := (gName 5)) (dec := (dName 5)) PassesOwn.never rfl (fun _ x4 => (qi_range1 (by rfl) B.range qe_int)) (fun _ => (qg_name (k := 5) sc__law_put_right.nd rfl (by first | exact Or.inl rfl | exact Or.inr rfl))) (qss_cons (qs_setX (k := 4) (by decide) sc__law_put_right.nd rfl (by first | exact Or.inl rfl | exact Or.inr rfl) (fun _ x5 => (qe_cal c__law_term (hG.ext x5) g0 hr (by rfl) (qa_cons (qv 0) (qa_cons (qv 2) (qa_cons (qe_op oq_add qe_int (qe_cal c__law_draw (hG.ext x5) g0 hr (by rfl) (qa_cons (qv 0) (qa_cons qe_int qa_nil)))) (qa_cons qe_int qa_nil))))))) (qss_cons (qs_setX (k := 6) (by decide) sc__law_put_right.nd rfl (by first | exact Or.inl rfl | exact Or.inr rfl) (fun _ x6 => (qe_callB (cq_repr sy g0 (hu70 hr)) (by rfl) B.repr (by decide +kernel) (qa_cons (qe_cal c__law_put trivial g0 hr (by rfl) (qa_cons (qv 4) (qa_cons (qe_callTy (cq_dictP rfl) (by rfl) B.dict (by decide +kernel) (qa_cons (qv 1) qa_nil)) qa_nil))) qa_nil)))) (qss_cons (qs_setX (k := 7) (by decide) sc__law_put_right.nd rfl (by first | exact Or.inl rfl | exact Or.inr rfl) (fun _ x7 => (qe_callB (cq_repr sy g0 (hu70 hr)) (by rfl) B.repr (by decide +kernel) (qa_cons (qe_tup (qa_cons (qv 4) (qa_cons (qv 1) qa_nil))) qa_nil)))) (qss_cons (qs_if (QW.qt (qw_or (qt_cmp (oq_neA hr.units) (qe_callB (cq_repr sy g0 (hu70 hr)) (by rfl) B.repr (by decide +kernel) (qa_cons (qe_cal c_put_in trivial g0 hr (by rfl) (qa_cons (qv 4) (qa_cons (qv 1) qa_nil))) qa_nil)) (qv 6) (nomark _)) (qw_or1 (qt_cmp (oq_neA hr.units) (qe_cal c_put_in trivial g0 hr (by rfl) (qa_cons (qv 4) (qa_cons (qe_tup qa_nil) qa_nil))) (qv 4) (nomark _))))) (qss_one (qs_ret qe_bl)) qss_nil) (qss_one (qs_if (QW.qt (qw_or (qt_cmp (oq_neA hr.units) (qe_callB (cq_repr sy g0 (hu70 hr)) (by rfl) B.repr (by decide +kernel) (qa_cons (qe_cal c_put_in trivial g0 hr (by rfl) (qa_cons (qe_cal c_put_in trivial g0 hr (by rfl) (qa_cons (qv 4) (qa_cons (qv 1) qa_nil))) (qa_cons (qv 1) qa_nil))) qa_nil)) (qv 6) (nomark _)) (qw_or1 (qt_cmp (oq_neA hr.units) (qe_callB (cq_repr sy g0 (hu70 hr)) (by rfl) B.repr (by decide +kernel) (qa_cons (qe_tup (qa_cons (qv 4) (qa_cons (qv 1) qa_nil))) qa_nil)) (qv 7) (nomark _))))) (qss_one (qs_ret qe_bl)) qss_nil))))))) (qss_one (qs_ret qe_bl)))), ?_⟩)
  rintro _ ⟨rs, rfl, hF⟩
  simp [and_assoc, hide]
  have hl := hF.len
  refine ⟨_, rfl, lc_go (fun r => some (.int (noOf r))) _ _ (by simp; omega) (fun r hr => ?_) ?_⟩
  · obtain ⟨p, _, rfl⟩ := List.mem_map.mp hr
    refine ⟨[(3, .int p.1), (4, p.2.data)], rfl, by simp, fun R hR => ?_⟩
    simp [wipeR]
    exact hR
  rw [List.nil_append, map_some]
  have en : (rs.map fun p : Int × Tm => PyData.tuple [.int p.1, p.2.data]).map (fun r => PyData.int (noOf r)) = (Keys rs).map .int := by
    rw [Keys, List.map_map, List.map_map]
    rfl
  rw [en]
  have kl : (Keys rs).length = rs.length := by simp [Keys]
  refine ⟨sl (by simp; omega), Keys rs ++ [0, 3, 77], by simp, by simp; omega, fun us up um => ?_⟩
  have ul : us.length ≤ 206 := by
    have := nodup_len us (Keys rs ++ [0, 3, 77]) (pw_nodup up) fun k h => (um k).mp h
    simp at this
    omega
  have uI : IntsD (.list (us.map .int)) := ⟨us, rfl, fun k hk => by
    rcases List.mem_append.mp ((um k).mp hk) with h | h
    · obtain ⟨p, hp, rfl⟩ := List.mem_map.mp h
      exact hF.ky p hp
    · simp at h
      omega, by omega⟩
  refine ⟨fun i ρ => ∃ o3 o4 o5 o6 o7, ρ = [some tokD, some (fD rs), some (.list (us.map .int)), o3, o4, o5, o6, o7], ⟨_, _, _, _, _, rfl⟩, ?_⟩
  rintro i ρ ⟨o3, o4, o5, o6, o7, rfl⟩
  refine ⟨fun _ => rfl, fun d hd => ?_⟩
  obtain ⟨j, rfl⟩ : ∃ j, d = .int j := by
    have hm := List.mem_of_getElem? hd
    unfold intsD at hm
    obtain ⟨j, _, e⟩ := List.mem_map.mp hm
    exact ⟨_, e.symm⟩
  refine ⟨[(5, .int j)], rfl, by simp, ?_⟩
  simp [and_assoc, hide]
  intro x x0 x1
  refine ⟨uI, by omega, by omega, ?_⟩
  rintro _ ⟨t, to, ts, tz, tv, rfl⟩
  have rok : RowsOk rs := fun p hp => (hF.ok p hp).1
  have dp := t.depth_size
  have po := put_okR (t := t) rok to
  have ps := put_sm (rs := rs) (t := t) (fun p hp => (hF.ok p hp).2.1) ts
  have pz := put_size (rs := rs) (M := 9) (by decide) (fun p hp => (hF.ok p hp).2.2) t
  have pz2 : (put rs t).size ≤ 135 := by
    have : t.size ≤ 15 := by omega
    omega
  have pd := put_depth (rs := rs) (M := 9) (by decide) (fun p hp => Nat.le_trans p.2.depth_size (hF.ok p hp).2.2) t
  have sp : shw (put rs t).data = true := by
    have f1 : Fit 0 24 (12 * 135) (put rs t).data := ⟨gd_tm po ps, Nat.le_trans (put rs t).data_depth (by omega), Nat.le_trans (bulk_data po) (Nat.mul_le_mul_left _ pz2)⟩
    exact f1.shw (by decide) (by decide) (by decide)
  have st : shw (PyData.tuple [t.data, fD rs]) = true := (fit_two ((fit_tm to ts (z := 15) (by omega)).mono (Nat.le_refl _) (show 15 ≤ 20 by decide) (Nat.le_refl _)) (hF.fit.mono (Nat.le_refl _) (show 9 + 2 ≤ 20 by decide) (Nat.le_refl _))).shw (by decide) (by decide) (by decide)
  have p1 : PutIn 60 [t.data, fD rs] := ⟨t, rs, rfl, to, by omega, by omega, hF.nodup⟩
  have p2 : PutIn 60 [(put rs t).data, fD rs] := ⟨put rs t, rs, rfl, po, by omega, by omega, hF.nodup⟩
  have p3 : PutIn 60 [t.data, .tuple []] := ⟨t, [], rfl, to, by omega, by omega, List.nodup_nil⟩
  refine ⟨dR rs, .inl (fD_pairs rs), ⟨t, to, by omega, rfl⟩, ?_⟩
  rw [mergeG_dR hF.nodup, decR_dR rok, decT_data to]
  refine ⟨⟨rs, rok, rfl⟩, sp, st, p1, fun d1 h1 => ?_⟩
  obtain rfl := h1 t rs rfl rfl to hF.nodup
  refine ⟨sp, rfl, rfl, p3, fun d2 h2 => ?_⟩
  obtain rfl := h2 t [] rfl rfl to List.nodup_nil
  have e0 : put [] t = t := put_free fun n _ h => by cases h
  rw [e0]
  refine ⟨eqA_of (Tm.noTok t) (Tm.shp to (by omega)) (Tm.shp to (by omega)), by rw [Tm.eqv to to]; exact decide_eq_true rfl, p1, fun d3 h3 => ?_⟩
  obtain rfl := h3 t rs rfl rfl to hF.nodup
  refine ⟨p2, fun d4 h4 => ?_⟩
  obtain rfl := h4 (put rs t) rs rfl rfl po hF.nodup
  rw [put_free (free_put hF.fr t)]
  exact ⟨sp, rfl, rfl, st, rfl⟩
end
end Kr

set_option Elab.async false
set_option linter.all false
set_option maxRecDepth 100000
set_option maxHeartbeats 4000000
namespace Kr
open PySem PySem.Spec PyProof.Rows L2
abbrev s__law_long : Stmt := topS 42
theorem sc__law_long : FnScope ["_law_deck_here", "_law_many", "_law_first", "_law_step", "_law_numbers_here", "_law_k", "_law_free", "_law_rows", "_law_number", "_law_lesser", "_law_one", "_law_term_here"] ["_law_deck_here", "_law_many"] (defScope s__law_long) := ⟨rfl, rfl, rfl, by decide +kernel, rfl, by decide +kernel, by decide +kernel⟩
section
variable {P : Program} {w : World} {K : PySem.W.Frag} {mg : Str → Option Value} {base : Heap} {n : Nat}
theorem atI_neg1 {α : Type} {xs : List α} (h : 0 < xs.length) : L2.atI xs (-1) = xs[xs.length - 1]? := by
  have e : ixN xs.length (-1) = some (xs.length - 1) := by
    unfold ixN
    rw [if_neg (by decide), if_pos (by omega)]
    congr 1
    omega
  unfold L2.atI
  rw [e]
  rfl
def stepD (a b : Int) : PyData → Option PyData
  | .int k => some (.int (a + b * k))
  | _ => none
/-- the numbers of a long filling -/
def longN (a b : Int) (n : Nat) : List Int := (List.range n).map fun (k : Nat) => a + b * (k : Int)
theorem long_step (a b : Int) (n : Nat) : (intsD 0 n).filterMap (stepD a b) = (longN a b n).map .int := by
  unfold intsD longN
  rw [List.filterMap_map, List.map_map]
  show List.filterMap (fun k : Nat => some (PyData.int (a + b * (0 + (k : Int))))) _ = _
  rw [List.filterMap_eq_map']
  refine List.map_congr_left fun k _ => ?_
  rw [Int.zero_add]
  rfl
theorem long_len (a b : Int) (n : Nat) : (longN a b n).length = n := by simp [longN]
theorem long_up {a b : Int} (h : 0 < b) (n : Nat) : (longN a b n).Pairwise (· < ·) := by
  unfold longN
  rw [List.pairwise_map]
  refine List.pairwise_lt_range.imp fun {i j} hij => ?_
  have : b * (i : Int) < b * (j : Int) := Int.mul_lt_mul_of_pos_left (by omega) h
  omega
theorem long_mem {a b k : Int} {n : Nat} (ha : 0 ≤ a) (hb : 0 ≤ b) (h : k ∈ longN a b n) : a ≤ k ∧ k ≤ a + b * n := by
  obtain ⟨i, hi, rfl⟩ := List.mem_map.mp h
  have := List.mem_range.mp hi
  have h1 : 0 ≤ b * (i : Int) := Int.mul_nonneg hb (by omega)
  have h2 : b * (i : Int) ≤ b * (n : Int) := Int.mul_le_mul_of_nonneg_left (by omega) hb
  omega
theorem long_get {a b : Int} {n i : Nat} (h : i < n) : ((longN a b n).map PyData.int)[i]? = some (.int (a + b * i)) := by
  unfold longN
  rw [List.map_map, List.getElem?_map, List.getElem?_range h]
  rfl
theorem filt_two (p : Int → Bool) : ∀ ns : List Int, ns.length = (ns.filter fun k => !p k).length + (ns.filter p).length
  | [] => rfl
  | n :: ns => by
    have ih := filt_two p ns
    rw [List.filter_cons, List.filter_cons, List.length_cons]
    cases h : p n <;> simp <;> omega
theorem c__law_long (sy : Sy base) (B : Bl mg) (D : Dfn K mg "_law_long" s__law_long ["_law_deck_here", "_law_many"]) (c__law_draw : CDraw P w K mg base n) (c__law_pick : CPick P w K mg base n) (c__law_term : CTerm P w K mg base n 15) (c__law_is_unknown : CUnk P w K mg base n) :
    Cal P w K mg base (n + 1) "_law_long" ["_law_deck_here", "_law_many"] (spQ IsDk (fun ds => ∃ m : Int, ds = [tokD, .int m] ∧ 10 ≤ m ∧ m ≤ 200) (fun ds d => ∃ rs, FilR 3 203 rs ∧ 10 ≤ rs.length ∧ d = fD rs)) := by
  refine defG [7] D sc__law_long (by rintro _ ⟨_, rfl, _⟩; rfl) (by simp) (fun f C hG cdv A outer s H E g0 hr => ⟨_, (qss_cons (qs_asgX (G := (gTup K 2 (gNames [2, 3]))) (dec := (dTup [2, 3])) (fun _ x1 => (qe_tup (qa_cons (qe_op oq_mul qe_int (qe_cal c__law_draw (hG.ext x1) g0 hr (by rfl) (qa_cons (qv 0) (qa_cons qe_int qa_nil)))) (qa_cons (qe_op oq_add qe_int (qe_cal c__law_draw (hG.ext x1) g0 hr (by rfl) (qa_cons (qv 0) (qa_cons qe_int qa_nil)))) qa_nil)))) (fun _ => (qg_tup (ks := [2, 3]) (pg_tup rfl (pgs_cons (pg_name (i := 2) sc__law_long.nd rfl (by first | exact Or.inl rfl | exact Or.inr rfl)) (pgs_cons (pg_name (i := 3) sc__law_long.nd rfl (by first | exact Or.inl rfl | exact Or.inr rfl)) pgs_nil)))))) (qss_later (qss_cons (qs_setLc (k := 4) (own := [("_law_k", 5)]) (G := (gName 5)) (dec := (dName 5)) (by decide) rfl rfl (sw_true rfl rfl (by decide) (by decide +kernel)) rfl sc__law_long.nd (fun _ x2 => (qi_range1 (by rfl) B.range (qe_op oq_add (qv 1) qe_int))) (blkOk_by (own := [("_law_k", 5)]) (N := ["_law_deck_here", "_law_many", "_law_first", "_law_step", "_law_numbers_here", "_law_k", "_law_free", "_law_rows", "_law_number", "_law_lesser", "_law_one", "_law_term_here"]) (sc := defScope s__law_long) (by decide +kernel)) (fun _ _ _ _ _ _ => (qg_name (k := 5) sc__law_long.nd rfl (by first | exact Or.inl rfl | exact Or.inr rfl))) (fun _ x3 => (fun _ _ _ _ _ => qts_nil)) (fun _ x4 => (fun _ _ _ _ _ => (qe_op oq_add (qv 2) (qe_op oq_mul (qv 3) (qv 5)))))) (qss_later (qss_cons (qs_setX (k := 6) (by decide) sc__law_long.nd rfl (by first | exact Or.inl rfl | exact Or.inr rfl) (fun _ x5 => (qe_lst (qa_cons (qe_ix (qv 4) qe_int (fun _ _ => rfl)) (qa_cons (qe_ix (qv 4) (qe_op oq_div (qv 1) qe_int) (fun _ _ => rfl)) (qa_cons (qe_ix (qv 4) (qe_neg qe_int) (fun _ _ => rfl)) qa_nil)))))) (qss_later (qss_cons (qs_own (k := 7) (by decide) sc__law_long.nd rfl (by first | exact Or.inl rfl | exact Or.inr rfl) (fun _ x6 => (qf_lst qa_nil))) (qss_cons (qs_for (G := (gName 8)) (dec := (dName 8)) PassesOwn.never rfl (fun _ x7 => (qi_list (qv 4))) (fun _ => (qg_name (k := 8) sc__law_long.nd rfl (by first | exact Or.inl rfl | exact Or.inr rfl))) (qss_one (qs_if (qt_cmp (oq_notin sy (hu65 hr)) (qv 8) (qv 6) (by rfl)) (qss_cons (qs_setLc (k := 9) (own := [("_law_one", 10)]) (G := (gName 10)) (dec := (dName 10)) (by decide) rfl rfl (sw_true rfl rfl (by decide) (by decide +kernel)) rfl sc__law_long.nd (fun _ x8 => (qi_list (qv 6))) (blkOk_by (own := [("_law_one", 10)]) (N := ["_law_deck_here", "_law_many", "_law_first", "_law_step", "_law_numbers_here", "_law_k", "_law_free", "_law_rows", "_law_number", "_law_lesser", "_law_one", "_law_term_here"]) (sc := defScope s__law_long) (by decide +kernel)) (fun _ _ _ _ _ _ => (qg_name (k := 10) sc__law_long.nd rfl (by first | exact Or.inl rfl | exact Or.inr rfl))) (fun _ x9 => (fun _ _ _ _ _ => qts_one (qt_cmp oq_lt (qv 10) (qv 8) (nomark _)))) (fun _ x10 => (fun _ _ _ _ _ => (qv 10)))) (qss_cons (qs_setX (k := 11) (by decide) sc__law_long.nd rfl (by first | exact Or.inl rfl | exact Or.inr rfl) (fun _ x11 => (qe_cal c__law_term (hG.ext x11) g0 hr (by rfl) (qa_cons (qv 0) (qa_cons (qv 6) (qa_cons qe_int (qa_cons qe_int qa_nil))))))) (qss_cons (qs_if (qt_val (qe_cal c__law_is_unknown trivial g0 hr (by rfl) (qa_cons (qv 11) qa_nil))) (qss_one (qs_setX (k := 11) (by decide) sc__law_long.nd rfl (by first | exact Or.inl rfl | exact Or.inr rfl) (fun _ x12 => (qe_tup (qa_cons qe_str (qa_cons (qe_cal c__law_pick (hG.ext x12) g0 hr (by rfl) (qa_cons (qv 0) (qa_cons (qv 9) qa_nil))) qa_nil)))))) qss_nil) (qss_one (qs_append (k := 7) (fun _ h => pe_bm PySem.F.plainAttrs_list PySem.F.slot_list_append PySem.F.type_list_append mt_append (pv 7) (pa_cons h pa_nil)) (fun _ x13 => (qe_tup (qa_cons (qv 8) (qa_cons (qv 11) qa_nil))))))))) qss_nil))) (qss_one (qs_ret (qe_callTy cq_tuple (by rfl) B.tuple (by decide +kernel) (qa_cons (qv 7) qa_nil)))))))))))), ?_⟩)
  rintro _ ⟨m, rfl, m0, m1⟩
  simp [and_assoc, hide]
  intro u u0 u1
  refine ⟨.inl ⟨by decide, by decide⟩, fun v v0 v1 => ⟨[(2, .int (7 * u)), (3, .int (1 + v))], rfl, ?_, Later.go ?_⟩⟩
  · intro a b h
    simp at h
    omega
  simp [and_assoc, hide]
  have nl : (intsD 0 (m + 3).toNat).length = (m + 3).toNat := by simp [intsD]
  refine ⟨by omega, by omega, lc_go (stepD (7 * u) (1 + v)) _ _ (by rw [nl]; show 0 + _ ≤ _; omega) (fun d hd => ?_) (Later.go ?_)⟩
  · obtain ⟨k, hk, rfl⟩ := List.mem_map.mp hd
    have hk := List.mem_range.mp hk
    refine ⟨[(5, .int (0 + (k : Int)))], rfl, by simp, fun R hR => ?_⟩
    simp [wipeR]
    refine ⟨.inl ⟨by omega, by omega⟩, ?_⟩
    have e : stepD (7 * u) (1 + v) (.int (0 + (k : Int))) = some (.int (7 * u + (1 + v) * (k : Int))) := by
      rw [Int.zero_add]
      rfl
    rw [e] at hR
    exact hR
  rw [List.nil_append, long_step]
  obtain ⟨M, rfl⟩ := Int.eq_ofNat_of_zero_le (show 0 ≤ m by omega)
  have eN : ((M : Int) + 3).toNat = M + 3 := by omega
  rw [eN]
  have up := long_up (a := 7 * u) (b := 1 + v) (by omega) (M + 3)
  have mem : ∀ k ∈ longN (7 * u) (1 + v) (M + 3), 7 * u ≤ k ∧ k.natAbs ≤ 10 ^ 39 := fun k hk => by
    obtain ⟨h1, h2⟩ := long_mem (by omega) (by omega) hk
    refine ⟨h1, ?_⟩
    have h3 : (1 + v) * ((M + 3 : Nat) : Int) ≤ 4 * ((M + 3 : Nat) : Int) := Int.mul_le_mul_of_nonneg_right (by omega) (by omega)
    omega
  have g0 := long_get (a := 7 * u) (b := 1 + v) (n := M + 3) (i := 0) (by omega)
  have g1 := long_get (a := 7 * u) (b := 1 + v) (n := M + 3) (i := M / 2) (by omega)
  have g2 := long_get (a := 7 * u) (b := 1 + v) (n := M + 3) (i := M + 2) (by omega)
  have ln := long_len (7 * u) (1 + v) (M + 3)
  have f0 : 7 * u + (1 + v) * ((0 : Nat) : Int) = 7 * u := by simp
  rw [f0] at g0
  generalize hb1 : 7 * u + (1 + v) * ((M / 2 : Nat) : Int) = b1 at *
  generalize hb2 : 7 * u + (1 + v) * ((M + 2 : Nat) : Int) = b2 at *
  have m1 : b1 ∈ longN (7 * u) (1 + v) (M + 3) := by
    obtain ⟨z, h1, h2⟩ := List.mem_map.mp (List.mem_of_getElem? g1)
    cases h2
    exact h1
  have m2 : b2 ∈ longN (7 * u) (1 + v) (M + 3) := by
    obtain ⟨z, h1, h2⟩ := List.mem_map.mp (List.mem_of_getElem? g2)
    cases h2
    exact h1
  have m00 : 7 * u ∈ longN (7 * u) (1 + v) (M + 3) := by
    obtain ⟨z, h1, h2⟩ := List.mem_map.mp (List.mem_of_getElem? g0)
    cases h2
    exact h1
  generalize longN (7 * u) (1 + v) (M + 3) = ns at *
  clear hb1 hb2 f0
  have lm : (ns.map PyData.int).length = M + 3 := by rw [List.length_map, ln]
  simp [and_assoc, hide]
  have eM : (M : Int) / 2 = ((M / 2 : Nat) : Int) := by omega
  rw [eM]
  refine ⟨_, atI_nat (j := 0) g0, ⟨by decide, by decide⟩, _, atI_nat (j := M / 2) g1, .int b2, ?_, Later.go ?_⟩
  · rw [atI_neg1 (by omega), lm]
    exact g2
  have fI : IntsD (.list (([7 * u, b1, b2] : List Int).map .int)) := by
    refine ⟨[7 * u, b1, b2], rfl, fun k hk => ?_, Nat.le_of_lt (show 3 < 1000 by decide)⟩
    have : k ∈ ns := by
      simp at hk
      rcases hk with rfl | rfl | rfl <;> assumption
    have := mem k this
    omega
  have l0 : 7 * u ∈ ([7 * u, b1, b2] : List Int) := by simp
  have efr : [PyData.int (7 * u), .int b1, .int b2] = ([7 * u, b1, b2] : List Int).map .int := rfl
  rw [efr]
  have frl : ([7 * u, b1, b2] : List Int).length = 3 := rfl
  generalize ([7 * u, b1, b2] : List Int) = fr at *
  clear efr g0 g1 g2 m1 m2
  simp [and_assoc, hide]
  have memF : ∀ k ∈ ns, 0 ≤ k ∧ k.natAbs ≤ 10 ^ 39 := fun k hk => by
    have := mem k hk
    omega
  refine ⟨_, rfl, ns.map .int, rfl, fun i ρ => ∃ (rs : Rows) (o8 o9 o10 o11 : Option PyData), ρ = [some tokD, some (.int M), some (.int (7 * u)), some (.int (1 + v)), some (.list (ns.map .int)), none, some (.list (fr.map .int)), some (.list (rs.map rowD)), o8, o9, o10, o11] ∧
    Keys rs = (ns.take i).filter (fun k => !decide (k ∈ fr)) ∧ ∀ p ∈ rs, p.2.ok ∧ p.2.sm ∧ p.2.size ≤ 3 ∧ (∀ v ∈ p.2.vars, v ∈ fr) ∧ ∀ k, p.2 = .unk k → k < p.1, ⟨[], none, none, none, none, rfl, by simp [Keys], by simp⟩, ?_⟩
  rintro i ρ ⟨rs, o8, o9, o10, o11, rfl, hK, hR⟩
  refine ⟨fun e => ?_, fun d hd => ?_⟩
  · rw [List.length_map] at e
    subst e
    rw [List.take_length] at hK
    have sb : (Keys rs).Sublist ns := by rw [hK]; exact List.filter_sublist ..
    have l1 : (Keys rs).length = rs.length := by simp [Keys]
    have l2 := sb.length_le
    have l3 : ns.length = (Keys rs).length + (ns.filter fun k => decide (k ∈ fr)).length := by
      rw [hK]
      exact filt_two (fun k => decide (k ∈ fr)) ns
    have l4 : (ns.filter fun k => decide (k ∈ fr)).length ≤ fr.length := nodup_len _ _ ((pw_nodup up).sublist (List.filter_sublist ..)) fun k hk => by simpa using (List.mem_filter.mp hk).2
    have F : FilR 3 203 rs := ⟨fun p hp => ⟨(hR p hp).1, (hR p hp).2.1, (hR p hp).2.2.1⟩, fun p hp => memF p.1 (sb.subset (List.mem_map.mpr ⟨p, hp, rfl⟩)), up.sublist sb, fun p hp n hn hq => by
      have h1 := (hR p hp).2.2.2.1 n hn
      rw [hK] at hq
      have h2 := (List.mem_filter.mp hq).2
      simp [h1] at h2, fun p hp => (hR p hp).2.2.2.2, by omega⟩
    simp [and_assoc, hide]
    exact ⟨rs, F, by omega, rfl⟩
  · rw [List.getElem?_map] at hd
    have hi : i < ns.length := by
      rcases Nat.lt_or_ge i ns.length with h | h
      · exact h
      · rw [List.getElem?_eq_none h] at hd
        cases hd
    rw [List.getElem?_eq_getElem hi] at hd
    cases hd
    have hx : ns[i] ∈ ns := List.getElem_mem hi
    have ht : ns.take (i + 1) = ns.take i ++ [ns[i]] := by rw [List.take_add_one, List.getElem?_eq_getElem hi]; rfl
    have rl : rs.length < sizeLine := sl' (by
      have h1 := congrArg List.length hK
      have h2 := (List.filter_sublist (p := fun k => !decide (k ∈ fr)) (l := ns.take i)).length_le
      rw [Keys, List.length_map] at h1
      rw [List.length_take] at h2
      omega)
    generalize ns[i] = x at *
    refine ⟨[(8, .int x)], rfl, by simp, ?_⟩
    simp [and_assoc, hide, inOk_intsL, inD_intsL]
    by_cases hf : x ∈ fr
    · refine .inl ⟨hf, rs, rfl, ?_, fun a b h => hR (a, b) h⟩
      rw [ht, List.filter_append, hK]
      simp [hf]
    refine .inr ⟨hf, ?_⟩
    have put1 : ∀ t : Tm, t.ok → t.sm → t.size ≤ 3 → (∀ v ∈ t.vars, v ∈ fr) → (∀ k, t = .unk k → k < x) → ∃ rs_1 : Rows, rs.map rowD ++ [PyData.tuple [.int x, t.data]] = rs_1.map rowD ∧ Keys rs_1 = (ns.take (i + 1)).filter (fun k => !decide (k ∈ fr)) ∧ ∀ (a : Int) (b : Tm), (a, b) ∈ rs_1 → b.ok ∧ b.sm ∧ b.size ≤ 3 ∧ (∀ v : Int, v ∈ b.vars → v ∈ fr) ∧ ∀ k : Int, b = Tm.unk k → k < a := fun t h1 h2 h3 h4 h5 => by
      refine ⟨rs ++ [(x, t)], by rw [List.map_append]; rfl, ?_, fun a b hab => ?_⟩
      · rw [ht, List.filter_append, ← hK, Keys, List.map_append]
        simp [hf, Keys]
      · rcases List.mem_append.mp hab with h | h
        · exact hR (a, b) h
        · cases List.mem_singleton.mp h
          exact ⟨h1, h2, h3, h4, h5⟩
    refine lc_go (keepI fun m => decide (m < x)) _ _ (by simp; omega) (fun d hd => ?_) ?_
    · obtain ⟨k, _, rfl⟩ := List.mem_map.mp hd
      refine ⟨[(10, .int k)], rfl, by simp, fun R hR => ?_⟩
      rw [keepI_int] at hR
      simp [wipeR]
      by_cases h : k < x
      · simp [h] at hR ⊢
        exact hR
      · simp [h] at hR ⊢
        exact hR
    rw [List.nil_append, filt_ints]
    have h7 : 7 * u ∈ fr.filter (fun m => decide (m < x)) := by
      rw [List.mem_filter]
      refine ⟨l0, decide_eq_true ?_⟩
      have h1 := (mem x hx).1
      rcases Int.lt_or_eq_of_le h1 with h | h
      · exact h
      · exact absurd (h ▸ l0) hf
    have lf : ∀ k ∈ fr.filter (fun m => decide (m < x)), k ∈ fr ∧ k < x := fun k hk => by
      rw [List.mem_filter] at hk
      simpa using hk
    have ll : (fr.filter fun m => decide (m < x)).length ≤ 3 := by
      rw [← frl]
      exact List.length_filter_le ..
    generalize fr.filter (fun m => decide (m < x)) = ls at *
    refine ⟨fI, ?_⟩
    rintro _ ⟨t, to, ts, tz, tv, rfl⟩
    have dp := t.depth_size
    refine ⟨⟨t, to, by omega, rfl⟩, ?_⟩
    rw [isMk_data to]
    cases hu : t.isUnk with
    | false =>
      refine .inl ⟨rfl, rl, put1 t to ts tz tv fun k e => ?_⟩
      rw [e] at hu
      cases hu
    | true =>
      refine .inr ⟨rfl, ⟨_, rfl, fun z => ?_, by rw [List.length_map]; omega⟩, ?_⟩
      · rw [List.map_eq_nil_iff] at z
        rw [z] at h7
        cases h7
      · rintro d _ e hm
        cases e
        obtain ⟨k, hk2, rfl⟩ := List.mem_map.mp hm
        obtain ⟨g1, g2⟩ := lf k hk2
        obtain ⟨fs, e1, g3, _⟩ := fI
        have : fr = fs := by
          have := congrArg decI e1
          rwa [decI_ints, decI_ints] at this
        have g3 := g3 k (this ▸ g1)
        exact ⟨rl, put1 (.unk k) g3.1 g3.2 (by show 1 ≤ 3; omega) (fun v hv => by rw [List.mem_singleton.mp hv]; exact g1) fun j e => by cases e; exact g2⟩
end
end Kr

set_option Elab.async false
set_option linter.all false
set_option maxRecDepth 100000
set_option maxHeartbeats 4000000
namespace Kr
open PySem PySem.Spec PyProof.Rows L2
abbrev s__law_long_right : Stmt := topS 43
theorem sc__law_long_right : FnScope ["_law_deck_here", "_law_filling", "_law_at", "_law_bent", "_law_inner"] ["_law_deck_here"] (defScope s__law_long_right) := ⟨rfl, rfl, rfl, by decide +kernel, rfl, by decide +kernel, by decide +kernel⟩
section
variable {P : Program} {w : World} {K : PySem.W.Frag} {mg : Str → Option Value} {base : Heap} {n : Nat}
theorem FilR.mono {z m z' m' : Nat} {rs : Rows} (h : FilR z m rs) (h1 : z ≤ z') (h2 : m ≤ m') : FilR z' m' rs := ⟨fun p hp => ⟨(h.ok p hp).1, (h.ok p hp).2.1, Nat.le_trans (h.ok p hp).2.2 h1⟩, h.ky, h.up, h.fr, h.lt, Nat.le_trans h.len h2⟩
abbrev CLong (P : Program) (w : World) (K : PySem.W.Frag) (mg : Str → Option Value) (base : Heap) (n : Nat) : Prop := Cal P w K mg base n "_law_long" ["_law_deck_here", "_law_many"] (spQ IsDk (fun ds => ∃ m : Int, ds = [tokD, .int m] ∧ 10 ≤ m ∧ m ≤ 200) (fun ds d => ∃ rs, FilR 3 203 rs ∧ 10 ≤ rs.length ∧ d = fD rs))
abbrev CPutR (P : Program) (w : World) (K : PySem.W.Frag) (mg : Str → Option Value) (base : Heap) (n : Nat) : Prop := Cal P w K mg base n "_law_put_right" ["_law_deck_here", "_law_filling"] (spQ IsDk (fun ds => ∃ rs, ds = [tokD, fD rs] ∧ FilR 9 203 rs) (fun _ d => d = .bool true))
abbrev CRight (P : Program) (w : World) (K : PySem.W.Frag) (mg : Str → Option Value) (base : Heap) (n : Nat) : Prop := Cal P w K mg base n "_law_right" ["_law_thing"] (spQ Any (p1 FilIn) (fun _ d => d = .bool true))
theorem cut_map {α β : Type} (f : α → β) (xs : List α) (lo hi : Option Int) : cutG (xs.map f) lo hi = (cutG xs lo hi).map f := by
  unfold cutG
  rw [List.length_map, ← List.map_drop, ← List.map_take]
theorem cut_pair {α : Type} {xs : List α} {i : Nat} (h : i + 1 < xs.length) : cutG xs (some (i : Int)) (some ((i + 2 : Nat) : Int)) = [xs[i], xs[i + 1]] := by
  unfold cutG
  rw [HT.sIx_nat, HT.sIx_nat, Nat.min_eq_left (by omega), Nat.min_eq_left (by omega), List.drop_eq_getElem_cons (by omega), List.drop_eq_getElem_cons (by omega), show i + 2 - i = 2 by omega]
  rfl
theorem filIn_rows {z m : Nat} {rs : Rows} (h1 : z ≤ 50) (h2 : m ≤ 203) (hok : ∀ p ∈ rs, p.2.ok ∧ p.2.sm ∧ p.2.size ≤ z) (hky : ∀ p ∈ rs, 0 ≤ p.1 ∧ p.1.natAbs ≤ 10 ^ 39) (hlen : rs.length ≤ m) (hz : m * (12 * z + 3) ≤ 100000) : FilIn (fD rs) := by
  have hL := fit_rows hok hky hlen
  have hF := hL.tup
  refine ⟨gd_mono (Nat.zero_le _) _ hF.g, Nat.le_trans hF.d (by omega), Nat.le_trans hF.b hz, fun r hr => ?_, ?_⟩
  · obtain ⟨p, hp, rfl⟩ := List.mem_map.mp (show r ∈ rs.map fun p => PyData.tuple [.int p.1, p.2.data] from hr)
    obtain ⟨o1, o2, o3⟩ := hok p hp
    have := bulk_data o1
    rw [bulk_pair]
    show 0 + p.2.data.bulk + 2 ≤ 3900
    omega
  · show (rs.map fun p => PyData.tuple [.int p.1, p.2.data]).length ≤ _
    rw [List.length_map]
    omega
theorem FilIn.clb {x : PyData} (h : FilIn x) : cl x = true ∧ x.bulk ≤ 390000 := ⟨(gd_show (show 1000 ≤ 1000 by decide) x h.g).2.2.2, by have := h.b; omega⟩
/-- two rows exchanged -/
theorem bent_fil {z m i : Nat} {rs : Rows} (h : FilR z m rs) (hi : i + 1 < rs.length) : isFil (fD (rs.take i ++ ([rs[i + 1], rs[i]] ++ rs.drop (i + 2)))) = false := by
  cases e : isFil (fD (rs.take i ++ ([rs[i + 1], rs[i]] ++ rs.drop (i + 2)))) with
  | false => rfl
  | true =>
    exfalso
    have sub : ∀ p ∈ rs.take i ++ ([rs[i + 1], rs[i]] ++ rs.drop (i + 2)), p ∈ rs := fun p hp => by
      rcases List.mem_append.mp hp with hp | hp
      · exact List.mem_of_mem_take hp
      · rcases List.mem_append.mp hp with hp | hp
        · simp at hp
          rcases hp with rfl | rfl <;> exact List.getElem_mem _
        · exact List.mem_of_mem_drop hp
    have q := ((fil_fD fun p hp => ⟨(h.ok p (sub p hp)).1, (h.ky p (sub p hp)).1, h.lt p (sub p hp)⟩).mp e).1
    have q2 : (Keys [rs[i + 1], rs[i]]).Pairwise (· < ·) := by
      unfold Keys at q ⊢
      rw [List.map_append, List.map_append] at q
      exact (List.pairwise_append.mp (List.pairwise_append.mp q).2.1).1
    have q3 : rs[i + 1].1 < rs[i].1 := by simpa [Keys] using q2
    have q4 : rs[i].1 < rs[i + 1].1 := by
      have := List.pairwise_iff_getElem.mp h.up i (i + 1) (by simp [Keys]; omega) (by simpa [Keys] using hi) (by omega)
      simpa [Keys] using this
    omega
/-- a row with another row's number in it -/
theorem inner_fil {z m i : Nat} {rs : Rows} (h : FilR z m rs) (hi : i + 1 < rs.length) : isFil (fD (rs.take i ++ ((rs[i].1, .pair (.int 0) (.unk (rs[rs.length - 1]).1)) :: rs.drop (i + 1)))) = false := by
  cases e : isFil (fD (rs.take i ++ ((rs[i].1, .pair (.int 0) (.unk (rs[rs.length - 1]).1)) :: rs.drop (i + 1)))) with
  | false => rfl
  | true =>
    exfalso
    have hl : rs[rs.length - 1] ∈ rs.drop (i + 1) := by
      rw [List.mem_drop_iff_getElem]
      exact ⟨rs.length - 1 - (i + 1), by omega, by congr 1; omega⟩
    have k0 := h.ky _ (List.getElem_mem (show rs.length - 1 < rs.length by omega))
    have ki := h.ky _ (List.getElem_mem (show i < rs.length by omega))
    have q := ((fil_fD (rs := rs.take i ++ ((rs[i].1, .pair (.int 0) (.unk (rs[rs.length - 1]).1)) :: rs.drop (i + 1))) fun p hp => ?_).mp e).2
    · refine q (rs[i].1, .pair (.int 0) (.unk (rs[rs.length - 1]).1)) (by simp) (rs[rs.length - 1]).1 (by simp [Tm.vars]) ?_
      unfold Keys
      rw [List.map_append, List.map_cons]
      exact List.mem_append_right _ (List.mem_cons_of_mem _ (List.mem_map.mpr ⟨_, hl, rfl⟩))
    · rcases List.mem_append.mp hp with hp | hp
      · have := List.mem_of_mem_take hp
        exact ⟨(h.ok p this).1, (h.ky p this).1, h.lt p this⟩
      · rcases List.mem_cons.mp hp with rfl | hp
        · exact ⟨⟨trivial, k0.1⟩, ki.1, fun k e => by cases e⟩
        · have := List.mem_of_mem_drop hp
          exact ⟨(h.ok p this).1, (h.ky p this).1, h.lt p this⟩
theorem c__law_long_right (B : Bl mg) (D : Dfn K mg "_law_long_right" s__law_long_right ["_law_deck_here"]) (c__law_draw : CDraw P w K mg base n) (c__law_long : CLong P w K mg base n) (c__law_put_right : CPutR P w K mg base n) (c__law_right : CRight P w K mg base n) (c_is_filling : CFil P w K mg base n) :
    Cal P w K mg base (n + 1) "_law_long_right" ["_law_deck_here"] (spQ IsDk (p1 fun x => x = tokD) (fun _ d => d = .bool true)) := by
  refine defG [] D sc__law_long_right len1' (by simp) (fun f C hG cdv A outer s H E g0 hr => ⟨_, (qss_cons (qs_if (qt_not (qt_val (qe_cal c__law_put_right hG g0 hr (by rfl) (qa_cons (qv 0) (qa_cons (qe_cal c__law_long hG g0 hr (by rfl) (qa_cons (qv 0) (qa_cons (qe_op oq_add qe_int (qe_cal c__law_draw hG g0 hr (by rfl) (qa_cons (qv 0) (qa_cons qe_int qa_nil)))) qa_nil))) qa_nil))))) (qss_one (qs_ret qe_bl)) qss_nil) (qss_cons (qs_setX (k := 1) (by decide) sc__law_long_right.nd rfl (by first | exact Or.inl rfl | exact Or.inr rfl) (fun _ x1 => (qe_cal c__law_long (hG.ext x1) g0 hr (by rfl) (qa_cons (qv 0) (qa_cons (qe_op oq_add qe_int (qe_cal c__law_draw (hG.ext x1) g0 hr (by rfl) (qa_cons (qv 0) (qa_cons qe_int qa_nil)))) qa_nil))))) (qss_later (qss_cons (qs_if (qt_cmp oq_isnotB (qe_cal c_is_filling trivial g0 hr (by rfl) (qa_cons (qv 1) qa_nil)) qe_bl (nomark _)) (qss_one (qs_ret qe_bl)) qss_nil) (qss_later (qss_cons (qs_setX (k := 2) (by decide) sc__law_long_right.nd rfl (by first | exact Or.inl rfl | exact Or.inr rfl) (fun _ x2 => (qe_cal c__law_draw (hG.ext x2) g0 hr (by rfl) (qa_cons (qv 0) (qa_cons (qe_op oq_sub (qe_callB cq_len (by rfl) B.len PySem.boot_len (qa_cons (qv 1) qa_nil)) qe_int) qa_nil))))) (qss_later (qss_cons (qs_setX (k := 3) (by decide) sc__law_long_right.nd rfl (by first | exact Or.inl rfl | exact Or.inr rfl) (fun _ x3 => (qe_op oq_add (qe_op oq_add (qe_slice (qv 1) qo_none (qo_some (qv 2))) (qe_revT (qe_slice (qv 1) (qo_some (qv 2)) (qo_some (qe_op oq_add (qv 2) qe_int))))) (qe_slice (qv 1) (qo_some (qe_op oq_add (qv 2) qe_int)) qo_none)))) (qss_later (qss_cons (qs_setX (k := 4) (by decide) sc__law_long_right.nd rfl (by first | exact Or.inl rfl | exact Or.inr rfl) (fun _ x4 => (qe_op oq_add (qe_op oq_add (qe_slice (qv 1) qo_none (qo_some (qv 2))) (qe_tup (qa_cons (qe_tup (qa_cons (qe_ix (qe_ix (qv 1) (qv 2) (fun _ _ => rfl)) qe_int (fun _ _ => rfl)) (qa_cons (qe_tup (qa_cons qe_int (qa_cons (qe_tup (qa_cons qe_str (qa_cons (qe_ix (qe_ix (qv 1) (qe_neg qe_int) (fun _ _ => rfl)) qe_int (fun _ _ => rfl)) qa_nil))) qa_nil))) qa_nil))) qa_nil))) (qe_slice (qv 1) (qo_some (qe_op oq_add (qv 2) qe_int)) qo_none)))) (qss_later (qss_one (qs_ret (qe_and (qe_not (qe_cal c_is_filling trivial g0 hr (by rfl) (qa_cons (qv 3) qa_nil))) (qe_and (qe_not (qe_cal c_is_filling trivial g0 hr (by rfl) (qa_cons (qv 4) qa_nil))) (qe_one (qe_cal c__law_right trivial g0 hr (by rfl) (qa_cons (qe_op oq_add (qe_slice (qv 1) qo_none (qo_some (qv 2))) (qe_slice (qv 1) (qo_some (qe_op oq_add (qv 2) qe_int)) qo_none)) qa_nil)))))))))))))))))), ?_⟩)
  rintro _ ⟨x, rfl, rfl⟩
  simp [and_assoc, hide]
  intro u u0 u1
  refine ⟨by omega, by omega, ?_⟩
  rintro _ rs0 F0 _ rfl
  refine ⟨⟨rs0, rfl, F0.mono (by decide) (by decide)⟩, fun v v0 v1 => ⟨by omega, by omega, ?_⟩⟩
  rintro _ rs F hlen rfl
  refine Later.go ?_
  have hI : FilIn (fD rs) := filIn_rows (by decide) (by decide) F.ok F.ky F.len (by decide)
  simp [and_assoc, hide, F.fil, hI.clb.1, hI.clb.2]
  refine Later.go ?_
  have efD : fD rs = .tuple (rs.map rowD) := rfl
  have lm : (rs.map rowD).length = rs.length := by simp
  have hl := F.len
  rw [efD]
  simp [and_assoc, hide]
  refine ⟨by omega, by omega, fun x x0 x1 => Later.go ?_⟩
  obtain ⟨i, rfl⟩ := Int.eq_ofNat_of_zero_le x0
  have hi : i + 1 < rs.length := by omega
  have c1 : ∀ j : Nat, ((i : Int) + (j : Int)) = ((i + j : Nat) : Int) := fun j => by omega
  have eb : cutG (rs.map rowD) none (some (i : Int)) ++ ((cutG (rs.map rowD) (some (i : Int)) (some ((i : Int) + 2))).reverse ++ cutG (rs.map rowD) (some ((i : Int) + 2)) none) = (rs.take i ++ ([rs[i + 1], rs[i]] ++ rs.drop (i + 2))).map rowD := by
    rw [show ((i : Int) + 2) = ((i + 2 : Nat) : Int) from rfl, cut_to, cut_from, cut_map, cut_pair hi, List.map_append, List.map_append, List.map_take, List.map_drop]
    rfl
  have et : cutG (rs.map rowD) none (some (i : Int)) = (rs.take i).map rowD := by rw [cut_to, List.map_take]
  have ed : cutG (rs.map rowD) (some ((i : Int) + 1)) none = (rs.drop (i + 1)).map rowD := by rw [show ((i : Int) + 1) = ((i + 1 : Nat) : Int) from rfl, cut_from, List.map_drop]
  simp [and_assoc, hide]
  have g1 := (cut_sub (rs.map rowD) none (some (i : Int))).length_le
  have g2 := (cut_sub (rs.map rowD) (some (i : Int)) (some ((i : Int) + 2))).length_le
  have g3 := (cut_sub (rs.map rowD) (some ((i : Int) + 2)) none).length_le
  have g4 := (cut_sub (rs.map rowD) (some ((i : Int) + 1)) none).length_le
  have sub1 : ∀ p ∈ rs.take i ++ ([rs[i + 1], rs[i]] ++ rs.drop (i + 2)), p ∈ rs := fun p hp => by
    rcases List.mem_append.mp hp with hp | hp
    · exact List.mem_of_mem_take hp
    · rcases List.mem_append.mp hp with hp | hp
      · simp at hp
        rcases hp with rfl | rfl <;> exact List.getElem_mem _
      · exact List.mem_of_mem_drop hp
  have k0 := F.ky _ (List.getElem_mem (show rs.length - 1 < rs.length by omega))
  have ki := F.ky _ (List.getElem_mem (show i < rs.length by omega))
  have bI : FilIn (fD (rs.take i ++ ([rs[i + 1], rs[i]] ++ rs.drop (i + 2)))) := filIn_rows (z := 3) (m := 203) (by decide) (by decide) (fun p hp => F.ok p (sub1 p hp)) (fun p hp => F.ky p (sub1 p hp)) (by simp; omega) (by decide)
  have bF := bent_fil F hi
  have sub2 : ∀ p ∈ rs.take i ++ ((rs[i].1, Tm.pair (.int 0) (.unk (rs[rs.length - 1]).1)) :: rs.drop (i + 1)), p ∈ rs ∨ p = (rs[i].1, Tm.pair (.int 0) (.unk (rs[rs.length - 1]).1)) := fun p hp => by
    rcases List.mem_append.mp hp with hp | hp
    · exact .inl (List.mem_of_mem_take hp)
    · rcases List.mem_cons.mp hp with rfl | hp
      · exact .inr rfl
      · exact .inl (List.mem_of_mem_drop hp)
  have iI : FilIn (fD (rs.take i ++ ((rs[i].1, .pair (.int 0) (.unk (rs[rs.length - 1]).1)) :: rs.drop (i + 1)))) := filIn_rows (z := 3) (m := 203) (by decide) (by decide) (fun p hp => by
    rcases sub2 p hp with h | rfl
    · exact F.ok p h
    · exact ⟨⟨trivial, k0.1⟩, ⟨Nat.zero_le _, k0.2⟩, Nat.le_refl _⟩) (fun p hp => by
    rcases sub2 p hp with h | rfl
    · exact F.ky p h
    · exact ki) (by simp; omega) (by decide)
  have iF := inner_fil F hi
  have rI : FilIn (fD (rs.take i ++ rs.drop (i + 1))) := filIn_rows (z := 3) (m := 203) (by decide) (by decide) (fun p hp => F.ok p ((take_drop_sub rs (show i ≤ i + 1 by omega)).subset hp)) (fun p hp => F.ky p ((take_drop_sub rs (show i ≤ i + 1 by omega)).subset hp)) (by simp; omega) (by decide)
  have e1 : PyData.tuple ((rs.take i ++ ([rs[i + 1], rs[i]] ++ rs.drop (i + 2))).map rowD) = fD (rs.take i ++ ([rs[i + 1], rs[i]] ++ rs.drop (i + 2))) := rfl
  have e2 : PyData.tuple (cutG (rs.map rowD) none (some (i : Int)) ++ .tuple [.int rs[i].1, .tuple [.int 0, .tuple [.str "?", .int (rs[rs.length - 1]).1]]] :: cutG (rs.map rowD) (some ((i : Int) + 1)) none) = fD (rs.take i ++ ((rs[i].1, .pair (.int 0) (.unk (rs[rs.length - 1]).1)) :: rs.drop (i + 1))) := by
    rw [et, ed, fD, List.map_append, List.map_cons]
    rfl
  have e3 : PyData.tuple (cutG (rs.map rowD) none (some (i : Int)) ++ cutG (rs.map rowD) (some ((i : Int) + 1)) none) = fD (rs.take i ++ rs.drop (i + 1)) := by
    rw [et, ed, fD, List.map_append]
    rfl
  generalize fD (rs.take i ++ ([rs[i + 1], rs[i]] ++ rs.drop (i + 2))) = BB at *
  generalize fD (rs.take i ++ ((rs[i].1, Tm.pair (.int 0) (.unk (rs[rs.length - 1]).1)) :: rs.drop (i + 1))) = II at *
  refine ⟨sl (by omega), sl (by omega), Later.go ?_⟩
  rw [eb, e1]
  have ha : L2.atI (rs.map rowD) (i : Int) = some (.tuple [.int rs[i].1, rs[i].2.data]) := atI_nat (by rw [List.getElem?_map, List.getElem?_eq_getElem (by omega)]; rfl)
  have hz : L2.atI (rs.map rowD) (-1) = some (.tuple [.int (rs[rs.length - 1]).1, (rs[rs.length - 1]).2.data]) := by
    rw [atI_neg1 (by omega), lm, List.getElem?_map, List.getElem?_eq_getElem (by omega)]
    rfl
  simp [and_assoc, hide, ha, hz]
  refine ⟨sl (by omega), sl (by omega), Later.go ?_⟩
  rw [e2]
  simp [and_assoc, hide, bI.clb.1, bI.clb.2, iI.clb.1, iI.clb.2, bF, iF]
  rw [e3]
  exact ⟨sl (by omega), rI⟩
end
end Kr

set_option Elab.async false
set_option linter.all false
set_option maxRecDepth 100000
set_option maxHeartbeats 4000000
namespace Kr
open PySem PySem.Spec PyProof.Rows L2
/-! the context of a deck and of tables of code objects -/
theorem tab_stay {H H' : Hp} {P : Addr} {q : Str} (t : LamX.TabS H P q) (hP : ∀ o, H P = some o → H' P = some o) (f : FzK H H') : LamX.TabS H' P q := by
  obtain ⟨ps, h1, h2, h3⟩ := t
  exact ⟨ps, hP _ h1, h2, fun pos cv hc => (h3 pos cv hc).elim fun c e => ⟨c, e.1, f c (.ext _) e.2⟩⟩
def deckTs (d c : Addr) (Ts : List (Addr × Str)) : Cz where
  M := fun b => b = d ∨ b = c ∨ ∃ p ∈ Ts, b = p.1
  tok := some d
  J := fun H => Dk H d c ∧ ∀ p ∈ Ts, LamX.TabS H p.1 p.2
  st := fun H H' f s ⟨⟨ns, t, n, h1, h2, h3⟩, hT⟩ => ⟨⟨ns, t, n, s _ _ (.inl rfl) h1, s _ _ (.inr (.inl rfl)) h2, h3⟩, fun p hp => tab_stay (hT p hp) (fun o e => s _ _ (.inr (.inr ⟨p, hp, rfl⟩)) e) f⟩
  mt := fun H b m ⟨⟨ns, t, n, h1, h2, h3⟩, hT⟩ z => by
    rcases m with rfl | rfl | ⟨p, hp, rfl⟩
    · rw [h1] at z
      cases z
    · rw [h2] at z
      cases z
    · obtain ⟨ps, e, _⟩ := hT p hp
      rw [e] at z
      cases z
theorem dk_tab {H : Hp} {d c P : Addr} {q : Str} (k : Dk H d c) (t : LamX.TabS H P q) : P ≠ d ∧ P ≠ c := by
  obtain ⟨ns, s, n, h1, h2, _⟩ := k
  obtain ⟨ps, e, _⟩ := t
  constructor
  · rintro rfl
    rw [e] at h1
    cases h1
  · rintro rfl
    rw [e] at h2
    cases h2
theorem deckTs_dk (d c : Addr) (Ts : List (Addr × Str)) : IsDk (deckTs d c Ts) := ⟨d, c, rfl, .inl rfl, .inr (.inl rfl), fun _ h => h.1, fun H H' j k kp => ⟨k, fun p hp =>
  have n := dk_tab j.1 (j.2 p hp)
  tab_stay (j.2 p hp) (fun o e => kp _ _ n.1 n.2 e) (kp_fz j.1 kp)⟩⟩
theorem deckTs_tb {d c : Addr} {Ts : List (Addr × Str)} (u : ∀ p ∈ Ts, ∀ p' ∈ Ts, p.1 = p'.1 → p.2 = p'.2) {P : Addr} {q : Str} (h : (P, q) ∈ Ts) : IsTb P q (deckTs d c Ts) := ⟨.inr (.inr ⟨_, h, rfl⟩), fun H j => j.2 _ h, fun H H' j t e => by
  obtain ⟨⟨ns, s, n, h1, h2, h3⟩, hT⟩ := j
  have k := dk_tab ⟨ns, s, n, h1, h2, h3⟩ (hT _ h)
  refine ⟨⟨ns, s, n, e _ _ k.1.symm h1, e _ _ k.2.symm h2, h3⟩, fun p hp => ?_⟩
  by_cases hp' : p.1 = P
  · have e1 : p.2 = q := u p hp (P, q) h hp'
    rw [hp', e1]
    exact t
  · exact tab_stay (hT p hp) (fun o eo => e _ _ hp' eo) (e.fz (hT _ h))⟩
def spLawT (K : PySem.W.Frag) (Ts : List (Addr × Str)) : Sp := fun vs H Q _ => ∃ (a : Addr) (ns : List Int), vs = [.ref a] ∧ SqL K H a (ns.map V.int) ∧ (∀ p ∈ Ts, H p.1 = some (.tbl #[])) ∧ ∀ H', Q (.bl true) H'
end Kr

set_option Elab.async false
set_option linter.all false
set_option maxRecDepth 100000
set_option maxHeartbeats 4000000
namespace Kr
open PySem PySem.Spec PyProof.Rows L2
abbrev s_law : Stmt := topS 44
theorem sc_law : FnScope ["_law_script", "_law_deck_here", "_law_turn", "_law_filling", "_law_again", "_law_twice", "_law_thing", "_law_odd_here"] ["_law_script"] (defScope s_law) := ⟨rfl, rfl, rfl, by decide +kernel, rfl, by decide +kernel, by decide +kernel⟩
section
variable {P : Program} {w : World} {K : PySem.W.Frag} {mg : Str → Option Value} {base : Heap} {n : Nat}
abbrev CMade (P : Program) (w : World) (K : PySem.W.Frag) (mg : Str → Option Value) (base : Heap) (n : Nat) (T : Addr) : Prop := Cal P w K mg base n "_law_made" ["_law_deck_here"] (spQ (GT T) (p1 fun x => x = tokD) (fun ds d => ∃ rs, FilR 9 8 rs ∧ d = fD rs))
abbrev CSpo (P : Program) (w : World) (K : PySem.W.Frag) (mg : Str → Option Value) (base : Heap) (n : Nat) : Prop := Cal P w K mg base n "_law_spoilt" ["_law_deck_here", "_law_thing", "_law_deep_here"] (spQ IsDk (pSp 7) rSp)
abbrev CNear (P : Program) (w : World) (K : PySem.W.Frag) (mg : Str → Option Value) (base : Heap) (n : Nat) : Prop := Cal P w K mg base n "_law_near" ["_law_deck_here", "_law_filling"] (spQ IsDk (fun ds => ∃ rs, ds = [tokD, fD rs] ∧ FilR 9 8 rs) (fun ds d => Fit 1 14 1200 d))
abbrev CLongR (P : Program) (w : World) (K : PySem.W.Frag) (mg : Str → Option Value) (base : Heap) (n : Nat) : Prop := Cal P w K mg base n "_law_long_right" ["_law_deck_here"] (spQ IsDk (p1 fun x => x = tokD) (fun _ d => d = .bool true))
theorem fit_filIn {k n m : Nat} {x : PyData} (h : Fit k n m x) (hk : k ≤ 1000) (hn : n ≤ 60) (hm : m ≤ 3900) : FilIn x := by
  have hb := h.b
  refine ⟨gd_mono hk x h.g, Nat.le_trans h.d hn, by omega, fun r hr => ?_, ?_⟩
  · cases x with
    | tuple rows =>
      have := bulk_mem (show r ∈ rows from hr)
      have h2 : PyData.bulkAll rows ≤ m := hb
      omega
    | _ => cases hr
  · cases x with
    | tuple rows =>
      have h2 : PyData.bulkAll rows ≤ m := hb
      have := len_bulk rows
      show rows.length ≤ _
      omega
    | _ => exact Nat.zero_le _
theorem fit_all {ds : List PyData} (h : (ds.all fun d => gd 0 d && decide (d.depth ≤ 5) && decide (d.bulk ≤ 30)) = true) : ∀ d ∈ ds, FilIn d := fun d hd => by
  have := List.all_eq_true.mp h d hd
  simp only [Bool.and_eq_true, decide_eq_true_eq] at this
  exact fit_filIn ⟨this.1.1, this.1.2, this.2⟩ (by decide) (by decide) (by decide)
theorem filtN (ds : List PyData) : ds.filterMap (fun _ => (none : Option PyData)) = [] := by
  induction ds with
  | nil => rfl
  | cons d ds ih => rw [List.filterMap_cons_none rfl, ih]
theorem int_of {d : PyData} {i n : Nat} (h : (intsD 0 n)[i]? = some d) : ∃ j, d = .int j := by
  have hm := List.mem_of_getElem? h
  unfold intsD at hm
  obtain ⟨j, _, e⟩ := List.mem_map.mp hm
  exact ⟨_, e.symm⟩
theorem ok_law {f T : Addr} {fd : FuncData} (B : Bl mg) (F : Fun K "law" "law" s_law f fd) (c__law_deck : Cal P w K mg base n "_law_deck" ["_law_script"] (spDeck K)) (c__law_draw : CDraw P w K mg base n) (c__law_long_right : CLongR P w K mg base n) (c__law_made : CMade P w K mg base n T)
    (c_is_filling : CFil P w K mg base n) (c__law_put_right : CPutR P w K mg base n) (c__law_spoilt : CSpo P w K mg base n) (c__law_right : CRight P w K mg base n) (c__law_near : CNear P w K mg base n) :
    GOk P w K mg base (n + 1) f fd ["_law_script"] (spLawT K [(T, qMade)]) := by
  obtain ⟨fD0, dD', hD, gD, kD, bD⟩ := c__law_deck.ex
  refine gok_of F sc_law (fun vs H Q E h => ?_) (fun cdv A outer s H vs Q E g0 hr h => ?_)
  · obtain ⟨a, ns, rfl, _⟩ := h
    rfl
  obtain ⟨a, ns, rfl, hS, hT, q⟩ := h
  have R : ∃ ts, (∀ C, GT T C → QSs (cxOf CX0 P w K mg base ["_law_script", "_law_deck_here", "_law_turn", "_law_filling", "_law_again", "_law_twice", "_law_thing", "_law_odd_here"] "law" (defScope s_law) f cdv A outer s H E).nox C [7] (defBody s_law).tail ts) ∧ ts { nx := fun _ => False, rt := fun d => d = .bool true } [none, some tokD, none, none, none, none, none, none] := by
    refine ⟨_, fun C hGT => (qss_cons (qs_if (QW.qt (qw_and (qt_cmp (oq_eqA hr.units) (qe_cal c__law_draw hGT.1 g0 hr (by rfl) (qa_cons (qv 1) (qa_cons qe_int qa_nil))) qe_int (nomark _)) (qw_and1 (qt_not (qt_val (qe_cal c__law_long_right hGT.1 g0 hr (by rfl) (qa_cons (qv 1) qa_nil))))))) (qss_one (qs_ret qe_bl)) qss_nil) (qss_cons (qs_for (G := (gName 2)) (dec := (dName 2)) PassesOwn.never rfl (fun _ x1 => (qi_range1 (by rfl) B.range qe_int)) (fun _ => (qg_name (k := 2) sc_law.nd rfl (by first | exact Or.inl rfl | exact Or.inr rfl))) (qss_cons (qs_setX (k := 3) (by decide) sc_law.nd rfl (by first | exact Or.inl rfl | exact Or.inr rfl) (fun _ x2 => (qe_cal c__law_made ⟨(hGT.1.ext x2), (hGT.2.ext x2)⟩ g0 hr (by rfl) (qa_cons (qv 1) qa_nil)))) (qss_cons (qs_if (QW.qt (qw_or (qt_cmp oq_isnotB (qe_cal c_is_filling trivial g0 hr (by rfl) (qa_cons (qv 3) qa_nil)) qe_bl (nomark _)) (qw_or1 (qt_not (qt_val (qe_cal c__law_put_right hGT.1 g0 hr (by rfl) (qa_cons (qv 1) (qa_cons (qv 3) qa_nil)))))))) (qss_one (qs_ret qe_bl)) qss_nil) (qss_later (qss_one (qs_for (G := (gName 4)) (dec := (dName 4)) PassesOwn.never rfl (fun _ x3 => (qi_range1 (by rfl) B.range qe_int)) (fun _ => (qg_name (k := 4) sc_law.nd rfl (by first | exact Or.inl rfl | exact Or.inr rfl))) (qss_cons (qs_setX (k := 5) (by decide) sc_law.nd rfl (by first | exact Or.inl rfl | exact Or.inr rfl) (fun _ x4 => (qe_cal c__law_draw (hGT.1.ext x4) g0 hr (by rfl) (qa_cons (qv 1) (qa_cons qe_int qa_nil))))) (qss_cons (qs_setX (k := 6) (by decide) sc_law.nd rfl (by first | exact Or.inl rfl | exact Or.inr rfl) (fun _ x5 => (qe_cal c__law_spoilt (hGT.1.ext x5) g0 hr (by rfl) (qa_cons (qv 1) (qa_cons (qv 3) (qa_cons (qe_op oq_add qe_int (qe_cal c__law_draw (hGT.1.ext x5) g0 hr (by rfl) (qa_cons (qv 1) (qa_cons qe_int qa_nil)))) qa_nil)))))) (qss_cons (qs_if (qt_cmp (oq_eqA hr.units) (qv 5) qe_int (nomark _)) (qss_one (qs_setX (k := 6) (by decide) sc_law.nd rfl (by first | exact Or.inl rfl | exact Or.inr rfl) (fun _ x6 => (qe_cal c__law_spoilt (hGT.1.ext x6) g0 hr (by rfl) (qa_cons (qv 1) (qa_cons (qv 6) (qa_cons (qe_op oq_add qe_int (qe_cal c__law_draw (hGT.1.ext x6) g0 hr (by rfl) (qa_cons (qv 1) (qa_cons qe_int qa_nil)))) qa_nil))))))) qss_nil) (qss_one (qs_if (QW.qt (qw_or (qt_not (qt_val (qe_cal c__law_right trivial g0 hr (by rfl) (qa_cons (qv 6) qa_nil)))) (qw_or1 (qt_not (qt_val (qe_cal c__law_right trivial g0 hr (by rfl) (qa_cons (qe_cal c__law_near hGT.1 g0 hr (by rfl) (qa_cons (qv 1) (qa_cons (qv 3) qa_nil))) qa_nil))))))) (qss_one (qs_ret qe_bl)) qss_nil))))))))))) (qss_later (qss_cons (qs_own (k := 7) (by decide) sc_law.nd rfl (by first | exact Or.inl rfl | exact Or.inr rfl) (fun _ x7 => (qf_lst (qa_cons qe_non (qa_cons qe_bl (qa_cons qe_int (qa_cons qe_str (qa_cons qe_str (qa_cons (qe_tup qa_nil) (qa_cons (qe_lst qa_nil) (qa_cons qe_dnew (qa_cons (qe_tup (qa_cons (qe_tup qa_nil) qa_nil)) (qa_cons (qe_tup (qa_cons (qe_tup (qa_cons qe_int qa_nil)) qa_nil)) (qa_cons (qe_tup (qa_cons (qe_tup (qa_cons qe_int (qa_cons qe_int (qa_cons qe_int qa_nil)))) qa_nil)) (qa_cons (qe_tup (qa_cons qe_int (qa_cons qe_int qa_nil))) (qa_cons (qe_tup (qa_cons (qe_tup (qa_cons qe_int (qa_cons qe_int qa_nil))) (qa_cons (qe_tup (qa_cons qe_int (qa_cons qe_int qa_nil))) qa_nil))) qa_nil)))))))))))))))) (qss_cons (qs_append (k := 7) (fun _ h => pe_bm PySem.F.plainAttrs_list PySem.F.slot_list_append PySem.F.type_list_append mt_append (pv 7) (pa_cons h pa_nil)) (fun _ x8 => (qe_tup (qa_cons (qe_tup (qa_cons qe_int (qa_cons qe_int qa_nil))) (qa_cons (qe_tup (qa_cons qe_int (qa_cons qe_int qa_nil))) qa_nil))))) (qss_cons (qs_ownAddX (k := 7) sc_law.nd rfl (by first | exact Or.inl rfl | exact Or.inr rfl) (fun _ x9 => (qe_lst (qa_cons (qe_tup (qa_cons (qe_tup (qa_cons qe_int (qa_cons qe_int qa_nil))) (qa_cons (qe_tup (qa_cons qe_int (qa_cons (qe_tup (qa_cons qe_str (qa_cons qe_int qa_nil))) qa_nil))) qa_nil))) (qa_cons (qe_tup (qa_cons (qe_tup (qa_cons qe_int (qa_cons (qe_tup (qa_cons qe_str (qa_cons qe_int qa_nil))) qa_nil))) (qa_cons (qe_tup (qa_cons qe_int (qa_cons qe_int qa_nil))) qa_nil))) (qa_cons (qe_lst (qa_cons (qe_tup (qa_cons qe_int (qa_cons qe_int qa_nil))) qa_nil)) (qa_cons (qe_tup (qa_cons (qe_tup (qa_cons qe_int (qa_cons (qe_lst (qa_cons qe_int qa_nil)) qa_nil))) qa_nil)) qa_nil))))))) (qss_cons (qs_ownAddX (k := 7) sc_law.nd rfl (by first | exact Or.inl rfl | exact Or.inr rfl) (fun _ x10 => (qe_lst (qa_cons (qe_tup (qa_cons (qe_tup (qa_cons qe_bl (qa_cons qe_int qa_nil))) qa_nil)) (qa_cons (qe_tup (qa_cons (qe_tup (qa_cons qe_int (qa_cons qe_bl qa_nil))) qa_nil)) qa_nil))))) (qss_one (qs_ret (qe_cmp (oq_eqL0 hr.units) (qe_lc (own := [("_law_thing", 6)]) (G := (gName 6)) (dec := (dName 6)) rfl sc_law.nd (qi_list (qv 7)) (blkOk_by (own := [("_law_thing", 6)]) (N := ["_law_script", "_law_deck_here", "_law_turn", "_law_filling", "_law_again", "_law_twice", "_law_thing", "_law_odd_here"]) (sc := defScope s_law) (by decide +kernel)) (fun _ _ _ _ _ _ => (qg_name (k := 6) sc_law.nd rfl (by first | exact Or.inl rfl | exact Or.inr rfl))) (fun _ x11 => (fun _ _ _ _ _ => qts_one (qt_not (qt_val (qe_cal c__law_right trivial g0 hr (by rfl) (qa_cons (qv 6) qa_nil)))))) (fun _ x12 => (fun _ _ _ _ _ => (qv 6)))) (qe_lst qa_nil) (nomark _))))))))))), ?_⟩
    clear hS q
    simp [and_assoc, hide]
    intro x _ _
    refine ⟨fun i ρ => ∃ o2 o3 o4 o5 o6 : Option PyData, ρ = [none, some tokD, o2, o3, o4, o5, o6, none], ⟨none, none, none, none, none, rfl⟩, ?_⟩
    rintro i ρ ⟨o2, o3, o4, o5, o6, rfl⟩
    refine ⟨fun _ => Later.go ?_, fun d hd => ?_⟩
    · simp [and_assoc, hide]
      refine ⟨by decide, lc_go (fun _ => none) _ _ (by simp) (fun d hd => ?_) ?_⟩
      · have fd := fit_all (by decide +kernel) d hd
        clear hd
        refine ⟨[(6, d)], rfl, by simp, fun R hR => ?_⟩
        simp [wipeR]
        exact ⟨fd, hR⟩
      · rw [List.nil_append, filtN]
    · obtain ⟨j, rfl⟩ := int_of hd
      refine ⟨[(2, .int j)], rfl, by simp, ?_⟩
      simp [and_assoc, hide]
      rintro _ rs F rfl
      have hFt := F.fit
      have hI := fit_filIn hFt (by decide) (by decide) (by decide)
      refine ⟨hI.clb.1, hI.clb.2, F.fil, ⟨rs, rfl, F.mono (by decide) (by decide)⟩, Later.go ?_⟩
      refine ⟨fun i ρ => ∃ o4 o5 o6 : Option PyData, ρ = [none, some tokD, some (.int j), some (fD rs), o4, o5, o6, none], ⟨_, _, _, rfl⟩, ?_⟩
      rintro i ρ ⟨o4, o5, o6, rfl⟩
      refine ⟨fun _ => ⟨_, _, _, _, _, rfl⟩, fun d hd => ?_⟩
      obtain ⟨l, rfl⟩ := int_of hd
      refine ⟨[(4, .int l)], rfl, by simp, ?_⟩
      have sp : ∀ y : Int, 0 ≤ y → y < 5 → pSp 7 [tokD, fD rs, .int (1 + y)] := fun y h0 h1 => ⟨fD rs, 1 + y, 0, 11, 888, rfl, by omega, by omega, hFt, by decide, by decide, by decide⟩
      have sp2 : ∀ d, Fit 1 13 1836 d → ∀ y : Int, 0 ≤ y → y < 5 → pSp 7 [tokD, d, .int (1 + y)] := fun d hd y h0 h1 => ⟨d, 1 + y, 1, 13, 1836, rfl, by omega, by omega, hd, by decide, by decide, by decide⟩
      have rs1 : ∀ y d, rSp [tokD, fD rs, .int y] d → Fit 1 13 1836 d := fun y d h => h _ _ 0 11 888 rfl hFt
      have rs2 : ∀ y d e, Fit 1 13 1836 d → rSp [tokD, d, .int y] e → Fit 2 15 3732 e := fun y d e hd h => h _ _ 1 13 1836 rfl hd
      have nr : ∀ d, Fit 1 14 1200 d → FilIn d := fun d h => fit_filIn h (by decide) (by decide) (by decide)
      simp [and_assoc, hide]
      intro x _ _ y y0 y1
      refine ⟨sp y y0 y1, fun d hd => ?_⟩
      have f1 := rs1 _ d hd
      split
      · intro z z0 z1
        exact ⟨sp2 d f1 z z0 z1, fun e he => ⟨fit_filIn (rs2 _ d e f1 he) (by decide) (by decide) (by decide), ⟨rs, rfl, F⟩, nr⟩⟩
      · exact ⟨fit_filIn f1 (by decide) (by decide) (by decide), ⟨rs, rfl, F⟩, nr⟩
  obtain ⟨ts, hR, pure⟩ := R
  refine ⟨_, pss_cons (ps_set (i := 1) sc_law.nd rfl (.inl rfl) (pe_gcall hD g0 hr (by rfl) gD kD bD (pa_cons (pv 0) pa_nil))) (PSs.exC hR), ?_⟩
  refine ⟨.ref a, rfl, a, ns, rfl, hS, fun H1 d c s1 nd nc hDk => ?_⟩
  have hG : GT T (deckTs d c [(T, qMade)]) := ⟨deckTs_dk d c _, deckTs_tb (fun p hp p' hp' _ => by rw [List.mem_singleton.mp hp, List.mem_singleton.mp hp']) (List.mem_singleton.mpr rfl)⟩
  have jT : (deckTs d c [(T, qMade)]).J H1 := ⟨hDk, fun p hp => LamX.TabS.nil (s1 _ _ (hT p hp))⟩
  refine ⟨deckTs d c [(T, qMade)], hG, [none, some tokD, none, none, none, none, none, none], fun _ => none, ?_, (hR _ hG).mono _ _ _ pure ⟨fun ρ q => False.elim q, fun x e v H' k1 j1 r1 => ?_, fun _ q => False.elim q, fun _ q => False.elim q⟩⟩
  · refine { len := rfl, j := jT, k := St.refl, inj := fun i j b xs ys e => (by cases e), dom := fun i b xs e => (by cases e), all := fun i hi => ?_, at_ := fun i x hi he => ?_ }
    · rintro ⟨d, he⟩
      rw [List.mem_singleton.mp hi] at he
      cases he
    match i, he with
    | 1, he =>
      cases he
      exact ⟨.ref d, rfl, .tok rfl⟩
    | 0, he => cases he
    | 2, he => cases he
    | 3, he => cases he
    | 4, he => cases he
    | 5, he => cases he
    | 6, he => cases he
    | 7, he => cases he
    | i + 8, he => cases he
  · subst e
    cases r1
    exact q H'
end
end Kr

set_option Elab.async false
set_option linter.all false
set_option maxRecDepth 100000
set_option maxHeartbeats 8000000
namespace Kr
open PySem PySem.Spec PyProof.Rows L2
theorem all_mk {l : PySem.W.OpenLaw} {w : World} {K : PySem.W.Frag} {h : Heap} {mg : Str → Option Value} {fa : Addr} {q : Program} (tt : TabTold q K h) (X : K.In h) (G : h.Ns mainGlobals mg) (hfa : mg "law" = some (.ref fa))
    {f1 : Addr} {od1 an1 : Option Addr} {sl1 : Array (Option Value)} {oc1 kV1 dc1 pm1 cd1 ct1 : Value} (a1 : PySem.W.nsIn K mainGlobals "is_whole" = some (some (.ref f1)))
    (l1 : K.lookup f1 = some ⟨oc1, od1, .func (PySem.W.fnOf "is_whole" "is_whole" (defArgs s_is_whole) (defBody s_is_whole) (defScope s_is_whole) .none kV1 dc1 pm1 an1 cd1 ct1), sl1⟩) (c1 : PySem.W.codeIn K cd1 "is_whole" = true) (k1 : PySem.W.keepIn K (.ref f1) = true)
    {f2 : Addr} {od2 an2 : Option Addr} {sl2 : Array (Option Value)} {oc2 kV2 dc2 pm2 cd2 ct2 : Value} (a2 : PySem.W.nsIn K mainGlobals "is_tuple_of" = some (some (.ref f2)))
    (l2 : K.lookup f2 = some ⟨oc2, od2, .func (PySem.W.fnOf "is_tuple_of" "is_tuple_of" (defArgs s_is_tuple_of) (defBody s_is_tuple_of) (defScope s_is_tuple_of) .none kV2 dc2 pm2 an2 cd2 ct2), sl2⟩) (c2 : PySem.W.codeIn K cd2 "is_tuple_of" = true) (k2 : PySem.W.keepIn K (.ref f2) = true)
    {f3 : Addr} {od3 an3 : Option Addr} {sl3 : Array (Option Value)} {oc3 kV3 dc3 pm3 cd3 ct3 : Value} (a3 : PySem.W.nsIn K mainGlobals "is_word" = some (some (.ref f3)))
    (l3 : K.lookup f3 = some ⟨oc3, od3, .func (PySem.W.fnOf "is_word" "is_word" (defArgs s_is_word) (defBody s_is_word) (defScope s_is_word) .none kV3 dc3 pm3 an3 cd3 ct3), sl3⟩) (c3 : PySem.W.codeIn K cd3 "is_word" = true) (k3 : PySem.W.keepIn K (.ref f3) = true)
    {f4 : Addr} {od4 an4 : Option Addr} {sl4 : Array (Option Value)} {oc4 kV4 dc4 pm4 cd4 ct4 : Value} (a4 : PySem.W.nsIn K mainGlobals "is_atom" = some (some (.ref f4)))
    (l4 : K.lookup f4 = some ⟨oc4, od4, .func (PySem.W.fnOf "is_atom" "is_atom" (defArgs s_is_atom) (defBody s_is_atom) (defScope s_is_atom) .none kV4 dc4 pm4 an4 cd4 ct4), sl4⟩) (c4 : PySem.W.codeIn K cd4 "is_atom" = true) (k4 : PySem.W.keepIn K (.ref f4) = true)
    {f5 : Addr} {od5 an5 : Option Addr} {sl5 : Array (Option Value)} {oc5 kV5 dc5 pm5 cd5 ct5 : Value} (a5 : PySem.W.nsIn K mainGlobals "is_marked" = some (some (.ref f5)))
    (l5 : K.lookup f5 = some ⟨oc5, od5, .func (PySem.W.fnOf "is_marked" "is_marked" (defArgs s_is_marked) (defBody s_is_marked) (defScope s_is_marked) .none kV5 dc5 pm5 an5 cd5 ct5), sl5⟩) (c5 : PySem.W.codeIn K cd5 "is_marked" = true) (k5 : PySem.W.keepIn K (.ref f5) = true)
    {f6 : Addr} {od6 an6 : Option Addr} {sl6 : Array (Option Value)} {oc6 kV6 dc6 pm6 cd6 ct6 : Value} (a6 : PySem.W.nsIn K mainGlobals "is_unknown" = some (some (.ref f6)))
    (l6 : K.lookup f6 = some ⟨oc6, od6, .func (PySem.W.fnOf "is_unknown" "is_unknown" (defArgs s_is_unknown) (defBody s_is_unknown) (defScope s_is_unknown) .none kV6 dc6 pm6 an6 cd6 ct6), sl6⟩) (c6 : PySem.W.codeIn K cd6 "is_unknown" = true) (k6 : PySem.W.keepIn K (.ref f6) = true)
    {f7 : Addr} {od7 an7 : Option Addr} {sl7 : Array (Option Value)} {oc7 kV7 dc7 pm7 cd7 ct7 : Value} (a7 : PySem.W.nsIn K mainGlobals "is_pair" = some (some (.ref f7)))
    (l7 : K.lookup f7 = some ⟨oc7, od7, .func (PySem.W.fnOf "is_pair" "is_pair" (defArgs s_is_pair) (defBody s_is_pair) (defScope s_is_pair) .none kV7 dc7 pm7 an7 cd7 ct7), sl7⟩) (c7 : PySem.W.codeIn K cd7 "is_pair" = true) (k7 : PySem.W.keepIn K (.ref f7) = true)
    {f8 : Addr} {od8 an8 : Option Addr} {sl8 : Array (Option Value)} {oc8 kV8 dc8 pm8 cd8 ct8 : Value} (a8 : PySem.W.nsIn K mainGlobals "is_leaf" = some (some (.ref f8)))
    (l8 : K.lookup f8 = some ⟨oc8, od8, .func (PySem.W.fnOf "is_leaf" "is_leaf" (defArgs s_is_leaf) (defBody s_is_leaf) (defScope s_is_leaf) .none kV8 dc8 pm8 an8 cd8 ct8), sl8⟩) (c8 : PySem.W.codeIn K cd8 "is_leaf" = true) (k8 : PySem.W.keepIn K (.ref f8) = true)
    {f9 : Addr} {od9 an9 : Option Addr} {sl9 : Array (Option Value)} {oc9 kV9 dc9 pm9 cd9 ct9 : Value} (a9 : PySem.W.nsIn K mainGlobals "is_term" = some (some (.ref f9)))
    (l9 : K.lookup f9 = some ⟨oc9, od9, .func (PySem.W.fnOf "is_term" "is_term" (defArgs s_is_term) (defBody s_is_term) (defScope s_is_term) .none kV9 dc9 pm9 an9 cd9 ct9), sl9⟩) (c9 : PySem.W.codeIn K cd9 "is_term" = true) (k9 : PySem.W.keepIn K (.ref f9) = true)
    {f10 : Addr} {od10 an10 : Option Addr} {sl10 : Array (Option Value)} {oc10 kV10 dc10 pm10 cd10 ct10 : Value} (a10 : PySem.W.nsIn K mainGlobals "leaves_of" = some (some (.ref f10)))
    (l10 : K.lookup f10 = some ⟨oc10, od10, .func (PySem.W.fnOf "leaves_of" "leaves_of" (defArgs s_leaves_of) (defBody s_leaves_of) (defScope s_leaves_of) .none kV10 dc10 pm10 an10 cd10 ct10), sl10⟩) (c10 : PySem.W.codeIn K cd10 "leaves_of" = true) (k10 : PySem.W.keepIn K (.ref f10) = true)
    {f11 : Addr} {od11 an11 : Option Addr} {sl11 : Array (Option Value)} {oc11 kV11 dc11 pm11 cd11 ct11 : Value} (a11 : PySem.W.nsIn K mainGlobals "unknowns_of" = some (some (.ref f11)))
    (l11 : K.lookup f11 = some ⟨oc11, od11, .func (PySem.W.fnOf "unknowns_of" "unknowns_of" (defArgs s_unknowns_of) (defBody s_unknowns_of) (defScope s_unknowns_of) .none kV11 dc11 pm11 an11 cd11 ct11), sl11⟩) (c11 : PySem.W.codeIn K cd11 "unknowns_of" = true) (k11 : PySem.W.keepIn K (.ref f11) = true)
    {f12 : Addr} {od12 an12 : Option Addr} {sl12 : Array (Option Value)} {oc12 kV12 dc12 pm12 cd12 ct12 : Value} (a12 : PySem.W.nsIn K mainGlobals "with_terms" = some (some (.ref f12)))
    (l12 : K.lookup f12 = some ⟨oc12, od12, .func (PySem.W.fnOf "with_terms" "with_terms" (defArgs s_with_terms) (defBody s_with_terms) (defScope s_with_terms) .none kV12 dc12 pm12 an12 cd12 ct12), sl12⟩) (c12 : PySem.W.codeIn K cd12 "with_terms" = true) (k12 : PySem.W.keepIn K (.ref f12) = true)
    {f13 : Addr} {od13 an13 : Option Addr} {sl13 : Array (Option Value)} {oc13 kV13 dc13 pm13 cd13 ct13 : Value} (a13 : PySem.W.nsIn K mainGlobals "parted" = some (some (.ref f13)))
    (l13 : K.lookup f13 = some ⟨oc13, od13, .func (PySem.W.fnOf "parted" "parted" (defArgs s_parted) (defBody s_parted) (defScope s_parted) .none kV13 dc13 pm13 an13 cd13 ct13), sl13⟩) (c13 : PySem.W.codeIn K cd13 "parted" = true) (k13 : PySem.W.keepIn K (.ref f13) = true)
    {f14 : Addr} {od14 an14 : Option Addr} {sl14 : Array (Option Value)} {oc14 kV14 dc14 pm14 cd14 ct14 : Value} (a14 : PySem.W.nsIn K mainGlobals "joined" = some (some (.ref f14)))
    (l14 : K.lookup f14 = some ⟨oc14, od14, .func (PySem.W.fnOf "joined" "joined" (defArgs s_joined) (defBody s_joined) (defScope s_joined) .none kV14 dc14 pm14 an14 cd14 ct14), sl14⟩) (c14 : PySem.W.codeIn K cd14 "joined" = true) (k14 : PySem.W.keepIn K (.ref f14) = true)
    {f15 : Addr} {od15 an15 : Option Addr} {sl15 : Array (Option Value)} {oc15 kV15 dc15 pm15 cd15 ct15 : Value} (a15 : PySem.W.nsIn K mainGlobals "is_filling" = some (some (.ref f15)))
    (l15 : K.lookup f15 = some ⟨oc15, od15, .func (PySem.W.fnOf "is_filling" "is_filling" (defArgs s_is_filling) (defBody s_is_filling) (defScope s_is_filling) .none kV15 dc15 pm15 an15 cd15 ct15), sl15⟩) (c15 : PySem.W.codeIn K cd15 "is_filling" = true) (k15 : PySem.W.keepIn K (.ref f15) = true)
    {f16 : Addr} {od16 an16 : Option Addr} {sl16 : Array (Option Value)} {oc16 kV16 dc16 pm16 cd16 ct16 : Value} (a16 : PySem.W.nsIn K mainGlobals "is_row" = some (some (.ref f16)))
    (l16 : K.lookup f16 = some ⟨oc16, od16, .func (PySem.W.fnOf "is_row" "is_row" (defArgs s_is_row) (defBody s_is_row) (defScope s_is_row) .none kV16 dc16 pm16 an16 cd16 ct16), sl16⟩) (c16 : PySem.W.codeIn K cd16 "is_row" = true) (k16 : PySem.W.keepIn K (.ref f16) = true)
    {f17 : Addr} {od17 an17 : Option Addr} {sl17 : Array (Option Value)} {oc17 kV17 dc17 pm17 cd17 ct17 : Value} (a17 : PySem.W.nsIn K mainGlobals "put_in" = some (some (.ref f17)))
    (l17 : K.lookup f17 = some ⟨oc17, od17, .func (PySem.W.fnOf "put_in" "put_in" (defArgs s_put_in) (defBody s_put_in) (defScope s_put_in) .none kV17 dc17 pm17 an17 cd17 ct17), sl17⟩) (c17 : PySem.W.codeIn K cd17 "put_in" = true) (k17 : PySem.W.keepIn K (.ref f17) = true)
    {f18 : Addr} {od18 an18 : Option Addr} {sl18 : Array (Option Value)} {oc18 kV18 dc18 pm18 cd18 ct18 : Value} (a18 : PySem.W.nsIn K mainGlobals "_law_deck" = some (some (.ref f18)))
    (l18 : K.lookup f18 = some ⟨oc18, od18, .func (PySem.W.fnOf "_law_deck" "_law_deck" (defArgs sDeck) (defBody sDeck) (defScope sDeck) .none kV18 dc18 pm18 an18 cd18 ct18), sl18⟩) (c18 : PySem.W.codeIn K cd18 "_law_deck" = true) (k18 : PySem.W.keepIn K (.ref f18) = true)
    {f19 : Addr} {od19 an19 : Option Addr} {sl19 : Array (Option Value)} {oc19 kV19 dc19 pm19 cd19 ct19 : Value} (a19 : PySem.W.nsIn K mainGlobals "_law_draw" = some (some (.ref f19)))
    (l19 : K.lookup f19 = some ⟨oc19, od19, .func (PySem.W.fnOf "_law_draw" "_law_draw" (defArgs sDraw) (defBody sDraw) (defScope sDraw) .none kV19 dc19 pm19 an19 cd19 ct19), sl19⟩) (c19 : PySem.W.codeIn K cd19 "_law_draw" = true) (k19 : PySem.W.keepIn K (.ref f19) = true)
    {f20 : Addr} {od20 an20 : Option Addr} {sl20 : Array (Option Value)} {oc20 kV20 dc20 pm20 cd20 ct20 : Value} (a20 : PySem.W.nsIn K mainGlobals "_law_pick" = some (some (.ref f20)))
    (l20 : K.lookup f20 = some ⟨oc20, od20, .func (PySem.W.fnOf "_law_pick" "_law_pick" (defArgs s__law_pick) (defBody s__law_pick) (defScope s__law_pick) .none kV20 dc20 pm20 an20 cd20 ct20), sl20⟩) (c20 : PySem.W.codeIn K cd20 "_law_pick" = true) (k20 : PySem.W.keepIn K (.ref f20) = true)
    {f21 : Addr} {od21 an21 : Option Addr} {sl21 : Array (Option Value)} {oc21 kV21 dc21 pm21 cd21 ct21 : Value} (a21 : PySem.W.nsIn K mainGlobals "_law_atom" = some (some (.ref f21)))
    (l21 : K.lookup f21 = some ⟨oc21, od21, .func (PySem.W.fnOf "_law_atom" "_law_atom" (defArgs s__law_atom) (defBody s__law_atom) (defScope s__law_atom) .none kV21 dc21 pm21 an21 cd21 ct21), sl21⟩) (c21 : PySem.W.codeIn K cd21 "_law_atom" = true) (k21 : PySem.W.keepIn K (.ref f21) = true)
    {f22 : Addr} {od22 an22 : Option Addr} {sl22 : Array (Option Value)} {oc22 kV22 dc22 pm22 cd22 ct22 : Value} (a22 : PySem.W.nsIn K mainGlobals "_law_numbers" = some (some (.ref f22)))
    (l22 : K.lookup f22 = some ⟨oc22, od22, .func (PySem.W.fnOf "_law_numbers" "_law_numbers" (defArgs s__law_numbers) (defBody s__law_numbers) (defScope s__law_numbers) .none kV22 dc22 pm22 an22 cd22 ct22), sl22⟩) (c22 : PySem.W.codeIn K cd22 "_law_numbers" = true) (k22 : PySem.W.keepIn K (.ref f22) = true)
    {f23 : Addr} {od23 an23 : Option Addr} {sl23 : Array (Option Value)} {oc23 kV23 dc23 pm23 cd23 ct23 : Value} (a23 : PySem.W.nsIn K mainGlobals "_law_is_unknown" = some (some (.ref f23)))
    (l23 : K.lookup f23 = some ⟨oc23, od23, .func (PySem.W.fnOf "_law_is_unknown" "_law_is_unknown" (defArgs s__law_is_unknown) (defBody s__law_is_unknown) (defScope s__law_is_unknown) .none kV23 dc23 pm23 an23 cd23 ct23), sl23⟩) (c23 : PySem.W.codeIn K cd23 "_law_is_unknown" = true) (k23 : PySem.W.keepIn K (.ref f23) = true)
    {f24 : Addr} {od24 an24 : Option Addr} {sl24 : Array (Option Value)} {oc24 kV24 dc24 pm24 cd24 ct24 : Value} (a24 : PySem.W.nsIn K mainGlobals "_law_is_pair" = some (some (.ref f24)))
    (l24 : K.lookup f24 = some ⟨oc24, od24, .func (PySem.W.fnOf "_law_is_pair" "_law_is_pair" (defArgs s__law_is_pair) (defBody s__law_is_pair) (defScope s__law_is_pair) .none kV24 dc24 pm24 an24 cd24 ct24), sl24⟩) (c24 : PySem.W.codeIn K cd24 "_law_is_pair" = true) (k24 : PySem.W.keepIn K (.ref f24) = true)
    {f25 : Addr} {od25 an25 : Option Addr} {sl25 : Array (Option Value)} {oc25 kV25 dc25 pm25 cd25 ct25 : Value} (a25 : PySem.W.nsIn K mainGlobals "_law_term" = some (some (.ref f25)))
    (l25 : K.lookup f25 = some ⟨oc25, od25, .func (PySem.W.fnOf "_law_term" "_law_term" (defArgs s__law_term) (defBody s__law_term) (defScope s__law_term) .none kV25 dc25 pm25 an25 cd25 ct25), sl25⟩) (c25 : PySem.W.codeIn K cd25 "_law_term" = true) (k25 : PySem.W.keepIn K (.ref f25) = true)
    {f26 : Addr} {od26 an26 : Option Addr} {sl26 : Array (Option Value)} {oc26 kV26 dc26 pm26 cd26 ct26 : Value} (a26 : PySem.W.nsIn K mainGlobals "_law_open" = some (some (.ref f26)))
    (l26 : K.lookup f26 = some ⟨oc26, od26, .func (PySem.W.fnOf "_law_open" "_law_open" (defArgs s__law_open) (defBody s__law_open) (defScope s__law_open) .none kV26 dc26 pm26 an26 cd26 ct26), sl26⟩) (c26 : PySem.W.codeIn K cd26 "_law_open" = true) (k26 : PySem.W.keepIn K (.ref f26) = true)
    {f27 : Addr} {od27 an27 : Option Addr} {sl27 : Array (Option Value)} {oc27 kV27 dc27 pm27 cd27 ct27 : Value} (a27 : PySem.W.nsIn K mainGlobals "_law_put" = some (some (.ref f27)))
    (l27 : K.lookup f27 = some ⟨oc27, od27, .func (PySem.W.fnOf "_law_put" "_law_put" (defArgs s__law_put) (defBody s__law_put) (defScope s__law_put) .none kV27 dc27 pm27 an27 cd27 ct27), sl27⟩) (c27 : PySem.W.codeIn K cd27 "_law_put" = true) (k27 : PySem.W.keepIn K (.ref f27) = true)
    {f28 : Addr} {od28 an28 : Option Addr} {sl28 : Array (Option Value)} {oc28 kV28 dc28 pm28 cd28 ct28 : Value} (a28 : PySem.W.nsIn K mainGlobals "_law_is_term" = some (some (.ref f28)))
    (l28 : K.lookup f28 = some ⟨oc28, od28, .func (PySem.W.fnOf "_law_is_term" "_law_is_term" (defArgs s__law_is_term) (defBody s__law_is_term) (defScope s__law_is_term) .none kV28 dc28 pm28 an28 cd28 ct28), sl28⟩) (c28 : PySem.W.codeIn K cd28 "_law_is_term" = true) (k28 : PySem.W.keepIn K (.ref f28) = true)
    {f29 : Addr} {od29 an29 : Option Addr} {sl29 : Array (Option Value)} {oc29 kV29 dc29 pm29 cd29 ct29 : Value} (a29 : PySem.W.nsIn K mainGlobals "_law_is_filling" = some (some (.ref f29)))
    (l29 : K.lookup f29 = some ⟨oc29, od29, .func (PySem.W.fnOf "_law_is_filling" "_law_is_filling" (defArgs s__law_is_filling) (defBody s__law_is_filling) (defScope s__law_is_filling) .none kV29 dc29 pm29 an29 cd29 ct29), sl29⟩) (c29 : PySem.W.codeIn K cd29 "_law_is_filling" = true) (k29 : PySem.W.keepIn K (.ref f29) = true)
    {f30 : Addr} {od30 an30 : Option Addr} {sl30 : Array (Option Value)} {oc30 kV30 dc30 pm30 cd30 ct30 : Value} (a30 : PySem.W.nsIn K mainGlobals "_law_odd" = some (some (.ref f30)))
    (l30 : K.lookup f30 = some ⟨oc30, od30, .func (PySem.W.fnOf "_law_odd" "_law_odd" (defArgs s__law_odd) (defBody s__law_odd) (defScope s__law_odd) .none kV30 dc30 pm30 an30 cd30 ct30), sl30⟩) (c30 : PySem.W.codeIn K cd30 "_law_odd" = true) (k30 : PySem.W.keepIn K (.ref f30) = true)
    {f31 : Addr} {od31 an31 : Option Addr} {sl31 : Array (Option Value)} {oc31 kV31 dc31 pm31 cd31 ct31 : Value} (a31 : PySem.W.nsIn K mainGlobals "_law_row_bent" = some (some (.ref f31)))
    (l31 : K.lookup f31 = some ⟨oc31, od31, .func (PySem.W.fnOf "_law_row_bent" "_law_row_bent" (defArgs s__law_row_bent) (defBody s__law_row_bent) (defScope s__law_row_bent) .none kV31 dc31 pm31 an31 cd31 ct31), sl31⟩) (c31 : PySem.W.codeIn K cd31 "_law_row_bent" = true) (k31 : PySem.W.keepIn K (.ref f31) = true)
    {f32 : Addr} {od32 an32 : Option Addr} {sl32 : Array (Option Value)} {oc32 kV32 dc32 pm32 cd32 ct32 : Value} (a32 : PySem.W.nsIn K mainGlobals "_law_spoilt" = some (some (.ref f32)))
    (l32 : K.lookup f32 = some ⟨oc32, od32, .func (PySem.W.fnOf "_law_spoilt" "_law_spoilt" (defArgs s__law_spoilt) (defBody s__law_spoilt) (defScope s__law_spoilt) .none kV32 dc32 pm32 an32 cd32 ct32), sl32⟩) (c32 : PySem.W.codeIn K cd32 "_law_spoilt" = true) (k32 : PySem.W.keepIn K (.ref f32) = true)
    {f33 cc33 tb33 : Addr} {od33 an33 : Option Addr} {sl33 : Array (Option Value)} {oc33 kV33 dc33 pm33  ct33 : Value} (a33 : PySem.W.nsIn K mainGlobals "_law_made" = some (some (.ref f33)))
    (l33 : K.lookup f33 = some ⟨oc33, od33, .func (PySem.W.fnOf "_law_made" "_law_made" (defArgs s__law_made) (defBody s__law_made) (defScope s__law_made) .none kV33 dc33 pm33 an33 (.ref cc33) ct33), sl33⟩) (c33 : PySem.W.codeIn K (.ref cc33) "_law_made" = true) (k33 : PySem.W.keepIn K (.ref f33) = true)
    {ov33 : Value} {op33 : Option Addr} {vs33 : Array Value} {sv33 : Array (Option Value)} (lc33 : K.lookup cc33 = some ⟨ov33, op33, .fields vs33, sv33⟩) (p33 : (vs33[11]? : Option Value) = some (.ref tb33)) (u33 : K.lookup tb33 = none) (r33 : ∃ d, (recsOf q).find? (fun e => e.name == ("_law_made" : Str)) = some d)
    {f34 : Addr} {od34 an34 : Option Addr} {sl34 : Array (Option Value)} {oc34 kV34 dc34 pm34 cd34 ct34 : Value} (a34 : PySem.W.nsIn K mainGlobals "_law_near" = some (some (.ref f34)))
    (l34 : K.lookup f34 = some ⟨oc34, od34, .func (PySem.W.fnOf "_law_near" "_law_near" (defArgs s__law_near) (defBody s__law_near) (defScope s__law_near) .none kV34 dc34 pm34 an34 cd34 ct34), sl34⟩) (c34 : PySem.W.codeIn K cd34 "_law_near" = true) (k34 : PySem.W.keepIn K (.ref f34) = true)
    {f35 : Addr} {od35 an35 : Option Addr} {sl35 : Array (Option Value)} {oc35 kV35 dc35 pm35 cd35 ct35 : Value} (a35 : PySem.W.nsIn K mainGlobals "_law_right" = some (some (.ref f35)))
    (l35 : K.lookup f35 = some ⟨oc35, od35, .func (PySem.W.fnOf "_law_right" "_law_right" (defArgs s__law_right) (defBody s__law_right) (defScope s__law_right) .none kV35 dc35 pm35 an35 cd35 ct35), sl35⟩) (c35 : PySem.W.codeIn K cd35 "_law_right" = true) (k35 : PySem.W.keepIn K (.ref f35) = true)
    {f36 : Addr} {od36 an36 : Option Addr} {sl36 : Array (Option Value)} {oc36 kV36 dc36 pm36 cd36 ct36 : Value} (a36 : PySem.W.nsIn K mainGlobals "_law_put_right" = some (some (.ref f36)))
    (l36 : K.lookup f36 = some ⟨oc36, od36, .func (PySem.W.fnOf "_law_put_right" "_law_put_right" (defArgs s__law_put_right) (defBody s__law_put_right) (defScope s__law_put_right) .none kV36 dc36 pm36 an36 cd36 ct36), sl36⟩) (c36 : PySem.W.codeIn K cd36 "_law_put_right" = true) (k36 : PySem.W.keepIn K (.ref f36) = true)
    {f37 : Addr} {od37 an37 : Option Addr} {sl37 : Array (Option Value)} {oc37 kV37 dc37 pm37 cd37 ct37 : Value} (a37 : PySem.W.nsIn K mainGlobals "_law_long" = some (some (.ref f37)))
    (l37 : K.lookup f37 = some ⟨oc37, od37, .func (PySem.W.fnOf "_law_long" "_law_long" (defArgs s__law_long) (defBody s__law_long) (defScope s__law_long) .none kV37 dc37 pm37 an37 cd37 ct37), sl37⟩) (c37 : PySem.W.codeIn K cd37 "_law_long" = true) (k37 : PySem.W.keepIn K (.ref f37) = true)
    {f38 : Addr} {od38 an38 : Option Addr} {sl38 : Array (Option Value)} {oc38 kV38 dc38 pm38 cd38 ct38 : Value} (a38 : PySem.W.nsIn K mainGlobals "_law_long_right" = some (some (.ref f38)))
    (l38 : K.lookup f38 = some ⟨oc38, od38, .func (PySem.W.fnOf "_law_long_right" "_law_long_right" (defArgs s__law_long_right) (defBody s__law_long_right) (defScope s__law_long_right) .none kV38 dc38 pm38 an38 cd38 ct38), sl38⟩) (c38 : PySem.W.codeIn K cd38 "_law_long_right" = true) (k38 : PySem.W.keepIn K (.ref f38) = true)
    {f39 : Addr} {od39 an39 : Option Addr} {sl39 : Array (Option Value)} {oc39 kV39 dc39 pm39 cd39 ct39 : Value} (a39 : PySem.W.nsIn K mainGlobals "law" = some (some (.ref f39)))
    (l39 : K.lookup f39 = some ⟨oc39, od39, .func (PySem.W.fnOf "law" "law" (defArgs s_law) (defBody s_law) (defScope s_law) .none kV39 dc39 pm39 an39 cd39 ct39), sl39⟩) (c39 : PySem.W.codeIn K cd39 "law" = true) (k39 : PySem.W.keepIn K (.ref f39) = true)
    (z_isinstance : PySem.W.nsIn K mainGlobals "isinstance" = some none)
    (z_int : PySem.W.nsIn K mainGlobals "int" = some none)
    (z_bool : PySem.W.nsIn K mainGlobals "bool" = some none)
    (z_str : PySem.W.nsIn K mainGlobals "str" = some none)
    (z_tuple : PySem.W.nsIn K mainGlobals "tuple" = some none)
    (z_list : PySem.W.nsIn K mainGlobals "list" = some none)
    (z_dict : PySem.W.nsIn K mainGlobals "dict" = some none)
    (z_set : PySem.W.nsIn K mainGlobals "set" = some none)
    (z_len : PySem.W.nsIn K mainGlobals "len" = some none)
    (z_all : PySem.W.nsIn K mainGlobals "all" = some none)
    (z_any : PySem.W.nsIn K mainGlobals "any" = some none)
    (z_sum : PySem.W.nsIn K mainGlobals "sum" = some none)
    (z_min : PySem.W.nsIn K mainGlobals "min" = some none)
    (z_max : PySem.W.nsIn K mainGlobals "max" = some none)
    (z_range : PySem.W.nsIn K mainGlobals "range" = some none)
    (z_zip : PySem.W.nsIn K mainGlobals "zip" = some none)
    (z_enumerate : PySem.W.nsIn K mainGlobals "enumerate" = some none)
    (z_reversed : PySem.W.nsIn K mainGlobals "reversed" = some none)
    (z_sorted : PySem.W.nsIn K mainGlobals "sorted" = some none)
    (z_repr : PySem.W.nsIn K mainGlobals "repr" = some none)
    {kt_WORD_LETTERS : Tok} (g_WORD_LETTERS : PySem.W.nsIn K mainGlobals "WORD_LETTERS" = some (some (.int 8 kt_WORD_LETTERS))) :
    ∃ (fd : FuncData) (cs : List (Addr × Addr)) (sp : Sp), (∀ p ∈ cs, PySem.W.CodeHd h p.1 p.2 ∧ h.get? p.2 = some { cls := .none, data := .fields #[] }) ∧ (∀ p ∈ cs, K.lookup p.2 = none) ∧ (∀ (s : Shared) (v : Value), BindsTo s fd ⟨[v], []⟩ [("_law_script", v)]) ∧
      (∀ (H : Hp) (a : Addr) (ns : List Int), ns.length ≤ 63 → (∀ p ∈ cs, H p.2 = some (.tbl #[])) → SqL K H a (ns.map V.int) → sp [.ref a] H (fun v _ => v = .bl true) fun _ _ _ => False) ∧
      ∀ base : Heap, K.In base → base.Ns mainGlobals mg → Sy base → (∀ p ∈ cs, LamX.TabB base mg p.1 p.2) → GOk l.prog w K mg base 68 fa fd ["_law_script"] sp := by
  cases hfa.symm.trans (PySem.W.mg_of X G a39)
  have F1 := fun_mk (st := s_is_whole) l1 c1 k1
  have b1 := F1.binds (ps := ["thing"]) fun _ _ _ _ _ _ us hl => match us, hl with | [_], _ => rfl
  have d_is_whole : Dfn K mg "is_whole" s_is_whole ["thing"] := ⟨_, _, F1, PySem.W.mg_of X G a1, b1⟩
  have x_is_whole := F1
  have F2 := fun_mk (st := s_is_tuple_of) l2 c2 k2
  have b2 := F2.binds (ps := ["thing", "many"]) fun _ _ _ _ _ _ us hl => match us, hl with | [_, _], _ => rfl
  have d_is_tuple_of : Dfn K mg "is_tuple_of" s_is_tuple_of ["thing", "many"] := ⟨_, _, F2, PySem.W.mg_of X G a2, b2⟩
  have x_is_tuple_of := F2
  have F3 := fun_mk (st := s_is_word) l3 c3 k3
  have b3 := F3.binds (ps := ["thing"]) fun _ _ _ _ _ _ us hl => match us, hl with | [_], _ => rfl
  have d_is_word : Dfn K mg "is_word" s_is_word ["thing"] := ⟨_, _, F3, PySem.W.mg_of X G a3, b3⟩
  have x_is_word := F3
  have F4 := fun_mk (st := s_is_atom) l4 c4 k4
  have b4 := F4.binds (ps := ["thing"]) fun _ _ _ _ _ _ us hl => match us, hl with | [_], _ => rfl
  have d_is_atom : Dfn K mg "is_atom" s_is_atom ["thing"] := ⟨_, _, F4, PySem.W.mg_of X G a4, b4⟩
  have x_is_atom := F4
  have F5 := fun_mk (st := s_is_marked) l5 c5 k5
  have b5 := F5.binds (ps := ["thing"]) fun _ _ _ _ _ _ us hl => match us, hl with | [_], _ => rfl
  have d_is_marked : Dfn K mg "is_marked" s_is_marked ["thing"] := ⟨_, _, F5, PySem.W.mg_of X G a5, b5⟩
  have x_is_marked := F5
  have F6 := fun_mk (st := s_is_unknown) l6 c6 k6
  have b6 := F6.binds (ps := ["thing"]) fun _ _ _ _ _ _ us hl => match us, hl with | [_], _ => rfl
  have d_is_unknown : Dfn K mg "is_unknown" s_is_unknown ["thing"] := ⟨_, _, F6, PySem.W.mg_of X G a6, b6⟩
  have x_is_unknown := F6
  have F7 := fun_mk (st := s_is_pair) l7 c7 k7
  have b7 := F7.binds (ps := ["thing"]) fun _ _ _ _ _ _ us hl => match us, hl with | [_], _ => rfl
  have d_is_pair : Dfn K mg "is_pair" s_is_pair ["thing"] := ⟨_, _, F7, PySem.W.mg_of X G a7, b7⟩
  have x_is_pair := F7
  have F8 := fun_mk (st := s_is_leaf) l8 c8 k8
  have b8 := F8.binds (ps := ["thing"]) fun _ _ _ _ _ _ us hl => match us, hl with | [_], _ => rfl
  have d_is_leaf : Dfn K mg "is_leaf" s_is_leaf ["thing"] := ⟨_, _, F8, PySem.W.mg_of X G a8, b8⟩
  have x_is_leaf := F8
  have F9 := fun_mk (st := s_is_term) l9 c9 k9
  have b9 := F9.binds (ps := ["thing"]) fun _ _ _ _ _ _ us hl => match us, hl with | [_], _ => rfl
  have d_is_term : Dfn K mg "is_term" s_is_term ["thing"] := ⟨_, _, F9, PySem.W.mg_of X G a9, b9⟩
  have x_is_term := F9
  have F10 := fun_mk (st := s_leaves_of) l10 c10 k10
  have b10 := F10.binds (ps := ["things"]) fun _ _ _ _ _ _ us hl => match us, hl with | [_], _ => rfl
  have d_leaves_of : Dfn K mg "leaves_of" s_leaves_of ["things"] := ⟨_, _, F10, PySem.W.mg_of X G a10, b10⟩
  have x_leaves_of := F10
  have F11 := fun_mk (st := s_unknowns_of) l11 c11 k11
  have b11 := F11.binds (ps := ["terms"]) fun _ _ _ _ _ _ us hl => match us, hl with | [_], _ => rfl
  have d_unknowns_of : Dfn K mg "unknowns_of" s_unknowns_of ["terms"] := ⟨_, _, F11, PySem.W.mg_of X G a11, b11⟩
  have x_unknowns_of := F11
  have F12 := fun_mk (st := s_with_terms) l12 c12 k12
  have b12 := F12.binds (ps := ["term", "table"]) fun _ _ _ _ _ _ us hl => match us, hl with | [_, _], _ => rfl
  have d_with_terms : Dfn K mg "with_terms" s_with_terms ["term", "table"] := ⟨_, _, F12, PySem.W.mg_of X G a12, b12⟩
  have x_with_terms := F12
  have F13 := fun_mk (st := s_parted) l13 c13 k13
  have b13 := F13.binds (ps := ["term"]) fun _ _ _ _ _ _ us hl => match us, hl with | [_], _ => rfl
  have d_parted : Dfn K mg "parted" s_parted ["term"] := ⟨_, _, F13, PySem.W.mg_of X G a13, b13⟩
  have x_parted := F13
  have F14 := fun_mk (st := s_joined) l14 c14 k14
  have b14 := F14.binds (ps := ["heads", "end"]) fun _ _ _ _ _ _ us hl => match us, hl with | [_, _], _ => rfl
  have d_joined : Dfn K mg "joined" s_joined ["heads", "end"] := ⟨_, _, F14, PySem.W.mg_of X G a14, b14⟩
  have x_joined := F14
  have F15 := fun_mk (st := s_is_filling) l15 c15 k15
  have b15 := F15.binds (ps := ["thing"]) fun _ _ _ _ _ _ us hl => match us, hl with | [_], _ => rfl
  have d_is_filling : Dfn K mg "is_filling" s_is_filling ["thing"] := ⟨_, _, F15, PySem.W.mg_of X G a15, b15⟩
  have x_is_filling := F15
  have F16 := fun_mk (st := s_is_row) l16 c16 k16
  have b16 := F16.binds (ps := ["thing"]) fun _ _ _ _ _ _ us hl => match us, hl with | [_], _ => rfl
  have d_is_row : Dfn K mg "is_row" s_is_row ["thing"] := ⟨_, _, F16, PySem.W.mg_of X G a16, b16⟩
  have x_is_row := F16
  have F17 := fun_mk (st := s_put_in) l17 c17 k17
  have b17 := F17.binds (ps := ["term", "filling"]) fun _ _ _ _ _ _ us hl => match us, hl with | [_, _], _ => rfl
  have d_put_in : Dfn K mg "put_in" s_put_in ["term", "filling"] := ⟨_, _, F17, PySem.W.mg_of X G a17, b17⟩
  have x_put_in := F17
  have F18 := fun_mk (st := sDeck) l18 c18 k18
  have b18 := F18.binds (ps := ["_law_script"]) fun _ _ _ _ _ _ us hl => match us, hl with | [_], _ => rfl
  have d__law_deck : Dfn K mg "_law_deck" sDeck ["_law_script"] := ⟨_, _, F18, PySem.W.mg_of X G a18, b18⟩
  have x__law_deck := F18
  have F19 := fun_mk (st := sDraw) l19 c19 k19
  have b19 := F19.binds (ps := ["_law_deck_here", "_law_most"]) fun _ _ _ _ _ _ us hl => match us, hl with | [_, _], _ => rfl
  have d__law_draw : Dfn K mg "_law_draw" sDraw ["_law_deck_here", "_law_most"] := ⟨_, _, F19, PySem.W.mg_of X G a19, b19⟩
  have x__law_draw := F19
  have F20 := fun_mk (st := s__law_pick) l20 c20 k20
  have b20 := F20.binds (ps := ["_law_deck_here", "_law_some"]) fun _ _ _ _ _ _ us hl => match us, hl with | [_, _], _ => rfl
  have d__law_pick : Dfn K mg "_law_pick" s__law_pick ["_law_deck_here", "_law_some"] := ⟨_, _, F20, PySem.W.mg_of X G a20, b20⟩
  have x__law_pick := F20
  have F21 := fun_mk (st := s__law_atom) l21 c21 k21
  have b21 := F21.binds (ps := ["_law_deck_here"]) fun _ _ _ _ _ _ us hl => match us, hl with | [_], _ => rfl
  have d__law_atom : Dfn K mg "_law_atom" s__law_atom ["_law_deck_here"] := ⟨_, _, F21, PySem.W.mg_of X G a21, b21⟩
  have x__law_atom := F21
  have F22 := fun_mk (st := s__law_numbers) l22 c22 k22
  have b22 := F22.binds (ps := ["_law_deck_here"]) fun _ _ _ _ _ _ us hl => match us, hl with | [_], _ => rfl
  have d__law_numbers : Dfn K mg "_law_numbers" s__law_numbers ["_law_deck_here"] := ⟨_, _, F22, PySem.W.mg_of X G a22, b22⟩
  have x__law_numbers := F22
  have F23 := fun_mk (st := s__law_is_unknown) l23 c23 k23
  have b23 := F23.binds (ps := ["_law_term_here"]) fun _ _ _ _ _ _ us hl => match us, hl with | [_], _ => rfl
  have d__law_is_unknown : Dfn K mg "_law_is_unknown" s__law_is_unknown ["_law_term_here"] := ⟨_, _, F23, PySem.W.mg_of X G a23, b23⟩
  have x__law_is_unknown := F23
  have F24 := fun_mk (st := s__law_is_pair) l24 c24 k24
  have b24 := F24.binds (ps := ["_law_term_here"]) fun _ _ _ _ _ _ us hl => match us, hl with | [_], _ => rfl
  have d__law_is_pair : Dfn K mg "_law_is_pair" s__law_is_pair ["_law_term_here"] := ⟨_, _, F24, PySem.W.mg_of X G a24, b24⟩
  have x__law_is_pair := F24
  have F25 := fun_mk (st := s__law_term) l25 c25 k25
  have b25 := F25.binds (ps := ["_law_deck_here", "_law_numbers_here", "_law_room", "_law_open_ones"]) fun _ _ _ _ _ _ us hl => match us, hl with | [_, _, _, _], _ => rfl
  have d__law_term : Dfn K mg "_law_term" s__law_term ["_law_deck_here", "_law_numbers_here", "_law_room", "_law_open_ones"] := ⟨_, _, F25, PySem.W.mg_of X G a25, b25⟩
  have x__law_term := F25
  have F26 := fun_mk (st := s__law_open) l26 c26 k26
  have b26 := F26.binds (ps := ["_law_term_here"]) fun _ _ _ _ _ _ us hl => match us, hl with | [_], _ => rfl
  have d__law_open : Dfn K mg "_law_open" s__law_open ["_law_term_here"] := ⟨_, _, F26, PySem.W.mg_of X G a26, b26⟩
  have x__law_open := F26
  have F27 := fun_mk (st := s__law_put) l27 c27 k27
  have b27 := F27.binds (ps := ["_law_term_here", "_law_rows"]) fun _ _ _ _ _ _ us hl => match us, hl with | [_, _], _ => rfl
  have d__law_put : Dfn K mg "_law_put" s__law_put ["_law_term_here", "_law_rows"] := ⟨_, _, F27, PySem.W.mg_of X G a27, b27⟩
  have x__law_put := F27
  have F28 := fun_mk (st := s__law_is_term) l28 c28 k28
  have b28 := F28.binds (ps := ["_law_thing"]) fun _ _ _ _ _ _ us hl => match us, hl with | [_], _ => rfl
  have d__law_is_term : Dfn K mg "_law_is_term" s__law_is_term ["_law_thing"] := ⟨_, _, F28, PySem.W.mg_of X G a28, b28⟩
  have x__law_is_term := F28
  have F29 := fun_mk (st := s__law_is_filling) l29 c29 k29
  have b29 := F29.binds (ps := ["_law_thing"]) fun _ _ _ _ _ _ us hl => match us, hl with | [_], _ => rfl
  have d__law_is_filling : Dfn K mg "_law_is_filling" s__law_is_filling ["_law_thing"] := ⟨_, _, F29, PySem.W.mg_of X G a29, b29⟩
  have x__law_is_filling := F29
  have F30 := fun_mk (st := s__law_odd) l30 c30 k30
  have b30 := F30.binds (ps := ["_law_deck_here"]) fun _ _ _ _ _ _ us hl => match us, hl with | [_], _ => rfl
  have d__law_odd : Dfn K mg "_law_odd" s__law_odd ["_law_deck_here"] := ⟨_, _, F30, PySem.W.mg_of X G a30, b30⟩
  have x__law_odd := F30
  have F31 := fun_mk (st := s__law_row_bent) l31 c31 k31
  have b31 := F31.binds (ps := ["_law_deck_here", "_law_thing"]) fun _ _ _ _ _ _ us hl => match us, hl with | [_, _], _ => rfl
  have d__law_row_bent : Dfn K mg "_law_row_bent" s__law_row_bent ["_law_deck_here", "_law_thing"] := ⟨_, _, F31, PySem.W.mg_of X G a31, b31⟩
  have x__law_row_bent := F31
  have F32 := fun_mk (st := s__law_spoilt) l32 c32 k32
  have b32 := F32.binds (ps := ["_law_deck_here", "_law_thing", "_law_deep_here"]) fun _ _ _ _ _ _ us hl => match us, hl with | [_, _, _], _ => rfl
  have d__law_spoilt : Dfn K mg "_law_spoilt" s__law_spoilt ["_law_deck_here", "_law_thing", "_law_deep_here"] := ⟨_, _, F32, PySem.W.mg_of X G a32, b32⟩
  have x__law_spoilt := F32
  have F33 := fun_mk (st := s__law_made) l33 c33 k33
  have b33 := F33.binds (ps := ["_law_deck_here"]) fun _ _ _ _ _ _ us hl => match us, hl with | [_], _ => rfl
  have d__law_made : DfnC K mg "_law_made" s__law_made ["_law_deck_here"] (.ref cc33) := ⟨_, _, F33, PySem.W.mg_of X G a33, b33, rfl⟩
  have x__law_made := F33
  have g33 : PySem.W.tabIn K "_law_made" = some (cc33, tb33) := by simp only [PySem.W.tabIn, a33, l33, lc33, p33]
  obtain ⟨rd33, re33⟩ := r33
  have th33 := tt "_law_made" rd33 cc33 tb33 re33 g33
  have F34 := fun_mk (st := s__law_near) l34 c34 k34
  have b34 := F34.binds (ps := ["_law_deck_here", "_law_filling"]) fun _ _ _ _ _ _ us hl => match us, hl with | [_, _], _ => rfl
  have d__law_near : Dfn K mg "_law_near" s__law_near ["_law_deck_here", "_law_filling"] := ⟨_, _, F34, PySem.W.mg_of X G a34, b34⟩
  have x__law_near := F34
  have F35 := fun_mk (st := s__law_right) l35 c35 k35
  have b35 := F35.binds (ps := ["_law_thing"]) fun _ _ _ _ _ _ us hl => match us, hl with | [_], _ => rfl
  have d__law_right : Dfn K mg "_law_right" s__law_right ["_law_thing"] := ⟨_, _, F35, PySem.W.mg_of X G a35, b35⟩
  have x__law_right := F35
  have F36 := fun_mk (st := s__law_put_right) l36 c36 k36
  have b36 := F36.binds (ps := ["_law_deck_here", "_law_filling"]) fun _ _ _ _ _ _ us hl => match us, hl with | [_, _], _ => rfl
  have d__law_put_right : Dfn K mg "_law_put_right" s__law_put_right ["_law_deck_here", "_law_filling"] := ⟨_, _, F36, PySem.W.mg_of X G a36, b36⟩
  have x__law_put_right := F36
  have F37 := fun_mk (st := s__law_long) l37 c37 k37
  have b37 := F37.binds (ps := ["_law_deck_here", "_law_many"]) fun _ _ _ _ _ _ us hl => match us, hl with | [_, _], _ => rfl
  have d__law_long : Dfn K mg "_law_long" s__law_long ["_law_deck_here", "_law_many"] := ⟨_, _, F37, PySem.W.mg_of X G a37, b37⟩
  have x__law_long := F37
  have F38 := fun_mk (st := s__law_long_right) l38 c38 k38
  have b38 := F38.binds (ps := ["_law_deck_here"]) fun _ _ _ _ _ _ us hl => match us, hl with | [_], _ => rfl
  have d__law_long_right : Dfn K mg "_law_long_right" s__law_long_right ["_law_deck_here"] := ⟨_, _, F38, PySem.W.mg_of X G a38, b38⟩
  have x__law_long_right := F38
  have F39 := fun_mk (st := s_law) l39 c39 k39
  have m_isinstance := PySem.W.mg_none_of X G z_isinstance
  have m_int := PySem.W.mg_none_of X G z_int
  have m_bool := PySem.W.mg_none_of X G z_bool
  have m_str := PySem.W.mg_none_of X G z_str
  have m_tuple := PySem.W.mg_none_of X G z_tuple
  have m_list := PySem.W.mg_none_of X G z_list
  have m_dict := PySem.W.mg_none_of X G z_dict
  have m_set := PySem.W.mg_none_of X G z_set
  have m_len := PySem.W.mg_none_of X G z_len
  have m_all := PySem.W.mg_none_of X G z_all
  have m_any := PySem.W.mg_none_of X G z_any
  have m_sum := PySem.W.mg_none_of X G z_sum
  have m_min := PySem.W.mg_none_of X G z_min
  have m_max := PySem.W.mg_none_of X G z_max
  have m_range := PySem.W.mg_none_of X G z_range
  have m_zip := PySem.W.mg_none_of X G z_zip
  have m_enumerate := PySem.W.mg_none_of X G z_enumerate
  have m_reversed := PySem.W.mg_none_of X G z_reversed
  have m_sorted := PySem.W.mg_none_of X G z_sorted
  have m_repr := PySem.W.mg_none_of X G z_repr
  have v_WORD_LETTERS := PySem.W.mg_of X G g_WORD_LETTERS
  refine ⟨PySem.W.fnOf "law" "law" (defArgs s_law) (defBody s_law) (defScope s_law) .none kV39 dc39 pm39 an39 cd39 ct39, [(cc33, tb33)], spLawT K [(tb33, qMade)], ?_, ?_, fun s v => .of_eq rfl, fun H a ns _ hH hS => ⟨a, ns, rfl, hS, ?_, fun _ => rfl⟩, fun base _ _ sy TBs => ?_⟩
  · intro p hp
    simp only [List.mem_cons, List.not_mem_nil, or_false] at hp
    subst hp
    exact th33
  · intro p hp
    simp only [List.mem_cons, List.not_mem_nil, or_false] at hp
    subst hp
    exact u33
  · intro p hp
    simp only [List.mem_cons, List.not_mem_nil, or_false] at hp
    subst hp
    exact hH (cc33, tb33) (by simp)
  have TB__law_made := TBs (cc33, tb33) (by simp)
  have B : Bl mg := ⟨m_isinstance, m_int, m_bool, m_str, m_tuple, m_list, m_dict, m_set, m_len, m_all, m_any, m_sum, m_min, m_max, m_range, m_zip, m_enumerate, m_reversed, m_sorted, m_repr⟩
  have FL := F39
  have qWh := c_is_whole (P := l.prog) (w := w) (base := base) (n := 0) B d_is_whole
  have qTo := c_is_tuple_of (P := l.prog) (w := w) (base := base) (n := 0) B d_is_tuple_of
  have qWd := c_is_word (P := l.prog) (w := w) (base := base) (n := 0) B v_WORD_LETTERS d_is_word
  have qAt := c_is_atom (n := 1) d_is_atom qWd qWh
  have qMk := c_is_marked (n := 1) B d_is_marked qTo
  have qPr := c_is_pair (n := 1) B d_is_pair qTo
  have qUk := c_is_unknown (n := 2) B d_is_unknown qMk (qWh.mono (by decide))
  have qLf := c_is_leaf (n := 3) d_is_leaf (qAt.mono (by decide)) qUk
  have qLs := c_leaves_of (n := 2) B d_leaves_of qPr
  have qTm := c_is_term (n := 4) B d_is_term (qLs.mono (by decide)) qLf
  have qGl := g_leaves_of (n := 2) B d_leaves_of qPr
  have qGu := g_unknowns_of (n := 3) B d_unknowns_of qGl qUk
  have qRw := c_is_row (n := 5) B d_is_row (qTo.mono (by decide)) (qWh.mono (by decide)) qTm (qUk.mono (by decide))
  have qFi := c_is_filling (n := 6) B d_is_filling qRw (qGu.mono (by decide))
  have qPa := c_parted (n := 2) B d_parted qPr
  have qJo := c_joined (P := l.prog) (w := w) (base := base) (n := 2) B d_joined
  have qWt := c_with_terms (n := 3) d_with_terms qPa (qMk.mono (by decide)) qJo 60
  have qPu := c_put_in (n := 64) 60 B d_put_in qWt
  have lDe : Cal l.prog w K mg base 1 "_law_deck" ["_law_script"] (spDeck K) := Cal.of d__law_deck fun f fd F => gok_fn (ok_deck (k := 0) F m_list)
  have lDr := c__law_draw (P := l.prog) (w := w) (base := base) (n := 0) d__law_draw
  have lUn := c__law_is_unknown (P := l.prog) (w := w) (base := base) (n := 0) B d__law_is_unknown
  have lPa := c__law_is_pair (P := l.prog) (w := w) (base := base) (n := 0) B d__law_is_pair
  have lPi := c__law_pick (n := 1) B d__law_pick lDr
  have lNu := c__law_numbers (n := 1) B d__law_numbers lDr
  have lAt := c__law_atom (n := 2) B d__law_atom (lDr.mono (by decide)) lPi
  have lTe := c__law_term (n := 3) B d__law_term (lDr.mono (by decide)) (lPi.mono (by decide)) lAt 15 (by decide)
  have lOp := c__law_open (n := 1) B d__law_open lUn lPa 62 (by decide)
  have lPu := c__law_put (n := 1) B d__law_put lUn lPa 62 (by decide)
  have lIt := c__law_is_term (P := l.prog) (w := w) (base := base) (n := 0) sy B d__law_is_term
  have lIf := c__law_is_filling (n := 64) sy B d__law_is_filling (lIt.mono (by decide)) (lUn.mono (by decide)) lOp
  have lOd := c__law_odd (n := 2) B d__law_odd lPi
  have lBe := c__law_row_bent (n := 3) B d__law_row_bent (lDr.mono (by decide)) lOd
  have lSp := c__law_spoilt (n := 4) B d__law_spoilt (lDr.mono (by decide)) (lOd.mono (by decide)) lBe 7
  have lMa := c__law_made (n := 19) sy B TB__law_made d__law_made (lNu.mono (by decide)) (lDr.mono (by decide)) (lPi.mono (by decide)) lTe (lUn.mono (by decide))
  have lNe := c__law_near (n := 2) B d__law_near (lDr.mono (by decide)) lPi
  have lRi := c__law_right (n := 65) sy B d__law_right (qFi.mono (by decide)) lIf
  have lPr := c__law_put_right (n := 65) sy B d__law_put_right (lDr.mono (by decide)) (lTe.mono (by decide)) qPu (lPu.mono (by decide))
  have lLo := c__law_long (n := 19) sy B d__law_long (lDr.mono (by decide)) (lPi.mono (by decide)) lTe (lUn.mono (by decide))
  have lLr := c__law_long_right (n := 66) B d__law_long_right (lDr.mono (by decide)) (lLo.mono (by decide)) lPr lRi (qFi.mono (by decide))
  exact ok_law (n := 67) B FL (lDe.mono (by decide)) (lDr.mono (by decide)) lLr (lMa.mono (by decide)) (qFi.mono (by decide)) (lPr.mono (by decide)) (lSp.mono (by decide)) (lRi.mono (by decide)) (lNe.mono (by decide))
end Kr

open PySem PySem.W PyProof.Rows
set_option Elab.async false
set_option maxRecDepth 100000 in
set_option maxHeartbeats 0 in
theorem PySem.Challenge.cw_fairsearch_k11_what_is_a_filling_holds : PySem.Challenge.rw_fairsearch_k11_what_is_a_filling.Holds := by
  w_on; o_law; k_head; (case hw => w_witness2)
  k_fill
  refine Kr.gwalkT (l := PySem.Challenge.rw_fairsearch_k11_what_is_a_filling) (n := 63) (k := 68) (x := "_law_script") rfl (by decide) rfl ⟨rfl, by decide, by decide⟩ (by decide +kernel) (fun w h Y => PySem.W.km_in_of Y) ?F
  case F =>
    intro w mg fa h KX G hmg tt
    refine' Kr.all_mk tt KX G hmg ?a1 ?l1 ?c1 ?k1 ?a2 ?l2 ?c2 ?k2 ?a3 ?l3 ?c3 ?k3 ?a4 ?l4 ?c4 ?k4 ?a5 ?l5 ?c5 ?k5 ?a6 ?l6 ?c6 ?k6 ?a7 ?l7 ?c7 ?k7 ?a8 ?l8 ?c8 ?k8 ?a9 ?l9 ?c9 ?k9 ?a10 ?l10 ?c10 ?k10 ?a11 ?l11 ?c11 ?k11 ?a12 ?l12 ?c12 ?k12 ?a13 ?l13 ?c13 ?k13 ?a14 ?l14 ?c14 ?k14 ?a15 ?l15 ?c15 ?k15 ?a16 ?l16 ?c16 ?k16 ?a17 ?l17 ?c17 ?k17 ?a18 ?l18 ?c18 ?k18 ?a19 ?l19 ?c19 ?k19 ?a20 ?l20 ?c20 ?k20 ?a21 ?l21 ?c21 ?k21 ?a22 ?l22 ?c22 ?k22 ?a23 ?l23 ?c23 ?k23 ?a24 ?l24 ?c24 ?k24 ?a25 ?l25 ?c25 ?k25 ?a26 ?l26 ?c26 ?k26 ?a27 ?l27 ?c27 ?k27 ?a28 ?l28 ?c28 ?k28 ?a29 ?l29 ?c29 ?k29 ?a30 ?l30 ?c30 ?k30 ?a31 ?l31 ?c31 ?k31 ?a32 ?l32 ?c32 ?k32 ?a33 ?l33 ?c33 ?k33 ?lc33 ?p33 ?u33 ?r33 ?a34 ?l34 ?c34 ?k34 ?a35 ?l35 ?c35 ?k35 ?a36 ?l36 ?c36 ?k36 ?a37 ?l37 ?c37 ?k37 ?a38 ?l38 ?c38 ?k38 ?a39 ?l39 ?c39 ?k39 ?z_isinstance ?z_int ?z_bool ?z_str ?z_tuple ?z_list ?z_dict ?z_set ?z_len ?z_all ?z_any ?z_sum ?z_min ?z_max ?z_range ?z_zip ?z_enumerate ?z_reversed ?z_sorted ?z_repr ?g_WORD_LETTERS
    (case a1 => k_is)
    (case l1 => k_is)
    (case c1 => k_is)
    (case k1 => k_is)
    (case a2 => k_is)
    (case l2 => k_is)
    (case c2 => k_is)
    (case k2 => k_is)
    (case a3 => k_is)
    (case l3 => k_is)
    (case c3 => k_is)
    (case k3 => k_is)
    (case a4 => k_is)
    (case l4 => k_is)
    (case c4 => k_is)
    (case k4 => k_is)
    (case a5 => k_is)
    (case l5 => k_is)
    (case c5 => k_is)
    (case k5 => k_is)
    (case a6 => k_is)
    (case l6 => k_is)
    (case c6 => k_is)
    (case k6 => k_is)
    (case a7 => k_is)
    (case l7 => k_is)
    (case c7 => k_is)
    (case k7 => k_is)
    (case a8 => k_is)
    (case l8 => k_is)
    (case c8 => k_is)
    (case k8 => k_is)
    (case a9 => k_is)
    (case l9 => k_is)
    (case c9 => k_is)
    (case k9 => k_is)
    (case a10 => k_is)
    (case l10 => k_is)
    (case c10 => k_is)
    (case k10 => k_is)
    (case a11 => k_is)
    (case l11 => k_is)
    (case c11 => k_is)
    (case k11 => k_is)
    (case a12 => k_is)
    (case l12 => k_is)
    (case c12 => k_is)
    (case k12 => k_is)
    (case a13 => k_is)
    (case l13 => k_is)
    (case c13 => k_is)
    (case k13 => k_is)
    (case a14 => k_is)
    (case l14 => k_is)
    (case c14 => k_is)
    (case k14 => k_is)
    (case a15 => k_is)
    (case l15 => k_is)
    (case c15 => k_is)
    (case k15 => k_is)
    (case a16 => k_is)
    (case l16 => k_is)
    (case c16 => k_is)
    (case k16 => k_is)
    (case a17 => k_is)
    (case l17 => k_is)
    (case c17 => k_is)
    (case k17 => k_is)
    (case a18 => k_is)
    (case l18 => k_is)
    (case c18 => k_is)
    (case k18 => k_is)
    (case a19 => k_is)
    (case l19 => k_is)
    (case c19 => k_is)
    (case k19 => k_is)
    (case a20 => k_is)
    (case l20 => k_is)
    (case c20 => k_is)
    (case k20 => k_is)
    (case a21 => k_is)
    (case l21 => k_is)
    (case c21 => k_is)
    (case k21 => k_is)
    (case a22 => k_is)
    (case l22 => k_is)
    (case c22 => k_is)
    (case k22 => k_is)
    (case a23 => k_is)
    (case l23 => k_is)
    (case c23 => k_is)
    (case k23 => k_is)
    (case a24 => k_is)
    (case l24 => k_is)
    (case c24 => k_is)
    (case k24 => k_is)
    (case a25 => k_is)
    (case l25 => k_is)
    (case c25 => k_is)
    (case k25 => k_is)
    (case a26 => k_is)
    (case l26 => k_is)
    (case c26 => k_is)
    (case k26 => k_is)
    (case a27 => k_is)
    (case l27 => k_is)
    (case c27 => k_is)
    (case k27 => k_is)
    (case a28 => k_is)
    (case l28 => k_is)
    (case c28 => k_is)
    (case k28 => k_is)
    (case a29 => k_is)
    (case l29 => k_is)
    (case c29 => k_is)
    (case k29 => k_is)
    (case a30 => k_is)
    (case l30 => k_is)
    (case c30 => k_is)
    (case k30 => k_is)
    (case a31 => k_is)
    (case l31 => k_is)
    (case c31 => k_is)
    (case k31 => k_is)
    (case a32 => k_is)
    (case l32 => k_is)
    (case c32 => k_is)
    (case k32 => k_is)
    (case a33 => k_is)
    (case l33 => k_is)
    (case c33 => k_is)
    (case k33 => k_is)
    (case lc33 => k_is)
    (case p33 => exact rfl)
    (case u33 => kernel_rfl)
    (case r33 => exact ⟨_, rfl⟩)
    (case a34 => k_is)
    (case l34 => k_is)
    (case c34 => k_is)
    (case k34 => k_is)
    (case a35 => k_is)
    (case l35 => k_is)
    (case c35 => k_is)
    (case k35 => k_is)
    (case a36 => k_is)
    (case l36 => k_is)
    (case c36 => k_is)
    (case k36 => k_is)
    (case a37 => k_is)
    (case l37 => k_is)
    (case c37 => k_is)
    (case k37 => k_is)
    (case a38 => k_is)
    (case l38 => k_is)
    (case c38 => k_is)
    (case k38 => k_is)
    (case a39 => k_is)
    (case l39 => k_is)
    (case c39 => k_is)
    (case k39 => k_is)
    (case z_isinstance => k_is)
    (case z_int => k_is)
    (case z_bool => k_is)
    (case z_str => k_is)
    (case z_tuple => k_is)
    (case z_list => k_is)
    (case z_dict => k_is)
    (case z_set => k_is)
    (case z_len => k_is)
    (case z_all => k_is)
    (case z_any => k_is)
    (case z_sum => k_is)
    (case z_min => k_is)
    (case z_max => k_is)
    (case z_range => k_is)
    (case z_zip => k_is)
    (case z_enumerate => k_is)
    (case z_reversed => k_is)
    (case z_sorted => k_is)
    (case z_repr => k_is)
    (case g_WORD_LETTERS => k_is)

