import PyProof.Rows.All
import Wide.All
import OpenK.AllK
import Wide.FinOn
import HandS.ForMost
import HandS.Rev
import HandS.Conv
import KE.KDictList
import HandS.DictComp
import HandS.SetKeys
import HandS.Style
import KE.GoesEnum
import HandS.IsInst
import HandS.Wide
import HandS.Flow
import HandS.More
import PyProof.ReprRoads
import PySem.Challenge.RW_fairsearch_k03_renamed
set_option Elab.async false
set_option linter.all false
set_option maxRecDepth 100000
set_option maxHeartbeats 2000000
namespace Ksec
open PySem PySem.Spec PyProof.Rows L2
section
variable {prog : Program} {w : World} {A : Around} {E : Value → Shared → Prop} {s : Shared}
theorem rt_nolen : typeLookup (.type "reversed") "__len__" = pure none := by
  rw [typeLookup_type, builtinLookup_eq_fast] ; kernel_rfl
theorem rt_hint : typeLookup (.type "reversed") "__length_hint__" = pure (some (.builtin "reversed.__length_hint__")) := by
  rw [typeLookup_type, builtinLookup_eq_fast] ; kernel_rfl
theorem walks_rt (hh : A.handled = none) (it t : Addr) (hne : t ≠ it) (items : Array Value) (hsz : items.size ≤ sizeLine) :
    Walks prog w A it [it, t] [it] items.size (fun i v => items[items.size - 1 - i]? = some v) (fun i h => i ≤ items.size ∧ RT.IsRt h it t ((items.size : Int) - 1 - (i : Nat)) ∧ IsTup h t items) where
  sub := fun b hb => by simp at hb; simp [hb]
  frame := fun i h h' st k => ⟨st.1, st.2.1.at fun o e => k it (by simp) o e, by
    obtain ⟨o, e, r⟩ := st.2.2
    exact ⟨o, k t (by simp) o e, r⟩⟩
  item := fun i s Q E hi st hQ => by
    obtain ⟨h1, h2, h3⟩ := st
    have e1 : (items.size : Int) - 1 - ((i : Nat) : Int) = ((items.size - 1 - i : Nat) : Int) := by omega
    rw [e1] at h2
    have hx : items[items.size - 1 - i]? = some items[items.size - 1 - i] := Array.getElem?_eq_getElem (by omega)
    refine RT.next_rt_item h2 h3 hx hsz fun h' st' sb => ?_
    have e2 : ((items.size - 1 - i : Nat) : Int) - 1 = (items.size : Int) - 1 - ((i + 1 : Nat) : Int) := by omega
    rw [e2] at st'
    refine hQ _ h' _ hx ⟨hi, st', ?_⟩ fun b o hb e => (sb.2 b (fun z => hb (by simp [z]))).trans e
    obtain ⟨o, e, r⟩ := h3
    exact ⟨o, (sb.2 t hne).trans e, r⟩
  done := fun s Q E st hQ => by
    obtain ⟨h1, h2, h3⟩ := st
    have e1 : (items.size : Int) - 1 - ((items.size : Nat) : Int) = -1 := by omega
    rw [e1] at h2
    exact RT.next_rt_end hh h2 fun h' eb => hQ h' s.toks fun b o hb e => eb b o (fun z => hb (by simp [z])) e
  self := fun i s Q E st hQ => RT.iter_rt st.2.1 hQ
theorem slot_rt_hint : Slot "reversed" "__length_hint__" "reversed.__length_hint__" := .of (owner := "reversed") (n := "__length_hint__") rt_hint (by decide +kernel) (by decide +kernel)
  (by decide +kernel) (by first | exact .inl (by decide +kernel) | exact .inr (by decide +kernel)) (by rw [isSubtype_type]; kernel_rfl)
theorem entry_rt_hint : entryFor table "reversed.__length_hint__" = some Builtin.«reversed.__length_hint__» :=
  entryFor_of_tree (by kernel_rfl)
theorem args_rt_hint (a : Value) : argsOk "reversed.__length_hint__" ⟨[a], []⟩ := by
  unfold argsOk; rw [signature?_of (id := "reversed.__length_hint__") (n := ['_', '_', 't', 'n', 'i', 'h', '_', 'h', 't', 'g', 'n', 'e', 'l', '_', '_']) (o := ['d', 'e', 's', 'r', 'e', 'v', 'e', 'r']) (by kernel_rfl) RT.owner_rt]; kernel_rfl
theorem call_rt_hint {it t : Addr} {items : Array Value} {Q : Value → Shared → Prop} (h : RT.IsRt s.heap it t ((items.size : Int) - 1)) (ht : IsTup s.heap t items) (hn : items.size ≤ sizeLine)
    (q : ∀ u tk, Q (.int items.size u) { s with toks := tk }) : wpAny (model prog w) A (call (.builtin "reversed.__length_hint__") [.ref it]) Q E s := by
  have hT := RT.IsRt.typeIs h
  have hz := line63
  obtain ⟨o, ho, hc, hd⟩ := id h
  refine wpAny_call_entry slot_rt_hint hT entry_rt_hint ?_ (args_rt_hint _)
  unfold Builtin.«reversed.__length_hint__»
  refine wpAny_bind (wpAny_of_eq (a := Value.ref it) rfl ?_)
  refine wpAny_bind (wpAny_field ho hd (x := .ref t) rfl ?_)
  rw [if_neg (by intro z; exact nomatch z)]
  refine wpAny_bind (len_tuple ht (by omega) ?_)
  refine wpAny_bind (wpAny_of_eq (a := some ((items.size : Nat) : Int)) rfl ?_)
  try dsimp only
  refine wpAny_bind (wpAny_field (s := { s with toks := s.toks + 1 + 1 }) ho hd (x := rawInt ((items.size : Int) - 1)) rfl ?_)
  show wpAny _ _ (if (items.size : Int) < (items.size : Int) - 1 + 1 then _ else retInt ((items.size : Int) - 1 + 1)) _ _ _
  rw [if_neg (by omega), show (items.size : Int) - 1 + 1 = items.size by omega]
  unfold retInt
  refine wpAny_bind (wpAny_mkInt ?_)
  exact wpAny_pure ⟨_, rfl, q _ _⟩
/-- the hint of a reversed tuple -/
theorem rt_hinted {it t : Addr} {items : Array Value} {Q : Bool → Shared → Prop} (h : RT.IsRt s.heap it t ((items.size : Int) - 1)) (ht : IsTup s.heap t items) (hn : items.size ≤ sizeLine)
    (q : ∀ b tk, Q b { s with toks := tk }) : wpAny (model prog w) A (Builtin.List.listLengthHint (.ref it)) Q E s := by
  have hT := RT.IsRt.typeIs h
  have hz := line63
  unfold Builtin.List.listLengthHint
  refine wpAny_bind (wpAny_specialOf hT rt_nolen ?_)
  show wpAny _ A (specialOf (Value.ref it) (Str.ofString "__length_hint__") >>= _) _ _ _
  refine wpAny_bind (wpAny_specialOf hT rt_hint ?_)
  generalize hid : ("reversed.__length_hint__" : String) = id1
  wp_delta
  rw [show splitId id1 = some ("reversed", "__length_hint__") from by subst hid; decide +kernel]
  subst hid
  refine wpAny_bind (wpAny_isInstance (b := true) hT (by rw [isSubtype_type]; kernel_rfl) ?_)
  rw [if_neg (by decide)]
  dsimp only
  rw [if_neg (by decide)]
  refine wpAny_bind (wpAny_rule ?_)
  rw [slot_rt_hint.bind]
  refine wpAny_bind (wpAny_pure ?_)
  dsimp only
  refine wpAny_bind (wpAny_attempt ?_)
  refine (call_rt_hint h ht hn fun u tk => ?_)
  have h1 : ¬ (!Builtin.List.listFitsIndex (items.size : Int)) = true := by
    simp only [Builtin.List.listFitsIndex, Bool.not_eq_true', Bool.not_eq_false']
    simp
    omega
  have h3 : ¬ Builtin.List.listTooLong (items.size : Int).toNat = true := by
    simp only [Builtin.List.listTooLong]
    simp
    omega
  dsimp only
  simp only [asInt?, pure_bind]
  rw [if_neg h1, if_neg (by omega), if_neg h3]
  exact wpAny_pure (q _ _)
/-- S.extend(it) over a reversed tuple -/
theorem rt_extend {it t S : Addr} {items : Array Value} {R : Result → Shared → Prop} (hh : A.handled = none) (hit : RT.IsRt s.heap it t ((items.size : Int) - 1)) (ht : IsTup s.heap t items) (hne : t ≠ it) (hn : items.size ≤ sizeLine)
    (hSi : S ≠ it) (hSt : S ≠ t) (res : Value) (c₀ : Nat) (hS : s.heap.get? S = some { cls := .type "list", data := .seq #[] c₀ })
    (hR : ∀ h' tk acc' c', (∀ b o, b ≠ S → b ≠ it → s.heap.get? b = some o → h'.get? b = some o) → h'.get? S = some { cls := .type "list", dict := none, data := .seq acc' c', slots := #[] } →
      ItemsOf (fun i v => items[items.size - 1 - i]? = some v) acc' items.size → R (.ok (.ret res)) { s with heap := h', toks := tk }) :
    wpAny (model prog w) A.in1 (Builtin.List.listExtendWith (.ref S) (.ref it) res)
      (fun fin s' => match fin with | .done f => R (.ok f) s' | .again c' => c'.quiet = true ∧ codeAny (model prog w) A c' R s') (fun e s' => R (.error e) s') s := by
  have W := (walks_rt (prog := prog) (w := w) (A := A.in1) hh it t hne items hn).toS
  have hSf : S ∉ [it, t] := by simp only [List.mem_cons, List.not_mem_nil, or_false, not_or]; exact ⟨hSi, hSt⟩
  have hT := RT.IsRt.typeIs hit
  have h1 : Builtin.List.listSameRef (.ref S) (.ref it) = false := by simp [Builtin.List.listSameRef, hSi]
  unfold Builtin.List.listExtendWith
  refine wpAny_bind (wpAny_typeOf hT ?_)
  rw [if_neg (by rw [h1]; decide)]
  refine wpAny_bind (RT.iter_rt hit ?_)
  refine wpAny_bind (wpAny_holding (rt_hinted hit ht hn fun b tk => ?_))
  have e0 : ((items.size : Nat) : Int) - 1 - ((0 : Nat) : Int) = (items.size : Int) - 1 := by omega
  have key : ∀ (h : Heap) (c₁ tk : Nat), (∀ b o, b ≠ S → s.heap.get? b = some o → h.get? b = some o) → h.get? S = some { cls := .type "list", data := .seq #[] c₁ } →
      codeAny (model prog w) A (.builtin "list.extend.loop" ⟨[.ref S, .ref it, res], []⟩) R { s with heap := h, toks := tk } := fun h c₁ tk hk hS₁ => by
    have hit2 : RT.IsRt h it t ((items.size : Int) - 1) := hit.at fun o e => hk it o hSi.symm e
    have ht2 : IsTup h t items := let ⟨o, e, r⟩ := ht; ⟨o, hk t o hSt.symm e, r⟩
    refine codeAny_extend_loopS W hn _ hSf _ items.size 0 _ _ _ rfl (Nat.zero_le _) ⟨Nat.zero_le _, by rw [e0]; exact hit2, ht2⟩ hS₁ (ItemsOf.nil _) fun s' acc' c' hm hS' hacc => ?_
    rw [Moved.eq_with hm]
    refine hR s'.heap s'.toks acc' c' (fun b o hb hb2 e => hm.heap b o (fun hmem => ?_) (hk b o hb e)) hS' hacc
    rcases List.mem_cons.mp hmem with e' | hmem
    · exact hb e'
    · exact hb2 (List.mem_singleton.mp hmem)
  refine wpAny_ite_split (fun _ => ?_) (fun _ => wpAny_pure ⟨plainId_quiet F.plain_extend_loop _, key s.heap c₀ _ (fun b o _ e => e) hS⟩)
  refine wpAny_bind (wpAny_rule ?_)
  refine wpAny_bind ?_
  show wpAny _ _ (updateSeq S (·.push .none) >>= fun _ => updateSeq S (·.pop)) _ _ _
  refine wpAny_bind (wpAny_updateSeq (s := { s with toks := tk }) hS rfl ?_)
  have hS2 := Heap.get?_update_self (Obj.mapSeq (·.push Value.none)) hS rfl
  refine wpAny_updateSeq (hz := by seq_fits) hS2 rfl ?_
  have hS3 := Heap.get?_update_self (Obj.mapSeq (·.pop)) hS2 rfl
  exact wpAny_pure ⟨plainId_quiet F.plain_extend_loop _, key _ _ _ (fun b o hb e => (Heap.get?_update_other _ _ (Ne.symm hb)).trans ((Heap.get?_update_other _ _ (Ne.symm hb)).trans e)) hS3⟩
/-- list(it) -/
theorem rt_init {it t S : Addr} {items : Array Value} {R : Result → Shared → Prop} (hh : A.handled = none) (hit : RT.IsRt s.heap it t ((items.size : Int) - 1)) (ht : IsTup s.heap t items) (hne : t ≠ it) (hn : items.size ≤ sizeLine)
    (hSi : S ≠ it) (hSt : S ≠ t) (hS : s.heap.get? S = some { cls := .type "list", data := .seq #[] })
    (hR : ∀ h' tk acc' c', (∀ b o, b ≠ S → b ≠ it → s.heap.get? b = some o → h'.get? b = some o) → h'.get? S = some { cls := .type "list", dict := none, data := .seq acc' c', slots := #[] } →
      ItemsOf (fun i v => items[items.size - 1 - i]? = some v) acc' items.size → R (.ok (.ret .none)) { s with heap := h', toks := tk }) :
    wpAny (model prog w) A.in1 (Builtin.«list.__init__» ⟨[.ref S, .ref it], []⟩)
      (fun fin s' => match fin with | .done f => R (.ok f) s' | .again c' => c'.quiet = true ∧ codeAny (model prog w) A c' R s') (fun e s' => R (.error e) s') s := by
  show wpAny _ _ (do let old ← Builtin.List.listItems (.ref S); Builtin.List.listUpdate (.ref S) (fun _ => #[]); letGo old.toList.reverse; Builtin.List.listExtendWith (.ref S) (.ref it) .none) _ _ s
  refine wpAny_bind ?_
  unfold Builtin.List.listItems
  refine wpAny_bind (wpAny_seqItems hS rfl (wpAny_pure ?_))
  show wpAny _ _ (updateSeq S (fun _ => #[]) >>= fun _ => letGo (#[] : Array Value).toList.reverse >>= fun _ => Builtin.List.listExtendWith (.ref S) (.ref it) .none) _ _ s
  refine wpAny_bind (wpAny_updateSeq hS rfl ?_)
  have hS2 := Heap.get?_update_self (Obj.mapSeq (fun _ => (#[] : Array Value))) hS rfl
  have oth : ∀ b o, b ≠ S → s.heap.get? b = some o → (s.heap.update S (Obj.mapSeq (fun _ => (#[] : Array Value)))).get? b = some o := fun b o hb e => (Heap.get?_update_other _ _ (Ne.symm hb)).trans e
  refine wpAny_bind (wpAny_letGo ?_)
  have ht2 : IsTup (s.heap.update S (Obj.mapSeq (fun _ => (#[] : Array Value)))) t items := let ⟨o, e, r⟩ := ht; ⟨o, oth t o hSt.symm e, r⟩
  refine rt_extend hh (hit.at fun o e => oth it o hSi.symm e) ht2 hne hn hSi hSt .none _ hS2 fun h' tk acc' c' hk hS' hacc => ?_
  exact hR h' tk acc' c' (fun b o hb hb2 e => hk b o hb hb2 (oth b o hb e)) hS' hacc
theorem call_list_rt {it t : Addr} {items : Array Value} {Q : Value → Shared → Prop} (hh : A.handled = none) (hit : RT.IsRt s.heap it t ((items.size : Int) - 1)) (ht : IsTup s.heap t items) (hne : t ≠ it) (hn : items.size ≤ sizeLine)
    (hQ : ∀ h' tk acc' c', (∀ b o, b ≠ it → s.heap.get? b = some o → h'.get? b = some o) → h'.get? s.heap.objs.size = some { cls := .type "list", dict := none, data := .seq acc' c', slots := #[] } →
      ItemsOf (fun i v => items[items.size - 1 - i]? = some v) acc' items.size → Q (.ref s.heap.objs.size) { s with heap := h', toks := tk }) : wpAny (model prog w) A (call (.type "list") [.ref it]) Q E s := by
  refine callType_codes (Q₁ := fun obj s₁ => obj = .ref s.heap.objs.size ∧ s₁ = { s with heap := s.heap.push { cls := .type "list", data := .seq #[] } }) F.called_list (F.typeCall_list_1 _) F.entry_list_init (code_list_new _ ⟨rfl, rfl⟩) fun obj s₁ h₁ => ?_
  obtain ⟨rfl, rfl⟩ := h₁
  have hS : (s.heap.push { cls := .type "list", data := .seq #[] }).get? s.heap.objs.size = some { cls := .type "list", data := .seq #[] } := Heap.get?_push_size _ rfl
  have l1 : it < s.heap.objs.size := let ⟨o, e, _⟩ := hit; Heap.lt_size e
  have l2 : t < s.heap.objs.size := let ⟨o, e, _⟩ := ht; Heap.lt_size e
  have ht2 : IsTup (s.heap.push { cls := .type "list", data := .seq #[] }) t items := let ⟨o, e, r⟩ := ht; ⟨o, Heap.get?_push_of_some _ e, r⟩
  refine ⟨⟨_, hS, rfl⟩, F.args_list_init_2 _ _, rt_init (A := A.in1) hh (hit.at fun o e => Heap.get?_push_of_some _ e) ht2 hne hn (Nat.ne_of_gt l1) (Nat.ne_of_gt l2) hS fun h' tk acc' c' hk hS' hacc => ?_⟩
  exact ⟨rfl, hQ h' tk acc' c' (fun b o hb e => hk b o (Nat.ne_of_lt (Heap.lt_size e)) hb (Heap.get?_push_of_some _ e)) hS' hacc⟩
/-- collect(x) of a source -/
theorem collect_src {T : String} {r d : Addr} {n : Nat} {P : Nat → Value → Prop} {OK : Heap → Prop} {Q : List Value → Shared → Prop} (K : PySem.W.KdlSrc prog w T r d n P OK) (hh : A.handled = none) (hok : OK s.heap) (hn : n ≤ sizeLine)
    (hQ : ∀ (h' : Heap) (tk : Nat) (acc : Array Value), (∀ b o, s.heap.get? b = some o → h'.get? b = some o) → ItemsOf P acc n → Q acc.toList { s with heap := h', toks := tk }) : wpAny (model prog w) A (collect (.ref r)) Q E s := by
  have hlt := K.there _ hok
  unfold collect
  refine wpAny_bind (wpAny_runValue (codeAny_builtin F.entry_proto_collect ?_))
  rw [Around.under_plainId F.plain_proto_collect _]
  show wpAny _ A.in1 (newList [] >>= fun l' => again (.builtin "list.__iadd__" ⟨[l', .ref r], []⟩)) _ _ s
  refine wpAny_bind (wpAny_newObj_type ?_)
  refine wpAny_pure ⟨plainId_quiet F.plain_list_iadd _, codeAny_builtin F.entry_list_iadd ?_⟩
  rw [Around.under_plainId F.plain_list_iadd _]
  have hS : (s.heap.push { cls := .type "list", data := .seq ([] : List Value).toArray }).get? s.heap.objs.size = some { cls := .type "list", data := .seq ([] : List Value).toArray } := Heap.get?_push_size _ rfl
  show wpAny _ A.in1 (Builtin.List.listExtendWith (.ref s.heap.objs.size) (.ref r) (.ref s.heap.objs.size)) _ _ _
  have fin : ∀ (r : Result) (s' : Shared), (∃ h' tk acc' c', r = .ok (.ret (.ref s.heap.objs.size)) ∧ s' = { s with heap := h', toks := tk } ∧ (∀ b o, s.heap.get? b = some o → h'.get? b = some o) ∧
      h'.get? s.heap.objs.size = some { cls := .type "list", dict := none, data := .seq acc' c', slots := #[] } ∧ ItemsOf P acc' n) → ∃ f, r = .ok (.ret f) ∧ wpAny (model prog w) A
        (match f with | .ref a => (do match (← load a).data with | .seq xs _ => pure xs.toList | _ => unsupported "internal:collect") | _ => unsupported "internal:collect") Q E s' := by
    rintro r s' ⟨h', tk, acc', c', rfl, rfl, hk, hS', hacc⟩
    refine ⟨_, rfl, ?_⟩
    show wpAny _ A (load s.heap.objs.size >>= _) _ _ _
    exact wpAny_bind (wpAny_load hS' (wpAny_pure (hQ h' tk acc' hk hacc)))
  refine wpAny_mono (PySem.W.kdl_extend (R := fun r s' => ∃ h' tk acc' c', r = .ok (.ret (.ref s.heap.objs.size)) ∧ s' = { s with heap := h', toks := tk } ∧ (∀ b o, s.heap.get? b = some o → h'.get? b = some o) ∧
      h'.get? s.heap.objs.size = some { cls := .type "list", dict := none, data := .seq acc' c', slots := #[] } ∧ ItemsOf P acc' n) (s := { s with heap := s.heap.push { cls := .type "list", data := .seq ([] : List Value).toArray } })
      K hh (K.keep _ _ hok fun b _ o e => Heap.get?_push_of_some _ e) _ (Nat.ne_of_gt hlt.1) (Nat.ne_of_gt hlt.2) _ _ hS (fun h' tk acc' c' hk hS' hacc => ?_) hn) (fun fn s' h => ?_) (fun e s' h => ?_)
  · exact ⟨h', tk, acc', c', rfl, rfl, fun b o e => hk b o (Nat.ne_of_lt (Heap.lt_size e)) (Heap.get?_push_of_some _ e), hS', hacc⟩
  · cases fn with
    | done f =>
      obtain ⟨f', e, q⟩ := fin _ _ h
      cases e
      exact q
    | again c =>
      refine ⟨h.1, codeAny_mono h.2 fun r s'' h2 => ?_⟩
      obtain ⟨f', e, q⟩ := fin _ _ h2
      subst e
      exact q
  · obtain ⟨f', e, q⟩ := fin _ _ h
    cases e
/-- tuple(d) -/
theorem call_tuple_src {r d : Addr} {n : Nat} {P : Nat → Value → Prop} {OK : Heap → Prop} {Q : Value → Shared → Prop} (K : PySem.W.KdlSrc prog w "dict" r d n P OK) (hh : A.handled = none) (hok : OK s.heap) (hn : n ≤ sizeLine)
    (hQ : ∀ (h' : Heap) (tk : Nat) (acc : Array Value), (∀ b o, s.heap.get? b = some o → h'.get? b = some o) → ItemsOf P acc n → Q (.ref h'.objs.size) { s with heap := h'.push { cls := .type "tuple", data := .seq acc }, toks := tk }) :
    wpAny (model prog w) A (call (.type "tuple") [.ref r]) Q E s := by
  have new : codeAny (model prog w) A.in1 (.call (.builtin "tuple.__new__") ⟨[.type "tuple", .ref r], []⟩) (wants (fun obj s₁ => s₁.TypeIs obj "tuple" ∧ Q obj s₁) E) s := by
    refine codeAny_of_tree ?_
    show wpAny _ A.in1.in1 (do checkBuiltinCall "tuple.__new__" ⟨[.type "tuple", .ref r], []⟩; again (.builtin "tuple.__new__" ⟨[.type "tuple", .ref r], []⟩)) _ _ s
    refine wpAny_bind (wpAny_of_eq (F.newCall_tuple_1 _) (wpAny_pure ⟨plainId_quiet F.plain_tuple_new _, codeAny_builtin F.entry_tuple_new ?_⟩))
    rw [Around.under_plainId F.plain_tuple_new _]
    have hsub := sub_tuple_self
    have hinit := init_tuple_lookup
    have hmh := madeHere_tuple
    have hTI := K.type s hok
    have hh1 : A.in1.in1.handled = none := hh
    wp_walk using wpAny_typeOf hTI, collect_src (A := A.in1.in1) K hh1 hok hn
    intro h' tk acc hk hacc
    show wpAny _ _ (Builtin.Tuple.tupleExact acc.toList.toArray >>= fun v => ret v) _ _ _
    unfold Builtin.Tuple.tupleExact
    refine wpAny_bind (wpAny_newObj_type ?_ (by show acc.toList.toArray.size ≤ sizeLine; simp only [Array.toArray_toList]; rw [hacc.1]; exact hn))
    have e : acc.toList.toArray = acc := by simp
    rw [e]
    exact wpAny_pure ⟨⟨_, Heap.get?_push_size _ rfl, rfl⟩, hQ h' tk acc hk hacc⟩
  refine callType_codes F.called_tuple (F.typeCall_tuple_1 _) F.entry_object_init new fun obj s₁ h₁ => ?_
  exact ⟨h₁.1, F.args_object_init_2 obj _, object_init_meets F.called_tuple.init.lookup F.called_tuple.made (by decide) prog w A.in1 _ s₁ ⟨h₁.1, rfl, h₁.2⟩⟩
end
section
variable {X : Cx}
/-- tuple(d), d a dict: its keys -/
theorem call_tuple_dK (hc : X.calm = true) : CallR X (.type "tuple") (fun xs H Q => ∃ p kvs, xs = [.ref p] ∧ H p = some (.dK kvs) ∧ ∀ q, H q = none → Q (.ref q) (upd H q (.tup (kvs.map fun kv => kV kv.1)))) := by
  intro pins s σ H xs us Q I r h
  obtain ⟨p, kvs, rfl, hk, q⟩ := h
  obtain ⟨u, rfl, rx⟩ := vals1 r
  obtain rfl : u = Value.ref p := rx
  obtain ⟨z, lo, vs, rk, hd⟩ := (show ObjOk X.prog X.w H s.heap p (.dK kvs) from I.hok p _ hk)
  obtain ⟨ep, hat⟩ := hd.dictAt
  have hl : kvs.length = vs.length := Paired.length rk
  refine call_tuple_src (PySem.W.kdl_dict (knd := mixKind X.prog X.w) (kvs := vs) (ep := ep) lo) (I.ok.hd hc) hat (by omega) fun h' tk acc hkeep hacc => ?_
  have I2 : Inv X pins σ H { s with heap := h', toks := tk } := I.kept hkeep
  refine ⟨.ref h'.objs.size, upd H h'.objs.size (.tup (kvs.map fun kv => kV kv.1)), I2.laid (t' := tk) (fun c o e => Heap.get?_push_of_some _ e) (Nat.le_refl _) (show ObjOk X.prog X.w _ _ _ (.tup (kvs.map fun kv => kV kv.1)) from ⟨?_, acc.toList, ?_, ?_⟩), rfl, q _ (I2.hok.fresh (Nat.le_refl _))⟩
  · rw [List.length_map]; exact z
  · have el : acc.toList.length = acc.size := by simp
    refine vals_of_at (by rw [List.length_map, el, hacc.1, hl]) fun j x w h1 h2 => ?_
    obtain ⟨k, y, hky, hi⟩ := hacc.2 j w (by rw [← Array.getElem?_toList]; exact h2)
    have e1 : (kvs.map (·.1))[j]? = some k := by rw [KV.keys rk, List.getElem?_map, hky] <;> rfl
    have e2 : (kvs.map fun kv => kV kv.1)[j]? = some (kV k) := by
      rw [show (kvs.map fun kv => kV kv.1) = (kvs.map (·.1)).map kV by rw [List.map_map] <;> rfl, List.getElem?_map, e1] <;> rfl
    rw [e2] at h1
    cases h1
    exact keyIs_rel hi
  · rw [Array.toArray_toList]; exact IsTup.new _ _
/-- list(reversed(x)), x a tuple -/
def tLstRev (K : PySem.W.Frag) (te : TE) : TE := fun σ H Q => te σ H fun v H1 => ∃ (a : Addr) (xs : List V), v = .ref a ∧ SqT K H1 a xs ∧ ∀ q, H1 q = none → Q (.ref q) (upd H1 q (.lst xs.reverse))
theorem pe_lstRev {e : Expr} {te : TE} {p p2 pos pos2 : Pos} (hc : X.calm = true) (hg : Gl X "list") (hm : X.mg "list" = none) (hg2 : Gl X "reversed") (hm2 : X.mg "reversed" = none) (he : PE X e te)
    (hs : starEach [e] X.env = (false, eval e X.env) :: starEach [] X.env := by rfl)
    (hs2 : starEach [.Call (.Name "reversed" p2) [e] [] pos2] X.env = (false, eval (.Call (.Name "reversed" p2) [e] [] pos2) X.env) :: starEach [] X.env := by rfl) :
    PE X (.Call (.Name "list" p) [.Call (.Name "reversed" p2) [e] [] pos2] [] pos) (tLstRev X.K te) := by
  refine ⟨fun pins s σ H Q I h => ?_⟩
  refine Call_ (ld_blt I hg hm boot_list (PyProof.Rows.callWith_type1 (args_cons (Call_ (ld_blt I hg2 hm2 PyProof.Rows.boot_reversed (PyProof.Rows.callWith_type1 (args_cons (thn (he.run pins s σ H _ I h) fun u s1 ⟨v, H1, I1, r1, q1⟩ => args_nil ?_) hs) hs rfl))) hs2) hs2 rfl))
  obtain ⟨a, xs, rfl, hq, q⟩ := q1
  obtain rfl : u = Value.ref a := r1
  obtain ⟨its, rv, p', hz⟩ := I1.tuple hq
  have hl := rv.length
  have hn := line63
  have hn2 : its.toArray.size ≤ sizeLine := by rw [List.size_toArray, ← rv.length]; exact hz
  refine RT.call_reversed_tup p' (fun A E Q k => len_tuple p' (by simp only [List.size_toArray] <;> omega) k) (args_nil ?_)
  have k0 : ∀ b o, s1.heap.get? b = some o → (s1.heap.push (RT.rtObj a ((its.toArray.size : Int) - 1))).get? b = some o := fun b o e => Heap.get?_push_of_some _ e
  have hne : a ≠ s1.heap.objs.size := let ⟨o, e, _⟩ := p'; Nat.ne_of_lt (Heap.lt_size e)
  have p2 : IsTup (s1.heap.push (RT.rtObj a ((its.toArray.size : Int) - 1))) a its.toArray := let ⟨o, e, r⟩ := p'; ⟨o, k0 _ _ e, r⟩
  refine call_list_rt (s := { s1 with heap := s1.heap.push (RT.rtObj a ((its.toArray.size : Int) - 1)), toks := s1.toks + 1 + 1 }) (I1.ok.hd hc) ⟨_, Heap.get?_push_size _ rfl, rfl, rfl⟩ p2 hne hn2 fun h' tk acc c' hk hS hi => ?_
  have sz : s1.heap.objs.size ≤ (s1.heap.push (RT.rtObj a ((its.toArray.size : Int) - 1))).objs.size := by simp [Heap.push]
  refine ⟨.ref _, upd H1 _ (.lst xs.reverse), I1.laid (t' := tk) (fun b o e => hk b o (Nat.ne_of_lt (Heap.lt_size e)) (k0 b o e)) sz (show ObjOk X.prog X.w _ _ _ (.lst xs.reverse) from ⟨by rw [List.length_reverse]; exact hz, acc.toList, c', RT.vals_rev rv hi, ?_⟩), rfl, q _ (I1.hok.fresh sz)⟩
  rw [Array.toArray_toList]
  exact hS
end
end Ksec
set_option Elab.async false
set_option linter.all false
set_option maxRecDepth 100000
set_option maxHeartbeats 4000000
namespace Ksec
open PySem PySem.Spec PyProof.Rows L2
/-! enumerate(t), t a tuple -/
theorem enum1_new {v : Value} {o : Obj} {H : Heap → Prop} (B : Begins v o H) : Meets (Builtin.«enumerate.__new__» ⟨[.type "enumerate", v], []⟩) (fun _ R s => H s.heap ∧
    R (.ok (.ret (.ref (s.heap.push o).objs.size))) { s with heap := (s.heap.push o).push { cls := .type "enumerate", data := .fields #[.none, .bool false, .ref s.heap.objs.size, rawInt 0, .none, .none] } }) := .of_wp fun prog w A R s h => by
  obtain ⟨hp, g, d, tk, os⟩ := s
  have hsub := sub_enumerate
  have q1 : ∀ {A' : Around} {E : Value → Shared → Prop} {Q : Value → Shared → Prop}, Q (.ref hp.objs.size) ⟨hp.push o, g, d, tk, os⟩ → wpAny (model prog w) A' (pyIter v) Q E ⟨hp, g, d, tk, os⟩ := fun q => B.iter prog w _ _ ⟨hp, g, d, tk, os⟩ _ h.1 q
  wp_walk using q1
  refine wpAny_stack_any fun st => wpAny_pure ?_
  split
  · rename_i c _ _ _ _ _
    cases (c == Value.type "enumerate") <;> (wp_walk using q1; exact ⟨_, rfl, h.2⟩)
  · wp_walk using q1
    exact ⟨_, rfl, h.2⟩
theorem enum1_call {prog : Program} {w : World} {A : Around} {E : Value → Shared → Prop} {s : Shared} {v : Value} {o : Obj} {H : Heap → Prop} {Q : Value → Shared → Prop} (B : Begins v o H) (h1 : H s.heap)
    (h : ∀ h', IsEnum h' (s.heap.objs.size + 1) s.heap.objs.size 0 .none → h'.get? s.heap.objs.size = some o → (∀ b o, s.heap.get? b = some o → h'.get? b = some o) → Q (.ref (s.heap.objs.size + 1)) { s with heap := h' }) :
    wpAny (model prog w) A (call (.type "enumerate") [v]) Q E s := by
  refine callType_new F.called_enumerate (by decide) (F.typeCall_enumerate_1 _) (F.newCall_enumerate_1 _) (fun obj => F.args_object_init_2 obj _) F.entry_enumerate_new (enum1_new B) ⟨h1, ?_⟩
  have hz : (s.heap.push o).objs.size = s.heap.objs.size + 1 := Heap.size_push ..
  show _ ∧ _
  rw [hz]
  have he := Heap.get?_push_size (s.heap.push o) (o := { cls := .type "enumerate", data := .fields #[.none, .bool false, .ref s.heap.objs.size, rawInt 0, .none, .none] }) rfl
  rw [hz] at he
  exact ⟨⟨_, he, rfl⟩, h _ he (Heap.get?_push_of_some _ (Heap.get?_push_size _ B.free)) fun b o x => Heap.get?_push_of_some _ (Heap.get?_push_of_some _ x)⟩
def IteT (K : PySem.W.Frag) (a : Addr) : It :=
  ⟨fun i H => ∃ (xs : List V) (x : V), SqT K H a xs ∧ xs[i]? = some x, fun i H v H' => ∃ T x, v = .ref T ∧ H T = none ∧ H' = upd H T (.tup [.int (i : Nat), x]) ∧ ∀ xs, SqT K H a xs → xs[i]? = some x, fun i H => ∃ xs : List V, SqT K H a xs ∧ xs.length = i⟩
theorem tup_is {h : Heap} {t : Addr} {its : Array Value} (p : IsTup h t its) : h.IsTuple t its := by
  obtain ⟨o, e, c, n, d⟩ := p
  exact ⟨o, e, c, n, d⟩
theorem turn_enumT {P : Program} {w : World} {K : PySem.W.Frag} {elts : List Expr} {kk : Nat} {tpos : Pos} (a e it : Addr) :
    Turn P w K (.Tuple elts kk tpos) (IteT K a) [e, it] e (fun i h => (∃ old, IsEnum h e it ((i : Nat) : Int) old) ∧ h.IsTupleIter it a i ∧ e ≠ it ∧ a ≠ it ∧ a ≠ e) where
  mem := by simp
  obj := fun i h st b hb => by
    obtain ⟨⟨old, he⟩, ⟨o, ho, hc, hd⟩, _⟩ := st
    have e' : b = e ∨ b = it := by simpa using hb
    rcases e' with z | z
    · subst z
      exact ⟨_, he, fun v q => nomatch q⟩
    · subst z
      exact ⟨o, ho, fun v q => by rw [hd] at q; cases q⟩
  keep := fun i h h' st k => let ⟨⟨old, he⟩, hi, hne⟩ := st; ⟨⟨old, k e (by simp) _ he⟩, hi.at fun o q => k it (by simp) o q, hne⟩
  item := by
    intro X hP hw hK hc i pins s σ H E I hf st hg
    subst hP hw hK
    obtain ⟨⟨old, he⟩, hit, hne, ha1, ha2⟩ := st
    obtain ⟨xs, x, hq, hx⟩ := hg
    obtain ⟨its, rv, p, hz⟩ := I.tuple hq
    obtain ⟨u, hu, ru⟩ := rv.get hx
    have hel : e < s.heap.objs.size := Heap.lt_size he
    have hil : it < s.heap.objs.size := by obtain ⟨_, q, _⟩ := hit; exact Heap.lt_size q
    have hi : i < its.toArray.size := by
      have h1 : i < xs.length := (List.getElem?_eq_some_iff.mp hx).1
      have h2 := rv.length
      rw [List.size_toArray]
      omega
    have hD := Draws.tuple (prog := X.prog) (w := X.w) (A := X.A.in1) (I.ok.hd hc) it a ha1 its.toArray
    refine wpAny_pyNext_enum_itemD hD he ⟨hit, tup_is p⟩ hi hne (by simp only [List.mem_cons, List.not_mem_nil, or_false, not_or]; exact ⟨hne, ha2.symm⟩) fun y h' tk hy ho hst hT hsz hk => ?_
    obtain rfl : y = u := by
      have h1 : its.toArray[i]? = some u := by simpa using hu
      rw [h1] at hy
      exact (Option.some.inj hy).symm
    refine ⟨_, rfl, wpAny_letOwnedTupleGo_enum (s := { s with heap := h', toks := tk + 1 }) ho fun h'' he' sb => ?_⟩
    have hT2 : h''.get? s.heap.objs.size = some { cls := .type "tuple", data := .seq #[.int i tk, y] } := (sb.2 _ (Nat.ne_of_gt hel)).trans hT
    have new : ObjOk X.prog X.w (upd H s.heap.objs.size (.tup [.int (i : Nat), x])) h'' s.heap.objs.size (.tup [.int (i : Nat), x]) :=
      ⟨by show 2 ≤ sizeLine; decide, [.int i tk, y], .cons ⟨_, rfl⟩ (.cons ru .nil), ⟨_, hT2, rfl, _, rfl⟩⟩
    have I1 : Inv X pins σ (upd H s.heap.objs.size (.tup [.int (i : Nat), x])) { s with heap := h'', toks := tk + 1 } :=
      I.turnedNew (ch := [e, it]) (fun b ob hb q => (sb.2 b (fun z => hb (by simp [z]))).trans (hk b ob (fun z => hb (by simp [z])) (fun z => hb (by simp [z])) q)) hf (Nat.le_refl _) new
    refine ⟨.ref s.heap.objs.size, _, I1, rfl, ⟨_, x, rfl, I.hok.fresh (Nat.le_refl _), rfl, fun ys hy => by rw [I.tuple_inj hy hq]; exact hx⟩, ⟨⟨y, ?_⟩, hst.1.at fun o q => (sb.2 it (Ne.symm hne)).trans q, hne, ha1, ha2⟩, fun b hb => ?_⟩
    · have e1 : ((i + 1 : Nat) : Int) = (i : Int) + 1 := by omega
      rw [e1]
      exact he'
    · have e' : b = e ∨ b = it := by simpa using hb
      have hb' : b < s.heap.objs.size := by
        rcases e' with z | z
        · rw [z]; exact hel
        · rw [z]; exact hil
      rw [upd_ne (Nat.ne_of_lt hb')]
      exact (hf b hb).1
  done := by
    intro X hP hw hK hc i pins s σ H E I hf st hg
    subst hP hw hK
    obtain ⟨⟨old, he⟩, hit, hne, ha1, ha2⟩ := st
    obtain ⟨xs, hq, hx⟩ := hg
    obtain ⟨its, rv, p, hz⟩ := I.tuple hq
    obtain ⟨f0, f1, f2, f3, f4, f5⟩ := hf it (by simp)
    have hl := rv.length
    have hD := Draws.tuple (prog := X.prog) (w := X.w) (A := X.A.in1) (I.ok.hd hc) it a ha1 its.toArray
    have hn : its.toArray.size = i := by
      rw [List.size_toArray]
      omega
    refine wpAny_pyNext_enum_endD hD he (by rw [hn]; exact ⟨hit, tup_is p⟩) fun h' eb => ⟨rfl, I.turned (t' := s.toks) (fun b o hb q => eb b o hb q) f0 f1 f3 f4 f5⟩
  self := fun A i s Q E st h => let ⟨⟨_, he⟩, _⟩ := st; wpAny_pyIter_enum he h
def iEnumT (K : PySem.W.Frag) (ta : TA) : TI := fun σ H R => ta σ H fun vs H1 => ∃ a xs, vs = [.ref a] ∧ SqT K H1 a xs ∧ R (IteT K a) H1
theorem pi_enumT {X : Cx} {e : Expr} {ta : TA} {p pos tpos : Pos} {elts : List Expr} {kk : Nat} (hg : Gl X "enumerate") (hm : X.mg "enumerate" = none) (ha : PA X [e] ta) (hs : starEach [e] X.env = [(false, eval e X.env)] := by rfl) :
    PI X (.Tuple elts kk tpos) (.Call (.Name "enumerate" p) [e] [] pos) (iEnumT X.K ta) := by
  refine ⟨fun pins s σ H R I h => ?_⟩
  refine Call_ (ld_blt I hg hm boot_enumerate (PyProof.Rows.callWith_type1 (thn (ha.run pos pins s σ H _ I h) fun us s1 ⟨vs, H1, I1, r1, q1⟩ => ?_) hs rfl))
  obtain ⟨a, xs, rfl, hq, q⟩ := q1
  obtain ⟨u, rfl, r⟩ := vals1 r1
  obtain rfl : u = Value.ref a := r
  obtain ⟨its, rv, p', hz⟩ := I1.tuple hq
  have al := p'.lt
  refine enum1_call (begins_tuple a its.toArray) (tup_is p') fun h' he hit hk => wpAny_pyIter_enum he ?_
  have I2 : Inv X pins σ H1 { s1 with heap := h' } := I1.kept (t' := s1.toks) hk
  refine ⟨s1.heap.objs.size + 1, [s1.heap.objs.size + 1, s1.heap.objs.size], _, _, H1, rfl, I2, turn_enumT a (s1.heap.objs.size + 1) s1.heap.objs.size, ⟨⟨.none, he⟩, ⟨_, hit, rfl, rfl⟩, Nat.succ_ne_self _, Nat.ne_of_lt al, Nat.ne_of_lt (Nat.lt_succ_of_lt al)⟩, fun b hb => ?_, q⟩
  have hle : s1.heap.objs.size ≤ b := by
    have e' : b = s1.heap.objs.size + 1 ∨ b = s1.heap.objs.size := by simpa using hb
    rcases e' with z | z
    · rw [z]
      exact Nat.le_succ _
    · rw [z]
      exact Nat.le_refl _
  exact I1.fpOk hle (I1.hok.fresh hle)
/-! t[::-1], t a tuple -/
theorem fm_congr {α β : Type} {f g : α → Option β} : ∀ l : List α, (∀ k ∈ l, f k = g k) → l.filterMap f = l.filterMap g
  | [], _ => rfl
  | k :: r, h => by
    rw [List.filterMap_cons, List.filterMap_cons, h k (List.mem_cons_self ..), fm_congr r fun j hj => h j (List.mem_cons_of_mem _ hj)]
theorem rev_pick (xs : Array Value) : ((List.range xs.size).filterMap fun (k : Nat) => xs[((xs.size : Int) - 1 + (k : Int) * -1).toNat]?).toArray = xs.toList.reverse.toArray := by
  have e : (List.range xs.size).filterMap (fun (k : Nat) => xs[((xs.size : Int) - 1 + (k : Int) * -1).toNat]?) = (List.range xs.size).filterMap (fun k => xs[xs.size - 1 - k]?) := by
    refine fm_congr _ fun k hk => ?_
    have := List.mem_range.mp hk
    rw [show ((xs.size : Int) - 1 + (k : Int) * -1).toNat = xs.size - 1 - k by omega]
  rw [e, ← PySem.W.krv_all xs, ← List.filterMap_reverse, ← PySem.W.krv_range, List.filterMap_map]
  rfl
theorem rev_adjust (n : Nat) : Builtin.Slice.sliceAdjust none none (-1) (n : Int) = ((n : Int) - 1, -1) := by
  unfold Builtin.Slice.sliceAdjust
  simp
theorem rev_places (n : Nat) : Builtin.Slice.slicePlaces ((n : Int) - 1) (-1) (-1) = n := by
  unfold Builtin.Slice.slicePlaces
  simp
  try omega
theorem sliceApplied_rev {prog : Program} {w : World} {A : Around} {E : Value → Shared → Prop} {s : Shared} {sl : Addr} {tk : Tok} {n : Nat} {Q : Int × Int × Nat → Shared → Prop} (hs : s.heap.IsSliceOf sl .none .none (.int (-1) tk)) (h : Q ((n : Int) - 1, -1, n) s) :
    wpAny (model prog w) A (Builtin.Slice.sliceApplied (.ref sl) (pure (n : Int))) Q E s := by
  obtain ⟨os, hos, hcs, hds⟩ := id hs
  unfold Builtin.Slice.sliceApplied Builtin.Slice.sliceFields
  refine wpAny_bind (wpAny_bind (wpAny_field hos hds (x := .none) rfl (wpAny_bind (wpAny_field hos hds (x := .none) rfl (wpAny_bind (wpAny_field hos hds (x := .int (-1) tk) rfl (wpAny_pure ?_)))))))
  refine wpAny_bind (slicePart_int ?_)
  show wpAny _ _ (if ((-1 : Int) == 0) = true then _ else _) _ _ s
  rw [if_neg (by decide)]
  refine wpAny_bind (slicePart_none (wpAny_bind (slicePart_none (wpAny_bind (wpAny_pure ?_)))))
  show wpAny _ _ (match Builtin.Slice.sliceAdjust none none (-1) (n : Int) with | (lo, hi) => pure (lo, (-1 : Int), Builtin.Slice.slicePlaces lo hi (-1))) _ _ s
  rw [rev_adjust n]
  show wpAny _ _ (pure ((n : Int) - 1, (-1 : Int), Builtin.Slice.slicePlaces ((n : Int) - 1) (-1) (-1))) _ _ s
  rw [rev_places]
  exact wpAny_pure h
theorem getItem_tuple_rev {prog : Program} {w : World} {A : Around} {E : Value → Shared → Prop} {s : Shared} {t sl : Addr} {items : Array Value} {tk : Tok} {Q : Value → Shared → Prop} (ht : IsTup s.heap t items) (hs : s.heap.IsSliceOf sl .none .none (.int (-1) tk))
    (h : Q (.ref s.heap.objs.size) { s with heap := s.heap.push { cls := .type "tuple", data := .seq items.toList.reverse.toArray } }) (hsz : items.size ≤ sizeLine) : wpAny (model prog w) A (getItem (.ref t) (.ref sl)) Q E s := by
  have htake : sizeOk (.seq items.toList.reverse.toArray) := by
    show items.toList.reverse.toArray.size ≤ sizeLine
    rw [List.size_toArray, List.length_reverse, Array.length_toList]
    exact hsz
  obtain ⟨os, hos, hcs, hds⟩ := id hs
  have hTs : s.TypeIs (.ref sl) "slice" := ⟨os, hos, hcs⟩
  unfold getItem
  try with_reducible refine wpAny_holding ?_
  first | refine wpAny_bind (wpAny_pure ?_) | skip
  refine wpAny_bind (wpAny_sequenceKey ht.typeIs (by decide) ?_)
  refine wpAny_bind (wpAny_callSpecial?_slot (name := Str.ofString "__getitem__") ht.typeIs PyProof.Rows.slot_tuple_getitem (wpAny_call_entry PyProof.Rows.slot_tuple_getitem ht.typeIs PyProof.Rows.entry_tuple_getitem ?_ (PyProof.Rows.args_tuple_getitem _ _)))
  show wpAny _ _ (Builtin.Tuple.tupleItemsOf (.ref t) >>= _) _ _ s
  refine wpAny_bind (tupleItemsOf_ ht ?_)
  refine wpAny_bind (wpAny_typeOf hTs ?_)
  rw [if_pos (by decide)]
  refine wpAny_bind (sliceApplied_rev hs ?_)
  have hno : ¬ (((items.size : Int) - 1 == 0 && (-1 : Int) == 1 && items.size == items.size) = true) := by simp
  show wpAny _ _ (if ((items.size : Int) - 1 == 0 && (-1 : Int) == 1 && items.size == items.size) = true then _ else _) _ _ s
  rw [if_neg hno, rev_pick]
  first
    | exact wpAny_bind (m := Builtin.Tuple.tupleExact _) (wpAny_newObj_type (wpAny_pure ⟨_, rfl, wpAny_pure h⟩) htake)
    | exact wpAny_bind (wpAny_bind (m := Builtin.Tuple.tupleExact _) (wpAny_newObj_type (wpAny_pure ⟨_, rfl, wpAny_pure h⟩) htake))
def tRevT (K : PySem.W.Frag) (te : TE) : TE := fun σ H Q => te σ H fun x H1 => ∃ a xs, x = .ref a ∧ SqT K H1 a xs ∧ ∀ p, H1 p = none → Q (.ref p) (upd H1 p (.tup xs.reverse))
theorem pe_revT {X : Cx} {e : Expr} {te : TE} {k : Nat} {p1 p2 p3 pos : Pos} (he : PE X e te) : PE X (.Subscript e (.Slice none none (some (.UnaryOp .USub (.Constant (.int 1) k p1) p2)) p3) pos) (tRevT X.K te) := by
  refine ⟨fun pins s σ H Q I h => ?_⟩
  refine Subscript_ (thn (he.run pins s σ H _ I h) fun v s1 ⟨x, H1, I1, r1, q1⟩ => ?_)
  obtain ⟨a, xs, rfl, hx, q⟩ := q1
  cases r1
  have hst : PO X (some (.UnaryOp .USub (.Constant (.int 1) k p1) p2)) (tPart (tUn (rU fun i => .int (-i)) (tC (.int 1)))) := po_some (pe_un un_neg pe_int)
  refine wpAny_Slice (thn (po_none.run pins s1 σ H1 (fun o H2 => o = none ∧ H2 = H1) I1 ⟨rfl, rfl⟩) fun vl s2 ⟨l, H2, I2, pl, el, e2⟩ => ?_)
  subst el e2
  refine thn (po_none.run pins s2 σ H2 (fun o H3 => o = none ∧ H3 = H2) I2 ⟨rfl, rfl⟩) fun vu s3 ⟨u, H3, I3, pu, eu, e3⟩ => ?_
  subst eu e3
  refine thn (hst.run pins s3 σ H3 (fun o H4 => o = some (-1) ∧ H4 = H3) I3 ⟨1, rfl, -1, rfl, rfl, rfl⟩) fun vs s4 ⟨o, H4, I4, ps, eo, e4⟩ => ?_
  subst eo e4
  obtain rfl : vl = .none := by
    cases pl
    rfl
  obtain rfl : vu = .none := by
    cases pu
    rfl
  obtain ⟨tk, rfl⟩ : ∃ tk, vs = .int (-1) tk := by
    cases ps
    exact ⟨_, rfl⟩
  have I5 : Inv X pins σ H4 { s4 with heap := s4.heap.push { cls := .type "slice", data := .fields #[.none, .none, .int (-1) tk] } } := I4.kept (t' := s4.toks) fun b ob q => Heap.get?_push_of_some _ q
  obtain ⟨its, r, ht, hz⟩ := I5.tuple hx
  have hlen := r.length
  show wpAny (model X.prog X.w) X.A (subscriptTail e (.Slice none none (some (.UnaryOp .USub (.Constant (.int 1) k p1) p2)) p3) (.ref a) (.ref s4.heap.objs.size)) (EP X pins σ Q) X.xe { s4 with heap := s4.heap.push { cls := .type "slice", data := .fields #[.none, .none, .int (-1) tk] } }
  refine tail_any (ops := [.ref a, .ref s4.heap.objs.size]) ht.typeIs (PyProof.Rows.slot_tuple_getitem.lookup) ?_ (by with_unfolding_all rfl)
  refine getItem_tuple_rev ht (Heap.IsSliceOf.new _ .none .none (.int (-1) tk)) ?_ (by rw [List.size_toArray]; omega)
  refine ⟨.ref _, _, I5.laid (t' := s4.toks) (o := .tup xs.reverse) (fun b ob q => Heap.get?_push_of_some _ q) (Nat.le_refl _) ?_, rfl, q _ (I5.hok.fresh (Nat.le_refl _))⟩
  exact ⟨by rw [List.length_reverse]; exact hz, _, r.reverse, IsTup.new _ _⟩
end Ksec
set_option Elab.async false
set_option linter.all false
set_option maxRecDepth 100000
namespace Ksec
open PySem PySem.Spec PyProof.Rows L2
/-! the text -/
def topS (i : Nat) : Stmt := PySem.Challenge.pw_fairsearch_k03_renamed.main.body.getD i (.Pass ⟨0, 0, 0, 0⟩)
abbrev sWhole : Stmt := topS 1
abbrev sIsUnk : Stmt := topS 2
abbrev sIsPair : Stmt := topS 3
theorem scWhole : FnScope ["thing"] ["thing"] (defScope sWhole) := ⟨rfl, rfl, rfl, by decide +kernel, rfl, by decide +kernel, by decide +kernel⟩
theorem scIsUnk : FnScope ["thing"] ["thing"] (defScope sIsUnk) := ⟨rfl, rfl, rfl, by decide +kernel, rfl, by decide +kernel, by decide +kernel⟩
theorem scIsPair : FnScope ["thing"] ["thing"] (defScope sIsPair) := ⟨rfl, rfl, rfl, by decide +kernel, rfl, by decide +kernel, by decide +kernel⟩
/-! the terms -/
inductive Tm where
  | int (i : Int)
  | wrd (z : Str)
  | nil
  | unk (n : Int)
  | pair (a b : Tm)
/-- a word: one to eight small letters -/
def Wd (z : Str) : Prop := 1 ≤ z.length ∧ z.length ≤ 8 ∧ ∀ c ∈ z.cps.toList, 97 ≤ c ∧ c ≤ 122
namespace Tm
def ok : Tm → Prop
  | .int i => i.natAbs ≤ 1000000000000
  | .wrd z => Wd z
  | .nil => True
  | .unk n => 0 ≤ n ∧ n ≤ 999999
  | .pair a b => a.ok ∧ b.ok
def depth : Tm → Nat
  | .pair a b => max a.depth b.depth + 1
  | _ => 1
def size : Tm → Nat
  | .pair a b => a.size + b.size + 1
  | _ => 1
def isUnk : Tm → Bool
  | .unk _ => true
  | _ => false
def isPair : Tm → Bool
  | .pair _ _ => true
  | _ => false
def data : Tm → PyData
  | .int i => .int i
  | .wrd z => .str z
  | .nil => .tuple []
  | .unk n => .tuple [.str "?", .int n]
  | .pair a b => .tuple [a.data, b.data]
theorem data_depth : ∀ t : Tm, t.data.depth ≤ t.depth
  | .int _ => Nat.zero_le _
  | .wrd _ => Nat.zero_le _
  | .nil => Nat.le_refl _
  | .unk _ => Nat.le_refl _
  | .pair a b => by
    have h1 := data_depth a
    have h2 := data_depth b
    show max a.data.depth (max b.data.depth 0) + 1 ≤ max a.depth b.depth + 1
    omega
end Tm
theorem wd_ok {z : Str} (h : Wd z) : PyData.strOk z = true := by
  obtain ⟨h1, h2, h3⟩ := h
  unfold PyData.strOk
  rw [← Array.all_toList, List.all_eq_true]
  intro c hc
  have := h3 c hc
  exact decide_eq_true (by omega)
theorem wd_ne {z : Str} (h : Wd z) : z ≠ ("?" : Str) := by
  intro e
  subst e
  have := h.2.2 63 (by decide)
  omega
theorem Tm.lay : ∀ {t : Tm}, t.ok → t.data.canLay0 = true
  | .int _, _ => rfl
  | .wrd z, h => wd_ok h
  | .nil, _ => rfl
  | .unk _, _ => by
    show (PyData.strOk "?" && (true && true)) = true
    decide +kernel
  | .pair a b, h => by
    show (a.data.canLay0 && (b.data.canLay0 && true)) = true
    rw [Tm.lay h.1, Tm.lay h.2]
    rfl
theorem Tm.shp {t : Tm} (h : t.ok) (d : t.depth ≤ 64) : SeqAt.shaped t.data = true := by
  unfold SeqAt.shaped
  rw [Tm.lay h, decide_eq_true (Nat.le_trans t.data_depth d)]
  rfl
/-- x is the term t in H -/
inductive IsTm (H : Hp) : V → Tm → Prop where
  | int (i : Int) : IsTm H (.int i) (.int i)
  | wrd (z : Str) : IsTm H (.str z) (.wrd z)
  | nil {a : Addr} (h : H a = some (.tup [])) : IsTm H (.ref a) .nil
  | unk {a : Addr} {n : Int} (h : H a = some (.tup [.str "?", .int n])) : IsTm H (.ref a) (.unk n)
  | pair {a : Addr} {x y : V} {t u : Tm} (h : H a = some (.tup [x, y])) (h1 : IsTm H x t) (h2 : IsTm H y u) : IsTm H (.ref a) (.pair t u)
/-- tuples stay -/
def Tup (H H' : Hp) : Prop := ∀ b xs, H b = some (.tup xs) → H' b = some (.tup xs)
theorem Tup.refl (H : Hp) : Tup H H := fun _ _ h => h
theorem Tup.trans {H H1 H2 : Hp} (a : Tup H H1) (b : Tup H1 H2) : Tup H H2 := fun c xs h => b c xs (a c xs h)
theorem IsTm.keep {H H' : Hp} (k : Tup H H') {x : V} {t : Tm} (h : IsTm H x t) : IsTm H' x t := by
  induction h with
  | int i => exact .int i
  | wrd z => exact .wrd z
  | nil h => exact .nil (k _ _ h)
  | unk h => exact .unk (k _ _ h)
  | pair h _ _ i1 i2 => exact .pair (k _ _ h) i1 i2
theorem IsTm.dp {K : PySem.W.Frag} {H : Hp} {x : V} {t : Tm} (h : IsTm H x t) : Dp K H x t.data := by
  induction h with
  | int i => exact .int i
  | wrd z => exact .str z
  | nil h => exact .tup (.inl (.inl h)) .nil
  | unk h => exact .tup (.inl (.inl h)) (.cons (.str _) (.cons (.int _) .nil))
  | pair h _ _ i1 i2 => exact .tup (.inl (.inl h)) (.cons i1 (.cons i2 .nil))
/-- the type's name -/
def Tm.ty : Tm → String
  | .int _ => "int"
  | .wrd _ => "str"
  | _ => "tuple"
theorem IsTm.tyx {K : PySem.W.Frag} {H : Hp} {x : V} {t : Tm} (h : IsTm H x t) : TyX K H x (.type t.ty) := by
  cases h with
  | int i => exact .base (.int i)
  | wrd z => exact .base (.str z)
  | nil h => exact .base (.tup h)
  | unk h => exact .base (.tup h)
  | pair h _ _ => exact .base (.tup h)
theorem Tm.isTup (t : Tm) : kitB t.ty "tuple" = some (t.ty == "tuple") := by
  cases t with
  | int i => show kitB "int" "tuple" = some ("int" == "tuple"); decide +kernel
  | wrd i => show kitB "str" "tuple" = some ("str" == "tuple"); decide +kernel
  | nil => decide +kernel
  | unk i => show kitB "tuple" "tuple" = some ("tuple" == "tuple"); decide +kernel
  | pair i j => show kitB "tuple" "tuple" = some ("tuple" == "tuple"); decide +kernel
theorem eqv_qq : PyData.eqv (.str "?") (.str "?") = true := by decide +kernel
theorem Tm.noq : ∀ {t : Tm}, t.ok → PyData.eqv t.data (.str "?") = false
  | .int _, _ => by simp [Tm.data, PyData.eqv]
  | .wrd z, h => by
    show PyData.eqv (.str z) (.str "?") = false
    unfold PyData.eqv
    exact beq_eq_false_iff_ne.mpr (wd_ne h)
  | .nil, _ => by simp [Tm.data, PyData.eqv]
  | .unk _, _ => by simp [Tm.data, PyData.eqv]
  | .pair _ _, _ => by simp [Tm.data, PyData.eqv]
theorem shp_q : SeqAt.shaped (.str "?") = true := by decide +kernel
section
variable {P : Program} {w : World} {K : PySem.W.Frag} {mg : Str → Option Value} {base : Heap}
/-! is_whole -/
def spWhole (K : PySem.W.Frag) : Sp := fun vs H Q _ => ∃ (x : V) (T : String) (b1 b2 : Bool), vs = [x] ∧ TyX K H x (.type T) ∧ kitB T "int" = some b1 ∧ kitB T "bool" = some b2 ∧ Q (.bl (b1 && !b2)) H
theorem ok_whole {f : Addr} {fd : FuncData} {k : Nat} (F : Fun K "is_whole" "is_whole" sWhole f fd) (mi : mg "isinstance" = none) (m1 : mg "int" = none) (m2 : mg "bool" = none) :
    FnOk P w K mg base CX0 (k + 1) f fd ["thing"] (spWhole K) := by
  refine F.ok scWhole (fun vs H Q E h => ?_) (fun cdv A outer s H vs Q E hr h => ?_)
  · obtain ⟨x, _, _, _, rfl, _⟩ := h
    rfl
  · obtain ⟨x, T, b1, b2, rfl, ty, e1, e2, q⟩ := h
    refine ⟨_, pss_one (ps_ret (pe_and (pe_callB call_isi (by rfl) mi (by decide +kernel) (pa_cons (pv 0) (pa_cons (pe_bltn (v := .ty "int") (by rfl) m1 (by decide +kernel) rfl) pa_nil)))
      (pe_one (pe_not (pe_callB call_isi (by rfl) mi (by decide +kernel) (pa_cons (pv 0) (pa_cons (pe_bltn (v := .ty "bool") (by rfl) m2 (by decide +kernel) rfl) pa_nil))))))), ?_⟩
    refine ⟨x, rfl, x, .ty "int", _, _, b1, rfl, .ty _, ty, kit_ty e1, b1, rfl, ?_⟩
    cases b1 with
    | false => exact iteF q
    | true => exact iteT ⟨x, rfl, x, .ty "bool", _, _, b2, rfl, .ty _, ty, kit_ty e2, b2, rfl, q⟩
/-! is_unknown -/
def spIsUnk : Sp := fun vs H Q _ => ∃ (x : V) (t : Tm), vs = [x] ∧ IsTm H x t ∧ t.ok ∧ t.depth ≤ 64 ∧ Q (.bl t.isUnk) H
theorem ok_isunk {f fW : Addr} {fd fdW : FuncData} {k : Nat} (F : Fun K "is_unknown" "is_unknown" sIsUnk f fd) (FW : Fun K "is_whole" "is_whole" sWhole fW fdW) (bW : Binds K fdW ["thing"] []) (gW : mg "is_whole" = some (.ref fW))
    (mi : mg "isinstance" = none) (m1 : mg "int" = none) (m2 : mg "bool" = none) (m3 : mg "tuple" = none) (m4 : mg "len" = none) : FnOk P w K mg base CX0 (k + 2) f fd ["thing"] spIsUnk := by
  have GW : FnOk P w K mg base CX0 (k + 1) fW fdW ["thing"] (spWhole K) := ok_whole FW mi m1 m2
  refine F.ok scIsUnk (fun vs H Q E h => ?_) (fun cdv A outer s H vs Q E hr h => ?_)
  · obtain ⟨x, _, rfl, _⟩ := h
    rfl
  · obtain ⟨x, t, rfl, hx, ho, hd, q⟩ := h
    refine ⟨_, pss_cons (ps_if (PW.pt (pw_or (pt_not (pt_val (pe_callB call_isi (by rfl) mi (by decide +kernel) (pa_cons (pv 0) (pa_cons (pe_bltn (v := .ty "tuple") (by rfl) m3 (by decide +kernel) rfl) pa_nil)))))
        (pw_or1 (pt_cmpR op_ne (pe_callB call_len_seq (by rfl) m4 PySem.boot_len (pa_cons (pv 0) pa_nil)) pe_int (nomark _))))) (pss_one (ps_ret pe_bl)) pss_nil)
      (pss_one (ps_ret (pe_and (pe_cmpR (op_eqD hr.units) (pe_ix ix_tup (pv 0) pe_int (fun _ _ => rfl)) pe_str (nomark _))
        (pe_and (pe_call GW hr (by rfl) gW FW.kp bW .nil pass0 (pa_cons (pe_ix ix_tup (pv 0) pe_int (fun _ _ => rfl)) pa_nil))
          (pe_one (pe_cmpR op_ge (pe_ix ix_tup (pv 0) pe_int (fun _ _ => rfl)) pe_int (nomark _))))))), ?_⟩
    refine ⟨x, rfl, x, .ty "tuple", _, _, _, rfl, .ty _, hx.tyx, kit_ty t.isTup, _, rfl, ?_⟩
    cases hx with
    | int i => exact iteT (iteT q)
    | wrd z => exact iteT (iteT q)
    | @nil a h0 =>
      refine iteF ⟨.ref a, rfl, a, [], rfl, .inr (.inl (.inl h0)), rfl, _, rfl, ?_⟩
      exact iteT q
    | @unk a n h0 =>
      refine iteF ⟨.ref a, rfl, a, _, rfl, .inr (.inl (.inl h0)), rfl, _, rfl, ?_⟩
      refine iteF ?_
      refine ⟨.ref a, rfl, a, _, 0, .str "?", rfl, rfl, .inl (.inl h0), atI_nat (j := 0) rfl, .str "?", .str "?", .str _, .str _, shp_q, shp_q, true, ?_, ?_⟩
      · rw [eqv_qq]
      refine iteT ?_
      refine ⟨.ref a, rfl, a, _, 1, .int n, rfl, rfl, .inl (.inl h0), atI_nat (j := 1) rfl, .int n, "int", true, false, rfl, .base (.int n), by decide +kernel, by decide +kernel, true, rfl, iteT ?_⟩
      refine ⟨.ref a, rfl, a, _, 1, .int n, rfl, rfl, .inl (.inl h0), atI_nat (j := 1) rfl, n, 0, rfl, rfl, ?_⟩
      have e : decide ((0 : Int) ≤ n) = true := decide_eq_true ho.1
      show Q (.bl (decide ((0 : Int) ≤ n))) H
      rw [e]
      exact q
    | @pair a y z t u h0 h1 h2 =>
      refine iteF ⟨.ref a, rfl, a, _, rfl, .inr (.inl (.inl h0)), rfl, _, rfl, ?_⟩
      refine iteF ?_
      refine ⟨.ref a, rfl, a, _, 0, y, rfl, rfl, .inl (.inl h0), atI_nat (j := 0) rfl, _, .str "?", h1.dp, .str _, Tm.shp ho.1 ?_, shp_q, false, ?_, ?_⟩
      · have e : (Tm.pair t u).depth = max t.depth u.depth + 1 := rfl
        omega
      · rw [Tm.noq ho.1]
      exact iteF q
/-! is_pair -/
def spIsPair : Sp := fun vs H Q _ => ∃ (x : V) (t : Tm), vs = [x] ∧ IsTm H x t ∧ t.ok ∧ t.depth ≤ 64 ∧ Q (.bl t.isPair) H
theorem ok_ispair {f : Addr} {fd : FuncData} {k : Nat} (F : Fun K "is_pair" "is_pair" sIsPair f fd) (mi : mg "isinstance" = none) (m3 : mg "tuple" = none) (m4 : mg "len" = none) :
    FnOk P w K mg base CX0 (k + 1) f fd ["thing"] spIsPair := by
  refine F.ok scIsPair (fun vs H Q E h => ?_) (fun cdv A outer s H vs Q E hr h => ?_)
  · obtain ⟨x, _, rfl, _⟩ := h
    rfl
  · obtain ⟨x, t, rfl, hx, ho, hd, q⟩ := h
    refine ⟨_, pss_one (ps_ret (pe_and (pe_callB call_isi (by rfl) mi (by decide +kernel) (pa_cons (pv 0) (pa_cons (pe_bltn (v := .ty "tuple") (by rfl) m3 (by decide +kernel) rfl) pa_nil)))
        (pe_and (pe_cmpR op_eq (pe_callB call_len_seq (by rfl) m4 PySem.boot_len (pa_cons (pv 0) pa_nil)) pe_int (nomark _))
          (pe_one (pe_cmpR (op_neD hr.units) (pe_ix ix_tup (pv 0) pe_int (fun _ _ => rfl)) pe_str (nomark _)))))), ?_⟩
    refine ⟨x, rfl, x, .ty "tuple", _, _, _, rfl, .ty _, hx.tyx, kit_ty t.isTup, _, rfl, ?_⟩
    cases hx with
    | int i => exact iteF q
    | wrd z => exact iteF q
    | @nil a h0 => exact iteT ⟨.ref a, rfl, a, [], rfl, .inr (.inl (.inl h0)), rfl, _, rfl, iteF q⟩
    | @unk a n h0 =>
      refine iteT ⟨.ref a, rfl, a, _, rfl, .inr (.inl (.inl h0)), rfl, _, rfl, iteT ?_⟩
      refine ⟨.ref a, rfl, a, _, 0, .str "?", rfl, rfl, .inl (.inl h0), atI_nat (j := 0) rfl, .str "?", .str "?", .str _, .str _, shp_q, shp_q, ?_⟩
      rw [eqv_qq]
      exact q
    | @pair a y z t u h0 h1 h2 =>
      refine iteT ⟨.ref a, rfl, a, _, rfl, .inr (.inl (.inl h0)), rfl, _, rfl, iteT ?_⟩
      refine ⟨.ref a, rfl, a, _, 0, y, rfl, rfl, .inl (.inl h0), atI_nat (j := 0) rfl, _, .str "?", h1.dp, .str _, Tm.shp ho.1 ?_, shp_q, ?_⟩
      · have e : (Tm.pair t u).depth = max t.depth u.depth + 1 := rfl
        omega
      · rw [Tm.noq ho.1]
        exact q
end
end Ksec
set_option Elab.async false
set_option linter.all false
set_option maxRecDepth 100000
namespace Ksec
open PySem PySem.Spec PyProof.Rows L2
abbrev sOf : Stmt := topS 4
theorem scOf : FnScope ["terms", "found", "waiting", "part"] ["terms"] (defScope sOf) := ⟨rfl, rfl, rfl, by decide +kernel, rfl, by decide +kernel, by decide +kernel⟩
/-! the mathematics -/
def addN (acc : List Int) (n : Int) : List Int := if n ∈ acc then acc else acc ++ [n]
def addAll (acc ns : List Int) : List Int := ns.foldl addN acc
def Tm.uks : Tm → List Int
  | .unk n => [n]
  | .pair a b => a.uks ++ b.uks
  | _ => []
def flat : List Tm → List Int
  | [] => []
  | t :: ts => t.uks ++ flat ts
def sizes : List Tm → Nat
  | [] => 0
  | t :: ts => t.size + sizes ts
theorem Tm.size_pos (t : Tm) : 1 ≤ t.size := by cases t <;> simp only [Tm.size] <;> omega
theorem len_sizes : ∀ ts : List Tm, ts.length ≤ sizes ts
  | [] => Nat.le_refl _
  | t :: ts => by
    have := len_sizes ts
    have := t.size_pos
    show ts.length + 1 ≤ t.size + sizes ts
    omega
theorem addN_len (acc : List Int) (n : Int) : (addN acc n).length ≤ acc.length + 1 := by
  unfold addN
  split
  · omega
  · simp
def kys (acc : List Int) : List (Key × V) := acc.map fun n => (Sum.inl n, V.bl true)
theorem kys_val (n : Int) : ∀ acc : List Int, valV (kys acc) (Sum.inl n) = if n ∈ acc then some (.bl true) else none
  | [] => rfl
  | m :: r => by
    show valV ((Sum.inl m, V.bl true) :: kys r) (Sum.inl n) = _
    by_cases e : m = n
    · subst e
      rw [valV_pos rfl, if_pos (List.mem_cons_self ..)]
    · rw [valV_neg (fun z => e (Sum.inl.inj z)), kys_val n r]
      by_cases h : n ∈ r
      · rw [if_pos h, if_pos (List.mem_cons_of_mem _ h)]
      · rw [if_neg h, if_neg (fun z => (List.mem_cons.mp z).elim (fun z => e z.symm) h)]
theorem kys_put (acc : List Int) (n : Int) : putK (kys acc) (Sum.inl n) (.bl true) = kys (addN acc n) := by
  have hv := kys_val n acc
  unfold addN
  by_cases h : n ∈ acc
  · rw [if_pos h]
    rw [if_pos h] at hv
    unfold putK
    rw [valV_any, hv, if_pos (show (some (V.bl true)).isSome = true from rfl)]
    unfold kys
    rw [List.map_map]
    apply List.map_congr_left
    intro m _
    show (if (Sum.inl m : Key) = Sum.inl n then ((Sum.inl m : Key), V.bl true) else (Sum.inl m, V.bl true)) = _
    split <;> rfl
  · rw [if_neg h] at hv ⊢
    rw [putK_new _ hv]
    unfold kys
    rw [List.map_append]
    rfl
theorem kys_keys (acc : List Int) : ((kys acc).map fun kv => kV kv.1) = acc.map V.int := by
  unfold kys
  rw [List.map_map]
  rfl
theorem addAll_append (acc a b : List Int) : addAll acc (a ++ b) = addAll (addAll acc a) b := List.foldl_append ..
def uniq (ts : List Tm) : List Int := addAll [] (flat ts)
/-- values that are terms -/
abbrev AreTm (H : Hp) : List V → List Tm → Prop := Paired (IsTm H)
theorem areKeep {H H' : Hp} (k : Tup H H') : ∀ {xs : List V} {ts : List Tm}, AreTm H xs ts → AreTm H' xs ts
  | _, _, .nil => .nil
  | _, _, .cons h t => .cons (h.keep k) (areKeep k t)
def Fine (t : Tm) : Prop := t.ok ∧ t.depth ≤ 64
theorem same_upd {H : Hp} {p : Addr} {o : HO} (h : H p = none) : Same H (upd H p o) := fun b x e => by
  rw [upd_ne (ne_of_none e h)]
  exact e
theorem sameTup {H H' : Hp} (s : Same H H') : Tup H H' := fun b xs h => s b _ h
theorem tup_upd {H : Hp} {p : Addr} {o u : HO} (h : H p = some u) (hu : ∀ xs, u ≠ .tup xs) : Tup H (upd H p o) := fun b xs e => by
  rw [upd_ne (ne_of e h (fun z => hu xs z.symm))]
  exact e
/-! lists of ints as data -/
theorem dpInts {K : PySem.W.Frag} {H : Hp} : ∀ ns : List Int, DpAll K H (ns.map V.int) (ns.map .int)
  | [] => .nil
  | n :: r => .cons (.int n) (dpInts r)
theorem layInts : ∀ ns : List Int, PyData.canLayAll0 (ns.map .int) = true
  | [] => rfl
  | n :: r => by
    show (true && PyData.canLayAll0 (r.map .int)) = true
    rw [layInts r]
    rfl
theorem depInts : ∀ ns : List Int, PyData.depthAll (ns.map .int) = 0
  | [] => rfl
  | n :: r => by
    show max 0 (PyData.depthAll (r.map .int)) = 0
    rw [depInts r]
    rfl
theorem shpL (ns : List Int) : SeqAt.shaped (.list (ns.map .int)) = true := by
  have h1 : (PyData.list (ns.map .int)).canLay0 = true := layInts ns
  have h2 : (PyData.list (ns.map .int)).depth ≤ 64 := by
    show PyData.depthAll (ns.map .int) + 1 ≤ 64
    rw [depInts]
    decide
  unfold SeqAt.shaped
  rw [h1, decide_eq_true h2]
  rfl
theorem shpT (ns : List Int) : SeqAt.shaped (.tuple (ns.map .int)) = true := shpL ns
theorem eqvInts : ∀ ns ms : List Int, PyData.eqvAll (ns.map .int) (ms.map .int) = decide (ns = ms)
  | [], [] => rfl
  | [], _ :: _ => rfl
  | _ :: _, [] => rfl
  | n :: r, m :: q => by
    show ((PyData.int n).eqv (.int m) && PyData.eqvAll (r.map .int) (q.map .int)) = _
    rw [eqvInts r q]
    unfold PyData.eqv
    by_cases e : n = m
    · subst e
      by_cases e2 : r = q
      · subst e2
        simp
      · simp [e2]
    · simp [e]
theorem eqvL (ns ms : List Int) : PyData.eqv (.list (ns.map .int)) (.list (ms.map .int)) = decide (ns = ms) := by
  unfold PyData.eqv
  exact eqvInts ns ms
theorem eqvT (ns ms : List Int) : PyData.eqv (.tuple (ns.map .int)) (.tuple (ms.map .int)) = decide (ns = ms) := by
  unfold PyData.eqv
  exact eqvInts ns ms
section
variable {P : Program} {w : World} {K : PySem.W.Frag} {mg : Str → Option Value} {base : Heap}
def spOf (K : PySem.W.Frag) : Sp := fun vs H Q _ => ∃ (a : Addr) (xs : List V) (ts : List Tm), vs = [.ref a] ∧ SqT K H a xs ∧ AreTm H xs ts ∧ (∀ t ∈ ts, Fine t) ∧ sizes ts ≤ 100000 ∧
  ∀ H' p, Same H H' → H p = none → H' p = some (.tup ((uniq ts).map V.int)) → Q (.ref p) H'
theorem ok_of {f fU fP : Addr} {fd fdU fdP : FuncData} {k : Nat} (F : Fun K "unknowns_of" "unknowns_of" sOf f fd)
    (GU : FnOk P w K mg base CX0 (k + 2) fU fdU ["thing"] spIsUnk) (bU : Binds K fdU ["thing"] []) (gU : mg "is_unknown" = some (.ref fU)) (kU : PySem.W.keepIn K (.ref fU) = true)
    (GP : FnOk P w K mg base CX0 (k + 2) fP fdP ["thing"] spIsPair) (bP : Binds K fdP ["thing"] []) (gP : mg "is_pair" = some (.ref fP)) (kP : PySem.W.keepIn K (.ref fP) = true)
    (m1 : mg "list" = none) (m2 : mg "reversed" = none) (m3 : mg "tuple" = none) : FnOk P w K mg base CX0 (k + 3) f fd ["terms"] (spOf K) := by
  refine F.ok scOf (fun vs H Q E h => ?_) (fun cdv A outer s H vs Q E hr h => ?_)
  · obtain ⟨a, _, _, rfl, _⟩ := h
    rfl
  · obtain ⟨a, xs, ts, rfl, hS, hT, hF, hz, q⟩ := h
    refine ⟨_, pss_cons (ps_set (i := 1) scOf.nd rfl (.inl rfl) pe_dnewK) (pss_cons (ps_set (i := 2) scOf.nd rfl (.inl rfl) (pe_lstRev rfl (by rfl) m1 (by rfl) m2 (pv 0)))
      (pss_cons (ps_while PassesOwn.never (pt_truth (pv 2) (by intro _; rfl))
        (pss_cons (ps_set (i := 3) scOf.nd rfl (.inl rfl) (pe_bm0 PySem.F.plainAttrs_list PySem.F.slot_list_pop PySem.F.type_list_pop mt_pop (pv 2)))
          (pss_one (ps_if (pt_val (pe_call GU hr (by rfl) gU kU bU .nil pass0 (pa_cons (pv 3) pa_nil)))
            (pss_one (ps_dput (hu_of hr) (pv 1) (pe_ix ix_tup (pv 3) pe_int (fun _ _ => rfl)) pe_bl rfl))
            (pss_one (ps_if (pt_val (pe_call GP hr (by rfl) gP kP bP .nil pass0 (pa_cons (pv 3) pa_nil)))
              (pss_cons (ps_expr (pe_bm PySem.F.plainAttrs_list PySem.F.slot_list_append PySem.F.type_list_append mt_append (pv 2) (pa_cons (pe_ix ix_tup (pv 3) pe_int (fun _ _ => rfl)) pa_nil)))
                (pss_one (ps_expr (pe_bm PySem.F.plainAttrs_list PySem.F.slot_list_append PySem.F.type_list_append mt_append (pv 2) (pa_cons (pe_ix ix_tup (pv 3) pe_int (fun _ _ => rfl)) pa_nil)))))
              pss_nil))))))
      (pss_one (ps_ret (pe_callTy (call_tuple_dK rfl) (by rfl) m3 (by decide +kernel) (pa_cons (pv 1) pa_nil)))))), ?_⟩
    intro d nd
    have s1 : Same H (upd H d (.dK [])) := same_upd nd
    refine ⟨.ref a, rfl, a, xs, rfl, ?_, fun l nl => ?_⟩
    · rcases hS with (h | ⟨o, h⟩) | h
      · exact .inl (.inl (s1 _ _ h))
      · exact .inl (.inr ⟨o, s1 _ _ h⟩)
      · exact .inr h
    have s2 : Same (upd H d (.dK [])) (upd (upd H d (.dK [])) l (.lst xs.reverse)) := same_upd nl
    have hl0 : H l = none := s1.free nl
    have hdl : d ≠ l := fun e => by
      rw [← e, upd_same] at nl
      cases nl
    refine ⟨fun m σ H' => ∃ (y3 : Option V) (acc : List Int) (vs : List V) (st : List Tm), σ = [some (.ref a), some (.ref d), some (.ref l), y3] ∧ m = sizes st ∧ acc.length + m ≤ 100000 ∧ addAll acc (flat st) = uniq ts ∧
      H' d = some (.dK (kys acc)) ∧ H' l = some (.lst vs.reverse) ∧ AreTm H' vs st ∧ (∀ t ∈ st, Fine t) ∧ Same H H', ⟨sizes ts, none, [], xs, ts, rfl, rfl, ?_, rfl, ?_, upd_same, areKeep (sameTup (s1.trans s2)) hT, hF, s1.trans s2⟩, fun m σ H' hW => ?_⟩
    · simpa using hz
    · rw [upd_ne hdl, upd_same]
      rfl
    obtain ⟨y3, acc, vs, st, rfl, rfl, hm, hu, hd, hl, hA, hFs, sm⟩ := hW
    refine ⟨.ref l, rfl, _, .inl ⟨_, .inl (.inl hl), rfl⟩, ?_⟩
    cases hA with
    | nil =>
      refine iteF ⟨.ref d, rfl, d, _, rfl, hd, fun p np => ?_⟩
      rw [kys_keys, show acc = uniq ts from hu]
      exact q _ p (sm.trans (same_upd np)) (sm.free np) upd_same
    | @cons x t vs st hx hr' =>
      have ht := hFs t (List.mem_cons_self ..)
      have hst : ∀ u ∈ st, Fine u := fun u h => hFs u (List.mem_cons_of_mem _ h)
      have hsz : sizes (t :: st) = t.size + sizes st := rfl
      have tp := t.size_pos
      have hlen := len_sizes st
      have hvl : vs.length = st.length := Paired.length hr'
      have hrev : (x :: vs).reverse = vs.reverse ++ [x] := List.reverse_cons
      rw [hrev] at hl ⊢
      refine ite2 (fun _ => ?_) (fun e => absurd (by simp) e)
      have hl2 : upd H' l (.lst (vs.reverse ++ [x]).dropLast) l = some (.lst vs.reverse) := by rw [upd_same, List.dropLast_concat]
      have sm2 : Same H (upd H' l (.lst (vs.reverse ++ [x]).dropLast)) := fun b o e => by
        rw [upd_ne (ne_of_none e hl0)]
        exact sm b o e
      have tu : Tup H' (upd H' l (.lst (vs.reverse ++ [x]).dropLast)) := tup_upd hl fun _ => by intro z; cases z
      have hd2 : upd H' l (.lst (vs.reverse ++ [x]).dropLast) d = some (.dK (kys acc)) := by
        rw [upd_ne hdl]
        exact hd
      have hx2 := hx.keep tu
      have hr2 := areKeep tu hr'
      refine ⟨fun σ' H'' => ∃ m', m' < sizes (t :: st) ∧ ∃ (y3 : Option V) (acc : List Int) (vs : List V) (st : List Tm), σ' = [some (.ref a), some (.ref d), some (.ref l), y3] ∧ m' = sizes st ∧ acc.length + m' ≤ 100000 ∧ addAll acc (flat st) = uniq ts ∧
        H'' d = some (.dK (kys acc)) ∧ H'' l = some (.lst vs.reverse) ∧ AreTm H'' vs st ∧ (∀ t ∈ st, Fine t) ∧ Same H H'', fun σ' H'' h => h, ?_⟩
      refine ⟨.ref l, rfl, .inl ⟨rfl, _, .inl (.inl hl)⟩, l, _, x, rfl, rfl, hl, by simp, ?_⟩
      generalize upd H' l (.lst (vs.reverse ++ [x]).dropLast) = H2 at *
      refine ⟨x, rfl, x, t, rfl, hx2, ht.1, ht.2, _, rfl, ?_⟩
      cases hx2 with
      | int i => exact iteF ⟨_, rfl, _, .int i, rfl, .int i, ht.1, ht.2, _, rfl, iteF ⟨sizes st, by omega, _, acc, vs, st, rfl, rfl, by omega, hu, hd2, hl2, hr2, hst, sm2⟩⟩
      | wrd z => exact iteF ⟨_, rfl, _, .wrd z, rfl, .wrd z, ht.1, ht.2, _, rfl, iteF ⟨sizes st, by omega, _, acc, vs, st, rfl, rfl, by omega, hu, hd2, hl2, hr2, hst, sm2⟩⟩
      | nil h0 => exact iteF ⟨_, rfl, _, .nil, rfl, .nil h0, ht.1, ht.2, _, rfl, iteF ⟨sizes st, by omega, _, acc, vs, st, rfl, rfl, by omega, hu, hd2, hl2, hr2, hst, sm2⟩⟩
      | @unk b n h0 =>
        refine iteT ⟨.ref d, rfl, .ref b, rfl, b, _, 1, .int n, rfl, rfl, .inl (.inl h0), atI_nat (j := 1) rfl, d, _, rfl, DPut.k (k := Sum.inl n) hd2 ?_, ?_⟩
        · have : (kys acc).length = acc.length := List.length_map ..
          rw [this]
          exact Nat.lt_of_le_of_lt (show acc.length ≤ 100000 by omega) (by decide)
        · have hn := addN_len acc n
          refine ⟨sizes st, by omega, _, addN acc n, vs, st, rfl, rfl, by omega, hu, ?_, ?_, areKeep (tup_upd hd2 fun _ => by intro z; cases z) hr2, hst, fun b o e => ?_⟩
          · rw [upd_same, kys_put]
          · rw [upd_ne hdl.symm]
            exact hl2
          · rw [upd_ne (ne_of_none e nd)]
            exact sm2 b o e
      | @pair b y z u1 u2 h0 h1 h2 =>
        have hsp : (Tm.pair u1 u2).size = u1.size + u2.size + 1 := rfl
        have hbl : b ≠ l := ne_of h0 hl2 (by intro z; cases z)
        refine iteF ⟨_, rfl, _, .pair u1 u2, rfl, .pair h0 h1 h2, ht.1, ht.2, _, rfl, iteT ?_⟩
        refine ⟨.ref l, rfl, .inl ⟨rfl, _, .inl (.inl hl2)⟩, .ref b, rfl, b, _, 1, z, rfl, rfl, .inl (.inl h0), atI_nat (j := 1) rfl, l, _, z, rfl, rfl, hl2, ?_, ?_⟩
        · rw [List.length_reverse]
          exact Nat.lt_of_le_of_lt (show vs.length ≤ 100000 by omega) (by decide)
        have h0' : upd H2 l (.lst (vs.reverse ++ [z])) b = some (.tup [y, z]) := by
          rw [upd_ne hbl]
          exact h0
        refine ⟨.ref l, rfl, .inl ⟨rfl, _, .inl (.inl upd_same)⟩, .ref b, rfl, b, _, 0, y, rfl, rfl, .inl (.inl h0'), atI_nat (j := 0) rfl, l, _, y, rfl, rfl, upd_same, ?_, ?_⟩
        · rw [List.length_append, List.length_reverse]
          exact Nat.lt_of_le_of_lt (show vs.length + 1 ≤ 100000 by omega) (by decide)
        have t1 : Tup H2 (upd H2 l (.lst (vs.reverse ++ [z]))) := tup_upd hl2 fun _ => by intro z; cases z
        have t2 := t1.trans (tup_upd (H := upd H2 l (.lst (vs.reverse ++ [z]))) (p := l) (o := .lst (vs.reverse ++ [z] ++ [y])) upd_same fun _ => by intro z; cases z)
        have hdp : (Tm.pair u1 u2).depth = max u1.depth u2.depth + 1 := rfl
        have htd := ht.2
        refine ⟨sizes (u1 :: u2 :: st), ?_, _, acc, y :: z :: vs, u1 :: u2 :: st, rfl, rfl, ?_, ?_, ?_, ?_, .cons (h1.keep t2) (.cons (h2.keep t2) (areKeep t2 hr2)), ?_, fun b o e => ?_⟩
        · show u1.size + (u2.size + sizes st) < _
          omega
        · show acc.length + (u1.size + (u2.size + sizes st)) ≤ _
          omega
        · rw [← hu]
          show addAll acc (u1.uks ++ (u2.uks ++ flat st)) = addAll acc (u1.uks ++ u2.uks ++ flat st)
          rw [List.append_assoc]
        · rw [upd_ne hdl, upd_ne hdl]
          exact hd2
        · rw [upd_same]
          simp
        · intro t h
          rcases List.mem_cons.mp h with rfl | h
          · exact ⟨ht.1.1, by omega⟩
          rcases List.mem_cons.mp h with rfl | h
          · exact ⟨ht.1.2, by omega⟩
          · exact hst t h
        · rw [upd_ne (ne_of_none e hl0), upd_ne (ne_of_none e hl0)]
          exact sm2 b o e
end
end Ksec
set_option Elab.async false
set_option linter.all false
set_option maxRecDepth 100000
namespace Ksec
open PySem PySem.Spec PyProof.Rows L2
abbrev sDeck : Stmt := topS 10
abbrev sDraw : Stmt := topS 11
theorem scDeck : FnScope ["_law_script", "_law_cells"] ["_law_script"] (defScope sDeck) := ⟨rfl, rfl, rfl, by decide +kernel, rfl, by decide +kernel, by decide +kernel⟩
theorem scDraw : FnScope ["_law_deck_here", "_law_many", "_law_cells", "_law_cell", "_law_number_here"] ["_law_deck_here", "_law_many"] (defScope sDraw) := ⟨rfl, rfl, rfl, by decide +kernel, rfl, by decide +kernel, by decide +kernel⟩
/-- a deck at d, its cells at c -/
def Dk (H : Hp) (d c : Addr) : Prop := ∃ (ns : List Int) (s n : Int), H d = some (.lst [.ref c, .int s, .int n]) ∧ H c = some (.lst (ns.map V.int)) ∧ ns.length ≤ 63
theorem cutTo (xs : List V) (k : Nat) : cutV xs none (some (k : Int)) = xs.take k := by
  unfold cutV
  rw [HT.sIx_none, HT.sIx_nat]
  show (xs.drop 0).take (min k xs.length - 0) = xs.take k
  rw [List.drop_zero, Nat.sub_zero]
  by_cases h : k ≤ xs.length
  · rw [Nat.min_eq_left h]
  · rw [Nat.min_eq_right (by omega), List.take_length, List.take_of_length_le (by omega)]
/-- all but the deck stays -/
def Kp (d c : Addr) (H H' : Hp) : Prop := ∀ b o, b ≠ d → b ≠ c → H b = some o → H' b = some o
section
variable {P : Program} {w : World} {K : PySem.W.Frag} {mg : Str → Option Value} {base : Heap}
def spDeck (K : PySem.W.Frag) : Sp := fun vs H Q _ => ∃ (a : Addr) (ns : List Int), vs = [.ref a] ∧ SqL K H a (ns.map V.int) ∧ ∀ H' d c, Same H H' → H d = none → H c = none → Dk H' d c → Q (.ref d) H'
theorem ok_deck {f : Addr} {fd : FuncData} {k : Nat} (F : Fun K "_law_deck" "_law_deck" sDeck f fd) (m1 : mg "list" = none) (m2 : mg "sum" = none) : FnOk P w K mg base CX0 (k + 1) f fd ["_law_script"] (spDeck K) := by
  refine F.ok scDeck (fun vs H Q E h => ?_) (fun cdv A outer s H vs Q E hr h => ?_)
  · obtain ⟨x, _, rfl, _⟩ := h
    rfl
  · obtain ⟨a, ns, rfl, hS, q⟩ := h
    refine ⟨_, pss_cons (ps_set (i := 1) scDeck.nd rfl (.inl rfl) (pe_callTy call_list_of (by rfl) m1 (by decide +kernel) (pa_cons (pe_slice sl_list (pv 0) po_none (po_some pe_int)) pa_nil)))
      (pss_one (ps_ret (pe_lst (pa_cons (pv 1) (pa_cons (pe_op op_add pe_int (pe_op op_mod (pe_callB (cr_sum rfl) (by rfl) m2 (by decide +kernel) (pa_cons (pv 1) pa_nil)) pe_int)) (pa_cons pe_int pa_nil)))))), ?_⟩
    refine ⟨.ref a, rfl, 63, rfl, a, _, rfl, hS, fun b nb => ?_⟩
    have e63 : cutV (ns.map V.int) none (some 63) = (ns.take 63).map V.int := by
      rw [show (63 : Int) = ((63 : Nat) : Int) from rfl, cutTo, List.map_take]
    rw [e63]
    have s1 := same_upd (o := .lst ((ns.take 63).map V.int)) nb
    refine ⟨b, _, rfl, .inl (.inl (.inl upd_same)), fun c nc => ?_⟩
    have s2 := same_upd (o := .lst ((ns.take 63).map V.int)) nc
    refine ⟨.ref c, rfl, .ref c, rfl, c, ns.take 63, rfl, .inl (.inl upd_same), _, _, rfl, rfl, (by show (0 : Int) < 2147483579; decide), _, _, rfl, rfl, (by show 3 ≤ sizeLine; decide), fun d ndd => ?_⟩
    have s3 := same_upd (o := .lst [.ref c, .int (130043 + (ns.take 63).sum % 2147483579), .int 0]) ndd
    exact q _ d c (s1.trans (s2.trans s3)) (s1.free (s2.free ndd)) (s1.free nc) ⟨ns.take 63, _, _, upd_same, s3 _ _ upd_same, by simp; omega⟩
def spDraw : Sp := fun vs H Q _ => ∃ (d c : Addr) (m : Int), vs = [.ref d, .int m] ∧ Dk H d c ∧ 0 < m ∧ m.natAbs < 2 ^ 64 ∧ ∀ H' r, Dk H' d c → Kp d c H H' → 0 ≤ r → r < m → Q (.int r) H'
theorem ok_draw {f : Addr} {fd : FuncData} {k : Nat} (F : Fun K "_law_draw" "_law_draw" sDraw f fd) : FnOk P w K mg base CX0 (k + 1) f fd ["_law_deck_here", "_law_many"] spDraw := by
  refine F.ok scDraw (fun vs H Q E h => ?_) (fun cdv A outer s H vs Q E hr h => ?_)
  · obtain ⟨d, c, m, rfl, _⟩ := h
    rfl
  · obtain ⟨d, c, m, rfl, hD, hm, hm2, q⟩ := h
    refine ⟨_, pss_cons (ps_asg (pe_op op_add (pe_ix ix_list (pv 0) pe_int (fun _ _ => rfl)) pe_int) (pg_sub (pv 0) pe_int set_list))
      (pss_cons (ps_set (i := 2) scDraw.nd rfl (.inl rfl) (pe_ix ix_list (pv 0) pe_int (fun _ _ => rfl)))
      (pss_cons (ps_set (i := 3) scDraw.nd rfl (.inl rfl) (pe_ix ix_list (pv 0) pe_int (fun _ _ => rfl)))
      (pss_cons (ps_if (pt_cmpR (op_neD hr.units) (pv 2) (pe_lst pa_nil) (nomark _))
        (pss_cons (ps_set (i := 3) scDraw.nd rfl (.inl rfl) (pe_bm PySem.F.plainAttrs_list PySem.F.slot_list_pop PySem.F.type_list_pop mt_popAt (pv 2) (pa_cons pe_int pa_nil)))
        (pss_cons (ps_if (pt_cmpR op_ge (pv 3) (pe_op op_pow pe_int pe_int) (nomark _))
          (pss_cons (ps_expr (pe_bm PySem.F.plainAttrs_list PySem.F.slot_list_insert PySem.F.type_list_insert mt_insert (pv 2) (pa_cons pe_int (pa_cons (pe_op op_fdivW (pv 3) (pv 1)) pa_nil))))
            (pss_one (ps_ret (pe_op op_mod (pv 3) (pv 1))))) pss_nil)
          (pss_one (ps_set (i := 3) scDraw.nd rfl (.inl rfl) (pe_op op_add (pv 3) (pe_ix ix_list (pv 0) pe_int (fun _ _ => rfl))))))) pss_nil)
      (pss_cons (ps_set (i := 4) scDraw.nd rfl (.inl rfl) (pe_op op_mod (pe_op op_add (pe_op op_add (pe_op op_mul (pe_op op_mod (pv 3) pe_int) pe_int) (pe_op op_mul pe_int (pe_ix ix_list (pv 0) pe_int (fun _ _ => rfl)))) pe_int) pe_int))
      (pss_cons (ps_set (i := 4) scDraw.nd rfl (.inl rfl) (pe_op op_mod (pe_op op_add (pe_op op_add (pe_op op_mul (pv 4) (pv 4)) (pe_op op_mul pe_int (pv 4))) (pe_ix ix_list (pv 0) pe_int (fun _ _ => rfl))) pe_int))
      (pss_cons (ps_asg (pv 4) (pg_sub (pv 0) pe_int set_list))
      (pss_one (ps_ret (pe_op op_mod (pe_op op_fdiv (pe_op op_mod (pe_op op_mul (pv 4) (pe_op op_add (pv 4) pe_int)) pe_int) pe_int) (pv 1)))))))))), ?_⟩
    obtain ⟨ns, s0, n0, hd, hc, hl⟩ := hD
    have hcd : c ≠ d := by
      intro e
      subst e
      rw [hd] at hc
      cases ns with
      | nil => cases hc
      | cons n r =>
        have := (List.cons.inj (HO.lst.inj (Option.some.inj hc))).1
        cases this
    refine ⟨.ref d, rfl, d, _, 2, .int n0, rfl, rfl, .inl (.inl hd), atI_nat (j := 2) rfl, n0, 1, rfl, rfl, .ref d, rfl, d, _, 2, 2, rfl, rfl, hd, rfl, ?_⟩
    have hd1 : upd H d (.lst ([.ref c, .int s0, .int n0].set 2 (.int (n0 + 1)))) d = some (.lst [.ref c, .int s0, .int (n0 + 1)]) := upd_same
    have hc1 : upd H d (.lst ([.ref c, .int s0, .int n0].set 2 (.int (n0 + 1)))) c = some (.lst (ns.map V.int)) := by
      rw [upd_ne hcd]
      exact hc
    have kp1 : Kp d c H (upd H d (.lst ([.ref c, .int s0, .int n0].set 2 (.int (n0 + 1))))) := fun b o h1 _ e => by
      rw [upd_ne h1]
      exact e
    generalize upd H d (.lst ([.ref c, .int s0, .int n0].set 2 (.int (n0 + 1)))) = H1 at *
    refine ⟨.ref d, rfl, d, _, 0, .ref c, rfl, rfl, .inl (.inl hd1), atI_nat (j := 0) rfl, ?_⟩
    refine ⟨.ref d, rfl, d, _, 1, .int s0, rfl, rfl, .inl (.inl hd1), atI_nat (j := 1) rfl, ?_⟩
    refine ⟨.ref c, rfl, Nat.zero_le _, fun p np => ?_⟩
    have s2 : Same H1 (upd H1 p (.lst [])) := same_upd np
    have hd2 := s2 _ _ hd1
    have hc2 := s2 _ _ hc1
    have kp2 : Kp d c H (upd H1 p (.lst [])) := fun b o h1 h2 e => s2 _ _ (kp1 b o h1 h2 e)
    refine ⟨.list (ns.map .int), .list (([] : List Int).map .int), .lst (.inl (.inl hc2)) (dpInts _), .lst (.inl (.inl upd_same)) .nil, shpL _, shpL _, _, rfl, ?_⟩
    rw [eqvL]
    generalize upd H1 p (.lst []) = H2 at *
    cases ns with
    | nil =>
      refine iteF ?_
      refine ⟨_, rfl, _, _, rfl, rfl, (by show (0 : Int) < 2147483629; decide), _, _, rfl, rfl, .inr ⟨by decide, by decide⟩, .ref d, rfl, d, _, 2, .int (n0 + 1), rfl, rfl, .inl (.inl hd2), atI_nat (j := 2) rfl, 6997, (n0 + 1), rfl, rfl, .inl ⟨by decide, by decide⟩, _, _, rfl, rfl, _, _, rfl, rfl, _, _, rfl, rfl, (by show (0 : Int) < 2147483647; decide), ?_⟩
      have b0 := Int.emod_nonneg (s0 % 2147483629 * 48271 + 6997 * (n0 + 1) + 17) (show (2147483647 : Int) ≠ 0 by decide)
      have b1 := Int.emod_lt_of_pos (s0 % 2147483629 * 48271 + 6997 * (n0 + 1) + 17) (show (0 : Int) < 2147483647 by decide)
      refine ⟨_, rfl, _, rfl, _, _, rfl, rfl, .inl ⟨by omega, by omega⟩, _, rfl, 69621, _, rfl, rfl, .inl ⟨by decide, by decide⟩, _, _, rfl, rfl, .ref d, rfl, d, _, 2, .int (n0 + 1), rfl, rfl, .inl (.inl hd2), atI_nat (j := 2) rfl, _, _, rfl, rfl, _, _, rfl, rfl, (by show (0 : Int) < 2147483587; decide), ?_⟩
      have c0 := Int.emod_nonneg (((s0 % 2147483629 * 48271 + 6997 * (n0 + 1) + 17) % 2147483647) * ((s0 % 2147483629 * 48271 + 6997 * (n0 + 1) + 17) % 2147483647) + 69621 * ((s0 % 2147483629 * 48271 + 6997 * (n0 + 1) + 17) % 2147483647) + (n0 + 1)) (show (2147483587 : Int) ≠ 0 by decide)
      have c1 := Int.emod_lt_of_pos (((s0 % 2147483629 * 48271 + 6997 * (n0 + 1) + 17) % 2147483647) * ((s0 % 2147483629 * 48271 + 6997 * (n0 + 1) + 17) % 2147483647) + 69621 * ((s0 % 2147483629 * 48271 + 6997 * (n0 + 1) + 17) % 2147483647) + (n0 + 1)) (show (0 : Int) < 2147483587 by decide)
      refine ⟨_, rfl, .ref d, rfl, d, _, 1, 1, rfl, rfl, hd2, rfl, ?_⟩
      refine ⟨_, rfl, _, rfl, _, 40692, rfl, rfl, _, _, rfl, rfl, .inl ⟨by omega, by omega⟩, _, _, rfl, rfl, (by show (0 : Int) < 2147483563; decide), _, 64, rfl, rfl, ⟨by decide, by decide⟩, .int m, rfl, _, m, rfl, rfl, hm, ?_⟩
      refine q _ _ ⟨[], _, (n0 + 1), upd_same, ?_, by decide⟩ (fun b o h1 h2 e => ?_) (Int.emod_nonneg _ (by omega)) (Int.emod_lt_of_pos _ hm)
      · rw [upd_ne hcd]
        exact hc2
      · rw [upd_ne h1]
        exact kp2 b o h1 h2 e
    | cons n r =>
      refine iteT ?_
      have ep : (V.int n :: r.map V.int).eraseIdx 0 = r.map V.int := rfl
      refine ⟨.ref c, rfl, .inl ⟨rfl, _, .inl (.inl hc2)⟩, c, _, 0, 0, .int n, rfl, rfl, hc2, by decide, by decide, seqIndex_of (k := 0) (by decide) (by rw [List.length_map, List.length_cons]; omega), rfl, ?_⟩
      have hc3 : upd H2 c (.lst (((n :: r).map V.int).eraseIdx 0)) c = some (.lst (r.map V.int)) := upd_same
      have hd3 : upd H2 c (.lst (((n :: r).map V.int).eraseIdx 0)) d = some (.lst [.ref c, .int s0, .int (n0 + 1)]) := by
        rw [upd_ne hcd.symm]
        exact hd2
      have kp3 : Kp d c H (upd H2 c (.lst (((n :: r).map V.int).eraseIdx 0))) := fun b o h1 h2 e => by
        rw [upd_ne h2]
        exact kp2 b o h1 h2 e
      have hl3 : r.length ≤ 62 := by
        have : (n :: r).length = r.length + 1 := rfl
        omega
      generalize upd H2 c (.lst (((n :: r).map V.int).eraseIdx 0)) = H3 at *
      refine ⟨.int n, rfl, 10, 18, rfl, rfl, ⟨by decide, by decide, by decide⟩, n, _, rfl, rfl, _, rfl, ite2 (fun _ => ?_) (fun _ => ?_)⟩
      · refine ⟨.ref c, rfl, .inl ⟨rfl, _, .inl (.inl hc3)⟩, .int n, rfl, .int m, rfl, n, m, rfl, rfl, wide_div hm hm2 (by decide) (by decide), c, _, 0, _, rfl, rfl, hc3, ?_, by decide, by decide, ?_⟩
        · rw [List.length_map]
          exact Nat.lt_of_le_of_lt hl3 (by decide)
        refine ⟨.int n, rfl, .int m, rfl, n, m, rfl, rfl, hm, ?_⟩
        refine q _ _ ⟨n / m :: r, s0, n0 + 1, ?_, upd_same, by simpa using hl3⟩ (fun b o h1 h2 e => ?_) (Int.emod_nonneg _ (by omega)) (Int.emod_lt_of_pos _ hm)
        · rw [upd_ne hcd.symm]
          exact hd3
        · rw [upd_ne h2]
          exact kp3 b o h1 h2 e
      · refine ⟨.int n, rfl, .ref d, rfl, d, _, 1, .int s0, rfl, rfl, .inl (.inl hd3), atI_nat (j := 1) rfl, n, s0, rfl, rfl, ?_⟩
        refine ⟨_, rfl, _, _, rfl, rfl, (by show (0 : Int) < 2147483629; decide), _, _, rfl, rfl, .inr ⟨by decide, by decide⟩, .ref d, rfl, d, _, 2, .int (n0 + 1), rfl, rfl, .inl (.inl hd3), atI_nat (j := 2) rfl, 6997, (n0 + 1), rfl, rfl, .inl ⟨by decide, by decide⟩, _, _, rfl, rfl, _, _, rfl, rfl, _, _, rfl, rfl, (by show (0 : Int) < 2147483647; decide), ?_⟩
        have b0 := Int.emod_nonneg ((n + s0) % 2147483629 * 48271 + 6997 * (n0 + 1) + 17) (show (2147483647 : Int) ≠ 0 by decide)
        have b1 := Int.emod_lt_of_pos ((n + s0) % 2147483629 * 48271 + 6997 * (n0 + 1) + 17) (show (0 : Int) < 2147483647 by decide)
        refine ⟨_, rfl, _, rfl, _, _, rfl, rfl, .inl ⟨by omega, by omega⟩, _, rfl, 69621, _, rfl, rfl, .inl ⟨by decide, by decide⟩, _, _, rfl, rfl, .ref d, rfl, d, _, 2, .int (n0 + 1), rfl, rfl, .inl (.inl hd3), atI_nat (j := 2) rfl, _, _, rfl, rfl, _, _, rfl, rfl, (by show (0 : Int) < 2147483587; decide), ?_⟩
        have c0 := Int.emod_nonneg ((((n + s0) % 2147483629 * 48271 + 6997 * (n0 + 1) + 17) % 2147483647) * (((n + s0) % 2147483629 * 48271 + 6997 * (n0 + 1) + 17) % 2147483647) + 69621 * (((n + s0) % 2147483629 * 48271 + 6997 * (n0 + 1) + 17) % 2147483647) + (n0 + 1)) (show (2147483587 : Int) ≠ 0 by decide)
        have c1 := Int.emod_lt_of_pos ((((n + s0) % 2147483629 * 48271 + 6997 * (n0 + 1) + 17) % 2147483647) * (((n + s0) % 2147483629 * 48271 + 6997 * (n0 + 1) + 17) % 2147483647) + 69621 * (((n + s0) % 2147483629 * 48271 + 6997 * (n0 + 1) + 17) % 2147483647) + (n0 + 1)) (show (0 : Int) < 2147483587 by decide)
        refine ⟨_, rfl, .ref d, rfl, d, _, 1, 1, rfl, rfl, hd3, rfl, ?_⟩
        refine ⟨_, rfl, _, rfl, _, 40692, rfl, rfl, _, _, rfl, rfl, .inl ⟨by omega, by omega⟩, _, _, rfl, rfl, (by show (0 : Int) < 2147483563; decide), _, 64, rfl, rfl, ⟨by decide, by decide⟩, .int m, rfl, _, m, rfl, rfl, hm, ?_⟩
        refine q _ _ ⟨r, _, (n0 + 1), upd_same, ?_, by omega⟩ (fun b o h1 h2 e => ?_) (Int.emod_nonneg _ (by omega)) (Int.emod_lt_of_pos _ hm)
        · rw [upd_ne hcd]
          exact hc3
        · rw [upd_ne h1]
          exact kp3 b o h1 h2 e
end
end Ksec
set_option Elab.async false
set_option linter.all false
set_option maxRecDepth 100000
set_option maxHeartbeats 4000000
namespace Ksec
open PySem PySem.Spec PyProof.Rows L2
abbrev sNames : Stmt := topS 12
abbrev nNames : List Str := ["_law_deck_here", "_law_many", "_law_letters", "_law_kinds", "_law_mode", "_law_turn", "_law_base", "_law_size", "_law_at", "_law_k"]
theorem scNames : FnScope nNames ["_law_deck_here", "_law_many"] (defScope sNames) := ⟨rfl, rfl, rfl, by decide +kernel, rfl, by decide +kernel, by decide +kernel⟩
/-! letters -/
def Lt (z : Str) : Prop := ∀ c ∈ z.cps.toList, 97 ≤ c ∧ c ≤ 122
theorem lt_app {a b : Str} (h1 : Lt a) (h2 : Lt b) : Lt (a ++ b) := fun c hc => by
  have e : (a ++ b).cps.toList = a.cps.toList ++ b.cps.toList := by
    show (a.cps ++ b.cps).toList = _
    rw [Array.toList_append]
  rw [e] at hc
  exact (List.mem_append.mp hc).elim (h1 c) (h2 c)
theorem lt_cut {z : Str} (h : Lt z) (lo hi : Option Int) : Lt (cutS z lo hi) := fun c hc => by
  unfold cutS at hc
  exact h c (List.mem_of_mem_drop (List.mem_of_mem_take (by simpa using hc)))
theorem lt_one {c : Nat} (h : 97 ≤ c ∧ c ≤ 122) : Lt ⟨#[c]⟩ := fun x hx => by
  have e : x = c := by simpa using hx
  subst e
  exact h
theorem len_strL (z : Str) : z.length = z.cps.toList.length := by simp [Str.length]
theorem len_cut (z : Str) (lo hi : Option Int) : (cutS z lo hi).length = min (HT.sIx z.length z.length hi - HT.sIx z.length 0 lo) (z.length - HT.sIx z.length 0 lo) := by
  rw [len_strL]
  unfold cutS
  rw [List.length_take, List.length_drop, len_strL z]
theorem join_lt : ∀ ys : List Str, (∀ y ∈ ys, Lt y) → Lt (Str.join ("" : Str) ys)
  | [], _ => fun c hc => by simp [Str.join, Str.empty] at hc
  | [y], h => h y (List.mem_cons_self ..)
  | x :: y :: r, h => lt_app (lt_app (h x (List.mem_cons_self ..)) fun c hc => absurd hc (by decide +revert)) (join_lt (y :: r) fun z hz => h z (List.mem_cons_of_mem _ hz))
theorem join_len : ∀ ys : List Str, (∀ y ∈ ys, y.length = 1) → (Str.join ("" : Str) ys).length = ys.length
  | [], _ => rfl
  | [y], h => h y (List.mem_cons_self ..)
  | x :: y :: r, h => by
    have ih := join_len (y :: r) fun z hz => h z (List.mem_cons_of_mem _ hz)
    show (x ++ "" ++ Str.join "" (y :: r)).length = _
    rw [strLen_append, strLen_append, ih, h x (List.mem_cons_self ..)]
    show 1 + 0 + (r.length + 1) = r.length + 1 + 1
    omega
def letters : Str := "abcdefghijklmnopqrstuvwxyz"
theorem letter_at {i : Int} (h0 : 0 ≤ i) (h1 : i < 26) : ∃ c, atI letters.cps.toList i = some c ∧ 97 ≤ c ∧ c ≤ 122 := by
  have key : ∀ j : Fin 26, ∃ c, letters.cps.toList[j.val]? = some c ∧ 97 ≤ c ∧ c ≤ 122 := fun j => by
    have h : ∀ j : Fin 26, ((letters.cps.toList[j.val]?).any fun c => decide (97 ≤ c ∧ c ≤ 122)) = true := by decide +kernel
    have h2 := h j
    cases e : letters.cps.toList[j.val]? with
    | none =>
      rw [e] at h2
      cases h2
    | some c =>
      rw [e] at h2
      exact ⟨c, rfl, of_decide_eq_true h2⟩
  obtain ⟨c, e, hc⟩ := key ⟨i.toNat, by omega⟩
  refine ⟨c, ?_, hc⟩
  have := atI_nat e
  rw [show ((i.toNat : Nat) : Int) = i by omega] at this
  exact this
def kinds : List Str := ["same", "both", "call", "either", "fresh", "unlike", "number", "word", "absent", "x", "put", "go"]
theorem kinds_wd : ∀ z ∈ kinds, Wd z := by
  have h : kinds.all (fun z => decide (1 ≤ z.length) && decide (z.length ≤ 8) && z.cps.toList.all fun c => decide (97 ≤ c ∧ c ≤ 122)) = true := by decide +kernel
  intro z hz
  have h2 := List.all_eq_true.mp h z hz
  simp only [Bool.and_eq_true, decide_eq_true_eq, List.all_eq_true] at h2
  exact ⟨h2.1.1, h2.1.2, h2.2⟩
theorem kind_at {i : Int} (h0 : 0 ≤ i) (h1 : i < 12) : ∃ z, atI (kinds.map V.str) i = some (.str z) ∧ Wd z := by
  have hl : i.toNat < kinds.length := by
    show i.toNat < 12
    omega
  refine ⟨kinds[i.toNat], ?_, kinds_wd _ (List.getElem_mem hl)⟩
  have e : (kinds.map V.str)[i.toNat]? = some (.str kinds[i.toNat]) := by
    rw [List.getElem?_map, List.getElem?_eq_getElem hl]
    rfl
  have := atI_nat e
  rw [show ((i.toNat : Nat) : Int) = i by omega] at this
  exact this
theorem Kp.refl (d c : Addr) (H : Hp) : Kp d c H H := fun _ _ _ _ e => e
theorem Kp.trans {d c : Addr} {H H1 H2 : Hp} (a : Kp d c H H1) (b : Kp d c H1 H2) : Kp d c H H2 := fun x o h1 h2 e => b x o h1 h2 (a x o h1 h2 e)
theorem kpSame {d c : Addr} {H H1 : Hp} (a : Same H H1) : Kp d c H H1 := fun x o _ _ e => a x o e
theorem Dk.same {d c : Addr} {H H1 : Hp} (h : Dk H d c) (a : Same H H1) : Dk H1 d c := let ⟨ns, s, n, h1, h2, h3⟩ := h; ⟨ns, s, n, a _ _ h1, a _ _ h2, h3⟩
theorem Dk.ne1 {d c p : Addr} {H : Hp} (h : Dk H d c) (e : H p = none) : p ≠ d := let ⟨_, _, _, h1, _⟩ := h; (ne_of_none h1 e).symm
theorem Dk.ne2 {d c p : Addr} {H : Hp} (h : Dk H d c) (e : H p = none) : p ≠ c := let ⟨_, _, _, _, h2, _⟩ := h; (ne_of_none h2 e).symm
theorem yes {σ : L2.St} {H : Hp} {P R : Hp → Prop} (h : P H) : tYes σ H fun b H3 => if b = true then P H3 else R H3 := by
  show if (true = true) then P H else R H
  rw [if_pos rfl]
  exact h
section
variable {P : Program} {w : World} {K : PySem.W.Frag} {mg : Str → Option Value} {base : Heap}
def spNames : Sp := fun vs H Q _ => ∃ (d c : Addr) (m : Nat), vs = [.ref d, .int m] ∧ Dk H d c ∧ m ≤ 8 ∧
  ∀ (H' : Hp) (p : Addr) (zs : List Str), Dk H' d c → Kp d c H H' → H p = none → p ≠ d → p ≠ c → H' p = some (.lst (zs.map V.str)) → zs.length = m → (∀ z ∈ zs, Wd z) → Q (.ref p) H'
theorem ok_names {f fD : Addr} {fd fdD : FuncData} {k : Nat} (F : Fun K "_law_names" "_law_names" sNames f fd) (GD : FnOk P w K mg base CX0 (k + 1) fD fdD ["_law_deck_here", "_law_many"] spDraw) (bD : Binds K fdD ["_law_deck_here", "_law_many"] [])
    (gD : mg "_law_draw" = some (.ref fD)) (kD : PySem.W.keepIn K (.ref fD) = true) (m1 : mg "range" = none) : FnOk P w K mg base CX0 (k + 2) f fd ["_law_deck_here", "_law_many"] spNames := by
  refine F.ok scNames (fun vs H Q E h => ?_) (fun cdv A outer s H vs Q E hr h => ?_)
  · obtain ⟨d, c, m, rfl, _⟩ := h
    rfl
  · obtain ⟨d, c, m, rfl, hD, hm, q⟩ := h
    refine ⟨_, pss_cons (ps_set (i := 2) scNames.nd rfl (.inr rfl) pe_str)
      (pss_cons (ps_set (i := 3) scNames.nd rfl (.inr rfl) (pe_lst (pa_cons pe_str (pa_cons pe_str (pa_cons pe_str (pa_cons pe_str (pa_cons pe_str (pa_cons pe_str (pa_cons pe_str (pa_cons pe_str (pa_cons pe_str (pa_cons pe_str (pa_cons pe_str (pa_cons pe_str pa_nil))))))))))))))
      (pss_cons (ps_set (i := 4) scNames.nd rfl (.inl rfl) (pe_call GD hr (by rfl) gD kD bD .nil pass0 (pa_cons (pv 0) (pa_cons pe_int pa_nil))))
      (pss_cons (ps_set (i := 5) scNames.nd rfl (.inr rfl) (pe_call GD hr (by rfl) gD kD bD .nil pass0 (pa_cons (pv 0) (pa_cons pe_int pa_nil))))
      (pss_cons (ps_set (i := 6) scNames.nd rfl (.inr rfl) (pe_join pe_str
        (pe_lc (own := [("_law_k", 9)]) (g := gName 9) (tt := tYes) rfl scNames.nd (pi_range1 (by rfl) m1 (pa_cons pe_int pa_nil)) (blkOk_by (own := [("_law_k", 9)]) (N := nNames) (sc := defScope sNames) (by decide +kernel))
          (fun _ _ _ _ _ => pg_name (i := 9) scNames.nd rfl (Or.inl rfl)) (fun _ _ _ _ _ => pts_nil) (fun _ _ _ _ _ => pe_ix ix_str (pv 2) (pe_call GD hr (by rfl) gD kD bD .nil pass0 (pa_cons (pv 0) (pa_cons pe_int pa_nil))) (fun _ _ => rfl)))))
      (pss_cons (ps_set (i := 7) scNames.nd rfl (.inr rfl) (pe_op op_add pe_int (pe_call GD hr (by rfl) gD kD bD .nil pass0 (pa_cons (pv 0) (pa_cons pe_int pa_nil)))))
      (pss_cons (ps_set (i := 8) scNames.nd rfl (.inr rfl) (pe_call GD hr (by rfl) gD kD bD .nil pass0 (pa_cons (pv 0) (pa_cons (pv 7) pa_nil))))
      (pss_cons (ps_if (pt_cmpR op_eq (pv 4) pe_int (nomark _)) (pss_one (ps_ret
        (pe_lc (own := [("_law_k", 9)]) (g := gName 9) (tt := tYes) rfl scNames.nd (pi_range1 (by rfl) m1 (pa_cons (pv 1) pa_nil)) (blkOk_by (own := [("_law_k", 9)]) (N := nNames) (sc := defScope sNames) (by decide +kernel))
          (fun _ _ _ _ _ => pg_name (i := 9) scNames.nd rfl (Or.inl rfl)) (fun _ _ _ _ _ => pts_nil) (fun _ _ _ _ _ => pe_ix (r := rIxL K) ix_list (pv 3) (pe_op op_mod (pe_op op_add (pv 5) (pe_op op_mul pe_int (pv 9))) pe_int) (fun _ _ => rfl))))) pss_nil)
      (pss_cons (ps_if (PW.pt (pw_and (pt_cmpR op_eq (pv 4) pe_int (nomark _)) (pw_and1 (pt_cmpR op_lt (pv 1) pe_int (nomark _))))) (pss_one (ps_ret
        (pe_lc (own := [("_law_k", 9)]) (g := gName 9) (tt := tYes) rfl scNames.nd (pi_range1 (by rfl) m1 (pa_cons (pv 1) pa_nil)) (blkOk_by (own := [("_law_k", 9)]) (N := nNames) (sc := defScope sNames) (by decide +kernel))
          (fun _ _ _ _ _ => pg_name (i := 9) scNames.nd rfl (Or.inl rfl)) (fun _ _ _ _ _ => pts_nil) (fun _ _ _ _ _ => pe_slice sl_str (pv 6) po_none (po_some (pe_op op_add pe_int (pv 9))))))) pss_nil)
      (pss_one (ps_ret
        (pe_lc (own := [("_law_k", 9)]) (g := gName 9) (tt := tYes) rfl scNames.nd (pi_range1 (by rfl) m1 (pa_cons (pv 1) pa_nil)) (blkOk_by (own := [("_law_k", 9)]) (N := nNames) (sc := defScope sNames) (by decide +kernel))
          (fun _ _ _ _ _ => pg_name (i := 9) scNames.nd rfl (Or.inl rfl)) (fun _ _ _ _ _ => pts_nil) (fun _ _ _ _ _ => pe_op op_add_str (pe_op op_add_str (pe_slice sl_str (pv 6) po_none (po_some (pv 8)))
            (pe_ix ix_str (pv 2) (pe_op op_mod (pe_op op_add (pv 5) (pe_op op_mul pe_int (pv 9))) pe_int) (fun _ _ => rfl))) (pe_slice sl_str (pv 6) (po_some (pe_op op_add (pv 8) pe_int)) (po_some (pv 7))))))))))))))), ?_⟩
    refine ⟨(by show 12 ≤ sizeLine; decide), fun kl nk => ?_⟩
    have hk1 : upd H kl (.lst (kinds.map V.str)) kl = some (.lst (kinds.map V.str)) := upd_same
    have s1 : Same H (upd H kl (.lst (kinds.map V.str))) := same_upd nk
    have hD1 := hD.same s1
    have kp1 : Kp d c H (upd H kl (.lst (kinds.map V.str))) := kpSame s1
    have nk1 := hD.ne1 nk
    have nk2 := hD.ne2 nk
    show tSeq _ _ _ _ (upd H kl (.lst (kinds.map V.str)))
    generalize upd H kl (.lst (kinds.map V.str)) = H1 at *
    refine ⟨.ref d, rfl, d, c, 4, rfl, hD1, by decide, by decide, fun H2 mode hD2 kp2 b0 b1 => ?_⟩
    refine ⟨.ref d, rfl, d, c, 26, rfl, hD2, by decide, by decide, fun H3 turn hD3 kp3 b2 b3 => ?_⟩
    have hk3 := kp3 _ _ nk1 nk2 (kp2 _ _ nk1 nk2 hk1)
    have kq3 := kp1.trans (kp2.trans kp3)
    refine ⟨⟨_, rfl⟩, 8, rfl, by decide, by decide, fun D nD => ?_⟩
    have nD1 := hD3.ne1 nD
    have nD2 := hD3.ne2 nD
    refine lc_range (lo := 0) (n := 8) (fun i H' => ∃ ys : List Str, H' D = some (.lst (ys.map V.str)) ∧ ys.length = i ∧ (∀ y ∈ ys, y.length = 1 ∧ Lt y) ∧ Dk H' d c ∧ Kp d c H3 H') ?_ (fun i H4 hi h4 => ?_) (fun H4 h4 => ?_)
    · exact ⟨[], upd_same, rfl, fun y hy => absurd hy List.not_mem_nil, hD3.same (same_upd nD), kpSame (same_upd nD)⟩
    · obtain ⟨ys, e1, e2, e3, e4, e5⟩ := h4
      refine ⟨rfl, yes ?_⟩
      refine ⟨.str letters, rfl, .ref d, rfl, d, c, 26, rfl, e4, by decide, by decide, fun H5 r hD5 kp5 b4 b5 => ?_⟩
      obtain ⟨ch, hc1, hc2⟩ := letter_at b4 b5
      refine ⟨letters, r, ch, rfl, rfl, (by decide +kernel), hc1, _, kp5 _ _ nD1 nD2 e1, ?_, ys ++ [⟨#[ch]⟩], ?_, ?_, ?_, ?_, ?_⟩
      · rw [List.length_map, e2]
        exact Nat.lt_of_lt_of_le hi (by decide)
      · rw [upd_same, List.map_append]
        rfl
      · rw [List.length_append, e2]
        rfl
      · intro y hy
        rcases List.mem_append.mp hy with h | h
        · exact e3 y h
        · rw [List.mem_singleton.mp h]
          exact ⟨rfl, lt_one hc2⟩
      · obtain ⟨ns, s', n', g1, g2, g3⟩ := hD5
        exact ⟨ns, s', n', by rw [upd_ne nD1.symm]; exact g1, by rw [upd_ne nD2.symm]; exact g2, g3⟩
      · intro b o h1 h2 e
        by_cases hb : b = D
        · rw [hb, nD] at e
          cases e
        · rw [upd_ne hb]
          exact kp5 _ _ h1 h2 (e5 _ _ h1 h2 e)
    obtain ⟨ys, e1, e2, e3, hD4, kp4⟩ := h4
    have hsum : (ys.map (·.length)).sum ≤ 8 := by
      have h : ∀ l : List Str, (∀ y ∈ l, y.length = 1) → (l.map (·.length)).sum = l.length := by
        intro l
        induction l with
        | nil => intro _; rfl
        | cons y r ih =>
          intro hl
          rw [List.map_cons, List.sum_cons, ih fun z hz => hl z (List.mem_cons_of_mem _ hz), hl y (List.mem_cons_self ..), List.length_cons]
          omega
      rw [h ys fun y hy => (e3 y hy).1, e2]
      omega
    refine ⟨("" : Str), D, ys, rfl, rfl, .inl (.inl (.inl e1)), ?_, ?_⟩
    · show (ys.map (·.length)).sum + ys.length * 0 ≤ 16777216
      omega
    have hb1 : (Txt.join ("" : Str) ys).length = 8 := by
      rw [TL.join_eq, join_len ys fun y hy => (e3 y hy).1, e2]
    have hb2 : Lt (Txt.join ("" : Str) ys) := by
      rw [TL.join_eq]
      exact join_lt ys fun y hy => (e3 y hy).2
    have hk4 := kp4 _ _ nk1 nk2 hk3
    have kq4 := kq3.trans kp4
    generalize Txt.join ("" : Str) ys = bse at *
    refine ⟨.ref d, rfl, d, c, 8, rfl, hD4, by decide, by decide, fun H5 r hD5 kp5 b4 b5 => ⟨1, r, rfl, rfl, ?_⟩⟩
    refine ⟨.ref d, rfl, .int (1 + r), rfl, d, c, 1 + r, rfl, hD5, by omega, ?_, fun H6 at6 hD6 kp6 b6 b7 => ?_⟩
    · have : (1 + r).natAbs ≤ 8 := by omega
      exact Nat.lt_of_le_of_lt this (by decide)
    have hk6 := kp6 _ _ nk1 nk2 (kp5 _ _ nk1 nk2 hk4)
    have kq6 := kq4.trans (kp5.trans kp6)
    have free6 : ∀ p, p ≠ d → p ≠ c → H6 p = none → H p = none := fun p h1 h2 h => by
      cases e : H p with
      | none => rfl
      | some o =>
        rw [kq6 p o h1 h2 e] at h
        cases h
    refine ⟨.int mode, rfl, rfl, _, rfl, ite2 (fun _ => ?_) (fun _ => ?_)⟩
    · refine ⟨.int m, rfl, m, rfl, by omega, by omega, fun D2 nD' => ?_⟩
      have nD3 := hD6.ne1 nD'
      have nD4 := hD6.ne2 nD'
      refine lc_range (lo := 0) (n := m) (fun i H' => ∃ zs : List Str, H' D2 = some (.lst (zs.map V.str)) ∧ zs.length = i ∧ (∀ z ∈ zs, Wd z) ∧ Dk H' d c ∧ Kp d c H6 H') ?_ (fun i H7 hi h7 => ?_) (fun H7 h7 => ?_)
      · exact ⟨[], upd_same, rfl, fun y hy => absurd hy List.not_mem_nil, hD6.same (same_upd nD'), kpSame (same_upd nD')⟩
      · obtain ⟨zs, g1, g2, g3, g4, g5⟩ := h7
        have last : ∀ z : Str, Wd z → ∃ acc, H7 D2 = some (.lst acc) ∧ acc.length < sizeLine ∧ ∃ zs : List Str, upd H7 D2 (.lst (acc ++ [V.str z])) D2 = some (.lst (zs.map V.str)) ∧ zs.length = i + 1 ∧ (∀ z ∈ zs, Wd z) ∧ Dk (upd H7 D2 (.lst (acc ++ [V.str z]))) d c ∧ Kp d c H6 (upd H7 D2 (.lst (acc ++ [V.str z]))) := fun z hz => by
          refine ⟨_, g1, ?_, zs ++ [z], ?_, ?_, ?_, ?_, ?_⟩
          · rw [List.length_map, g2]
            exact Nat.lt_of_lt_of_le hi (Nat.le_trans hm (by decide))
          · rw [upd_same, List.map_append]
            rfl
          · rw [List.length_append, g2]
            rfl
          · intro y hy
            rcases List.mem_append.mp hy with h | h
            · exact g3 y h
            · rw [List.mem_singleton.mp h]
              exact hz
          · obtain ⟨ns, s', n', q1, q2, q3⟩ := g4
            exact ⟨ns, s', n', by rw [upd_ne nD3.symm]; exact q1, by rw [upd_ne nD4.symm]; exact q2, q3⟩
          · intro b o h1 h2 e
            by_cases hb : b = D2
            · rw [hb, nD'] at e
              cases e
            · rw [upd_ne hb]
              exact g5 _ _ h1 h2 e
        have m0 := Int.emod_nonneg (turn + 5 * (0 + (i : Int))) (show (12 : Int) ≠ 0 by decide)
        have m1' := Int.emod_lt_of_pos (turn + 5 * (0 + (i : Int))) (show (0 : Int) < 12 by decide)
        obtain ⟨z, hz1, hz2⟩ := kind_at m0 m1'
        refine ⟨rfl, yes ?_⟩
        exact ⟨.ref kl, rfl, .int turn, rfl, _, rfl, 5, _, rfl, rfl, .inl ⟨by decide, by decide⟩, turn, _, rfl, rfl, _, 12, rfl, rfl, (by show (0 : Int) < 12; decide), kl, _, _, _, rfl, rfl, .inl (.inl (g5 _ _ nk1 nk2 hk6)), hz1, last z hz2⟩
      · obtain ⟨zs, g1, g2, g3, g4, g5⟩ := h7
        exact q H7 D2 zs g4 (kq6.trans g5) (free6 D2 nD3 nD4 nD') nD3 nD4 g1 g2 g3
    refine ⟨.int mode, rfl, rfl, _, rfl, ite2 (fun _ => ?_) (fun _ => ?_)⟩
    · refine ⟨.int m, rfl, _, _, rfl, rfl, _, rfl, ?_⟩
      refine ite2 (fun _ => ?_) (fun e => absurd (decide_eq_true (show (m : Int) < 9 by omega)) e)
      · refine ⟨.int m, rfl, m, rfl, by omega, by omega, fun D2 nD' => ?_⟩
        have nD3 := hD6.ne1 nD'
        have nD4 := hD6.ne2 nD'
        refine lc_range (lo := 0) (n := m) (fun i H' => ∃ zs : List Str, H' D2 = some (.lst (zs.map V.str)) ∧ zs.length = i ∧ (∀ z ∈ zs, Wd z) ∧ Dk H' d c ∧ Kp d c H6 H') ?_ (fun i H7 hi h7 => ?_) (fun H7 h7 => ?_)
        · exact ⟨[], upd_same, rfl, fun y hy => absurd hy List.not_mem_nil, hD6.same (same_upd nD'), kpSame (same_upd nD')⟩
        · obtain ⟨zs, g1, g2, g3, g4, g5⟩ := h7
          have last : ∀ z : Str, Wd z → ∃ acc, H7 D2 = some (.lst acc) ∧ acc.length < sizeLine ∧ ∃ zs : List Str, upd H7 D2 (.lst (acc ++ [V.str z])) D2 = some (.lst (zs.map V.str)) ∧ zs.length = i + 1 ∧ (∀ z ∈ zs, Wd z) ∧ Dk (upd H7 D2 (.lst (acc ++ [V.str z]))) d c ∧ Kp d c H6 (upd H7 D2 (.lst (acc ++ [V.str z]))) := fun z hz => by
            refine ⟨_, g1, ?_, zs ++ [z], ?_, ?_, ?_, ?_, ?_⟩
            · rw [List.length_map, g2]
              exact Nat.lt_of_lt_of_le hi (Nat.le_trans hm (by decide))
            · rw [upd_same, List.map_append]
              rfl
            · rw [List.length_append, g2]
              rfl
            · intro y hy
              rcases List.mem_append.mp hy with h | h
              · exact g3 y h
              · rw [List.mem_singleton.mp h]
                exact hz
            · obtain ⟨ns, s', n', q1, q2, q3⟩ := g4
              exact ⟨ns, s', n', by rw [upd_ne nD3.symm]; exact q1, by rw [upd_ne nD4.symm]; exact q2, q3⟩
            · intro b o h1 h2 e
              by_cases hb : b = D2
              · rw [hb, nD'] at e
                cases e
              · rw [upd_ne hb]
                exact g5 _ _ h1 h2 e
          refine ⟨rfl, yes ?_⟩
          refine ⟨_, rfl, _, rfl, 1, _, rfl, rfl, _, rfl, bse, rfl, ?_, last _ ?_⟩
          · rw [hb1]
            decide
          · refine ⟨?_, ?_, lt_cut hb2 _ _⟩
            · rw [len_cut, HT.sIx_none, hb1, show (1 + (0 + (i : Int))) = ((1 + i : Nat) : Int) by omega, HT.sIx_nat]
              omega
            · rw [len_cut, HT.sIx_none, hb1, show (1 + (0 + (i : Int))) = ((1 + i : Nat) : Int) by omega, HT.sIx_nat]
              omega
        · obtain ⟨zs, g1, g2, g3, g4, g5⟩ := h7
          exact q H7 D2 zs g4 (kq6.trans g5) (free6 D2 nD3 nD4 nD') nD3 nD4 g1 g2 g3
    · refine iteF ?_
      refine ⟨.int m, rfl, m, rfl, by omega, by omega, fun D2 nD' => ?_⟩
      have nD3 := hD6.ne1 nD'
      have nD4 := hD6.ne2 nD'
      refine lc_range (lo := 0) (n := m) (fun i H' => ∃ zs : List Str, H' D2 = some (.lst (zs.map V.str)) ∧ zs.length = i ∧ (∀ z ∈ zs, Wd z) ∧ Dk H' d c ∧ Kp d c H6 H') ?_ (fun i H7 hi h7 => ?_) (fun H7 h7 => ?_)
      · exact ⟨[], upd_same, rfl, fun y hy => absurd hy List.not_mem_nil, hD6.same (same_upd nD'), kpSame (same_upd nD')⟩
      · obtain ⟨zs, g1, g2, g3, g4, g5⟩ := h7
        have last : ∀ z : Str, Wd z → ∃ acc, H7 D2 = some (.lst acc) ∧ acc.length < sizeLine ∧ ∃ zs : List Str, upd H7 D2 (.lst (acc ++ [V.str z])) D2 = some (.lst (zs.map V.str)) ∧ zs.length = i + 1 ∧ (∀ z ∈ zs, Wd z) ∧ Dk (upd H7 D2 (.lst (acc ++ [V.str z]))) d c ∧ Kp d c H6 (upd H7 D2 (.lst (acc ++ [V.str z]))) := fun z hz => by
          refine ⟨_, g1, ?_, zs ++ [z], ?_, ?_, ?_, ?_, ?_⟩
          · rw [List.length_map, g2]
            exact Nat.lt_of_lt_of_le hi (Nat.le_trans hm (by decide))
          · rw [upd_same, List.map_append]
            rfl
          · rw [List.length_append, g2]
            rfl
          · intro y hy
            rcases List.mem_append.mp hy with h | h
            · exact g3 y h
            · rw [List.mem_singleton.mp h]
              exact hz
          · obtain ⟨ns, s', n', q1, q2, q3⟩ := g4
            exact ⟨ns, s', n', by rw [upd_ne nD3.symm]; exact q1, by rw [upd_ne nD4.symm]; exact q2, q3⟩
          · intro b o h1 h2 e
            by_cases hb : b = D2
            · rw [hb, nD'] at e
              cases e
            · rw [upd_ne hb]
              exact g5 _ _ h1 h2 e
        have m0 := Int.emod_nonneg (turn + 7 * (0 + (i : Int))) (show (26 : Int) ≠ 0 by decide)
        have m1' := Int.emod_lt_of_pos (turn + 7 * (0 + (i : Int))) (show (0 : Int) < 26 by decide)
        obtain ⟨ch, hz1, hz2⟩ := letter_at m0 m1'
        have l1 : (cutS bse none (some at6)).length = at6.toNat := by
          rw [len_cut, HT.sIx_none, hb1, show at6 = ((at6.toNat : Nat) : Int) by omega, HT.sIx_nat]
          omega
        have l2 : (cutS bse (some (at6 + 1)) (some (1 + r))).length = (1 + r).toNat - (at6 + 1).toNat := by
          rw [len_cut, hb1, show at6 + 1 = (((at6 + 1).toNat : Nat) : Int) by omega, show 1 + r = (((1 + r).toNat : Nat) : Int) by omega, HT.sIx_nat, HT.sIx_nat]
          omega
        have l3 : (⟨#[ch]⟩ : Str).length = 1 := rfl
        refine ⟨rfl, yes ?_⟩
        refine ⟨_, rfl, _, rfl, at6, rfl, bse, rfl, ?_, .str letters, rfl, .int turn, rfl, _, rfl, 7, _, rfl, rfl, .inl ⟨by decide, by decide⟩, turn, _, rfl, rfl, _, 26, rfl, rfl, (by show (0 : Int) < 26; decide), letters, _, ch, rfl, rfl, (by decide +kernel), hz1, _, _, rfl, rfl, ?_, _, rfl, _, rfl, at6, 1, rfl, rfl, _, rfl, _, rfl, 1 + r, rfl, bse, rfl, ?_, _, _, rfl, rfl, ?_, last _ ⟨?_, ?_, ?_⟩⟩
        · rw [hb1]
          decide
        · rw [l1, l3]
          exact Nat.le_trans (show at6.toNat + 1 ≤ 100 by omega) (by decide)
        · rw [hb1]
          decide
        · rw [strLen_append, l1, l2, l3]
          exact Nat.le_trans (show at6.toNat + 1 + ((1 + r).toNat - (at6 + 1).toNat) ≤ 100 by omega) (by decide)
        · rw [strLen_append, strLen_append, l1, l2, l3]
          omega
        · rw [strLen_append, strLen_append, l1, l2, l3]
          omega
        · exact lt_app (lt_app (lt_cut hb2 _ _) (lt_one hz2)) (lt_cut hb2 _ _)
      · obtain ⟨zs, g1, g2, g3, g4, g5⟩ := h7
        exact q H7 D2 zs g4 (kq6.trans g5) (free6 D2 nD3 nD4 nD') nD3 nD4 g1 g2 g3
end
end Ksec
set_option Elab.async false
set_option linter.all false
set_option maxRecDepth 100000
set_option maxHeartbeats 4000000
namespace Ksec
open PySem PySem.Spec PyProof.Rows L2
abbrev sNumber : Stmt := topS 13
abbrev sTip : Stmt := topS 14
abbrev sTerm : Stmt := topS 15
abbrev sAny : Stmt := topS 16
theorem scNumber : FnScope ["_law_deck_here", "_law_far"] ["_law_deck_here"] (defScope sNumber) := ⟨rfl, rfl, rfl, by decide +kernel, rfl, by decide +kernel, by decide +kernel⟩
theorem scTip : FnScope ["_law_deck_here", "_law_words", "_law_unknowns_here", "_law_kind"] ["_law_deck_here", "_law_words", "_law_unknowns_here"] (defScope sTip) := ⟨rfl, rfl, rfl, by decide +kernel, rfl, by decide +kernel, by decide +kernel⟩
theorem scTerm : FnScope ["_law_deck_here", "_law_words", "_law_unknowns_here", "_law_deep", "_law_left", "_law_kind", "_law_head"] ["_law_deck_here", "_law_words", "_law_unknowns_here", "_law_deep", "_law_left"] (defScope sTerm) :=
  ⟨rfl, rfl, rfl, by decide +kernel, rfl, by decide +kernel, by decide +kernel⟩
theorem scAny : FnScope ["_law_deck_here", "_law_words", "_law_unknowns_here", "_law_kind", "_law_term_here", "_law_k", "_law_tip_here"] ["_law_deck_here", "_law_words", "_law_unknowns_here"] (defScope sAny) :=
  ⟨rfl, rfl, rfl, by decide +kernel, rfl, by decide +kernel, by decide +kernel⟩
theorem item_at {xs : List V} {i : Int} (h0 : 0 ≤ i) (h1 : i < xs.length) : ∃ v, v ∈ xs ∧ atI xs i = some v := by
  have hl : i.toNat < xs.length := by omega
  refine ⟨xs[i.toNat], List.getElem_mem hl, ?_⟩
  have := atI_nat (List.getElem?_eq_getElem hl)
  rw [show ((i.toNat : Nat) : Int) = i by omega] at this
  exact this
theorem Dk.lists {d c : Addr} {H : Hp} (h : Dk H d c) : (∃ xs, H d = some (.lst xs)) ∧ ∃ xs, H c = some (.lst xs) := let ⟨_, _, _, h1, h2, _⟩ := h; ⟨⟨_, h1⟩, ⟨_, h2⟩⟩
theorem kpTup {d c : Addr} {H H' : Hp} (h : Dk H d c) (k : Kp d c H H') : Tup H H' := fun b xs e => by
  obtain ⟨⟨x1, h1⟩, ⟨x2, h2⟩⟩ := h.lists
  exact k b _ (ne_of e h1 (by intro z; cases z)) (ne_of e h2 (by intro z; cases z)) e
section
variable {P : Program} {w : World} {K : PySem.W.Frag} {mg : Str → Option Value} {base : Heap}
def spNumber : Sp := fun vs H Q _ => ∃ (d c : Addr), vs = [.ref d] ∧ Dk H d c ∧ ∀ H' i, Dk H' d c → Kp d c H H' → i.natAbs ≤ 1000000000000 → Q (.int i) H'
theorem ok_number {f fD : Addr} {fd fdD : FuncData} {k : Nat} (F : Fun K "_law_number" "_law_number" sNumber f fd) (GD : FnOk P w K mg base CX0 (k + 1) fD fdD ["_law_deck_here", "_law_many"] spDraw) (bD : Binds K fdD ["_law_deck_here", "_law_many"] [])
    (gD : mg "_law_draw" = some (.ref fD)) (kD : PySem.W.keepIn K (.ref fD) = true) : FnOk P w K mg base CX0 (k + 2) f fd ["_law_deck_here"] spNumber := by
  refine F.ok scNumber (fun vs H Q E h => ?_) (fun cdv A outer s H vs Q E hr h => ?_)
  · obtain ⟨d, c, rfl, _⟩ := h
    rfl
  · obtain ⟨d, c, rfl, hD, q⟩ := h
    refine ⟨_, pss_cons (ps_set (i := 1) scNumber.nd rfl (.inl rfl) (pe_op op_add (pe_op op_mul (pe_call GD hr (by rfl) gD kD bD .nil pass0 (pa_cons (pv 0) (pa_cons (pe_op op_pow pe_int pe_int) pa_nil))) (pe_op op_pow pe_int pe_int))
        (pe_call GD hr (by rfl) gD kD bD .nil pass0 (pa_cons (pv 0) (pa_cons (pe_op op_pow pe_int pe_int) pa_nil)))))
      (pss_one (ps_ret (pe_ix ix_list (pe_lst (pa_cons pe_int (pa_cons pe_int (pa_cons pe_int (pa_cons pe_int (pa_cons pe_int (pa_cons pe_int (pa_cons pe_int (pa_cons (pe_un un_neg pe_int) (pa_cons (pe_un un_neg pe_int)
        (pa_cons (pe_op op_pow pe_int pe_int) (pa_cons (pv 1) (pa_cons (pe_op op_sub pe_int (pv 1)) pa_nil)))))))))))))
        (pe_call GD hr (by rfl) gD kD bD .nil pass0 (pa_cons (pv 0) (pa_cons pe_int pa_nil))) (fun _ _ => rfl)))), ?_⟩
    refine ⟨.ref d, rfl, 10, 6, rfl, rfl, ⟨by decide, by decide, by decide⟩, d, c, _, rfl, hD, by decide, by decide, fun H1 a hD1 kp1 a0 a1 => ?_⟩
    refine ⟨10, 6, rfl, rfl, ⟨by decide, by decide, by decide⟩, a, _, rfl, rfl, .inr ⟨by decide, by decide⟩, ?_⟩
    refine ⟨.ref d, rfl, 10, 6, rfl, rfl, ⟨by decide, by decide, by decide⟩, d, c, _, rfl, hD1, by decide, by decide, fun H2 b hD2 kp2 b0 b1 => ?_⟩
    have a2 : a < 1000000 := a1
    have b2 : b < 1000000 := b1
    refine ⟨_, b, rfl, rfl, ?_⟩
    refine ⟨1, rfl, 10, rfl, 10, 12, rfl, rfl, ⟨by decide, by decide, by decide⟩, _, rfl, _, rfl, 0, _, rfl, rfl, (by show 12 ≤ sizeLine; decide), fun p np => ?_⟩
    have n1 := hD2.ne1 np
    have n2 := hD2.ne2 np
    refine ⟨.ref d, rfl, d, c, 12, rfl, hD2.same (same_upd np), by decide, by decide, fun H3 r hD3 kp3 r0 r1 => ?_⟩
    have hp : H3 p = some (.lst (([0, 1, 2, 9, 10, 99, 100, -1, -10, 10 ^ (12 : Int).toNat, a * 10 ^ (6 : Int).toNat + b, 0 - (a * 10 ^ (6 : Int).toNat + b)] : List Int).map V.int)) := kp3 _ _ n1 n2 upd_same
    obtain ⟨v, hv, ev⟩ := item_at (xs := ([0, 1, 2, 9, 10, 99, 100, -1, -10, 10 ^ (12 : Int).toNat, a * 10 ^ (6 : Int).toNat + b, 0 - (a * 10 ^ (6 : Int).toNat + b)] : List Int).map V.int) r0 r1
    obtain ⟨i, hi, rfl⟩ := List.mem_map.mp hv
    refine ⟨p, _, r, _, rfl, rfl, .inl (.inl hp), ev, q H3 i hD3 (kp1.trans (kp2.trans ((kpSame (same_upd np)).trans kp3))) ?_⟩
    have e12 : (10 : Int) ^ (12 : Int).toNat = 1000000000000 := rfl
    have e6 : (10 : Int) ^ (6 : Int).toNat = 1000000 := rfl
    rw [e12, e6] at hi
    simp only [List.mem_cons, List.not_mem_nil, or_false] at hi
    omega
def Tip (us : List Int) (t : Tm) : Prop := t.ok ∧ t.depth = 1 ∧ t.size = 1 ∧ ∀ n ∈ t.uks, n ∈ us
/-- the words at wl, the unknowns' numbers at ul -/
structure Src (H : Hp) (d c wl ul : Addr) (zs : List Str) (us : List Int) : Prop where
  w : H wl = some (.lst (zs.map V.str))
  u : H ul = some (.lst (us.map V.int))
  w1 : wl ≠ d
  w2 : wl ≠ c
  u1 : ul ≠ d
  u2 : ul ≠ c
  wd : ∀ z ∈ zs, Wd z
  zn : 0 < zs.length
  zl : zs.length ≤ 100
  ul : us.length ≤ 100
  ub : ∀ n ∈ us, 0 ≤ n ∧ n ≤ 999
theorem Src.keep {H H' : Hp} {d c wl ul : Addr} {zs : List Str} {us : List Int} (S : Src H d c wl ul zs us) (k : Kp d c H H') : Src H' d c wl ul zs us :=
  ⟨k _ _ S.w1 S.w2 S.w, k _ _ S.u1 S.u2 S.u, S.w1, S.w2, S.u1, S.u2, S.wd, S.zn, S.zl, S.ul, S.ub⟩
def spTip : Sp := fun vs H Q _ => ∃ (d c wl ul : Addr) (zs : List Str) (us : List Int), vs = [.ref d, .ref wl, .ref ul] ∧ Dk H d c ∧ Src H d c wl ul zs us ∧ ∀ H' x t, Dk H' d c → Kp d c H H' → IsTm H' x t → Tip us t → Q x H'
theorem ok_tip {f fD fN : Addr} {fd fdD fdN : FuncData} {k : Nat} (F : Fun K "_law_tip" "_law_tip" sTip f fd) (GD : FnOk P w K mg base CX0 (k + 1) fD fdD ["_law_deck_here", "_law_many"] spDraw) (bD : Binds K fdD ["_law_deck_here", "_law_many"] [])
    (gD : mg "_law_draw" = some (.ref fD)) (kD : PySem.W.keepIn K (.ref fD) = true) (GN : FnOk P w K mg base CX0 (k + 2) fN fdN ["_law_deck_here"] spNumber) (bN : Binds K fdN ["_law_deck_here"] [])
    (gN : mg "_law_number" = some (.ref fN)) (kN : PySem.W.keepIn K (.ref fN) = true) (ml : mg "len" = none) : FnOk P w K mg base CX0 (k + 3) f fd ["_law_deck_here", "_law_words", "_law_unknowns_here"] spTip := by
  refine F.ok scTip (fun vs H Q E h => ?_) (fun cdv A outer s H vs Q E hr h => ?_)
  · obtain ⟨d, c, wl, ul, zs, us, rfl, _⟩ := h
    rfl
  · obtain ⟨d, c, wl, ul, zs, us, rfl, hD, S, q⟩ := h
    have hr1 := hr.mono (show k + 1 ≤ k + 2 by omega)
    refine ⟨_, pss_cons (ps_set (i := 3) scTip.nd rfl (.inl rfl) (pe_call GD hr1 (by rfl) gD kD bD .nil pass0 (pa_cons (pv 0) (pa_cons pe_int pa_nil))))
      (pss_cons (ps_if (PW.pt (pw_and (pt_cmpR op_lt (pv 3) pe_int (nomark _)) (pw_and1 (pt_cmpR (op_neD hr.units) (pv 2) (pe_lst pa_nil) (nomark _)))))
        (pss_one (ps_ret (pe_tup (pa_cons pe_str (pa_cons (pe_ix ix_list (pv 2) (pe_call GD hr1 (by rfl) gD kD bD .nil pass0 (pa_cons (pv 0) (pa_cons (pe_callB call_len_seq (by rfl) ml PySem.boot_len (pa_cons (pv 2) pa_nil)) pa_nil))) (fun _ _ => rfl)) pa_nil))))) pss_nil)
      (pss_cons (ps_if (pt_cmpR op_eq (pv 3) pe_int (nomark _)) (pss_one (ps_ret (pe_tup pa_nil))) pss_nil)
      (pss_cons (ps_if (pt_cmpR op_lt (pv 3) pe_int (nomark _))
        (pss_one (ps_ret (pe_ix ix_list (pv 1) (pe_call GD hr1 (by rfl) gD kD bD .nil pass0 (pa_cons (pv 0) (pa_cons (pe_callB call_len_seq (by rfl) ml PySem.boot_len (pa_cons (pv 1) pa_nil)) pa_nil))) (fun _ _ => rfl)))) pss_nil)
      (pss_one (ps_ret (pe_call GN hr (by rfl) gN kN bN .nil pass0 (pa_cons (pv 0) pa_nil))))))), ?_⟩
    refine ⟨.ref d, rfl, d, c, 8, rfl, hD, by decide, by decide, fun H1 kd hD1 kp1 b0 b1 => ?_⟩
    have S1 := S.keep kp1
    refine ⟨.int kd, rfl, _, _, rfl, rfl, _, rfl, ite2 (fun _ => ?_) (fun _ => ?_)⟩
    · refine ⟨.ref ul, rfl, Nat.zero_le _, fun p np => ?_⟩
      have s2 : Same H1 (upd H1 p (.lst [])) := same_upd np
      have hD2 := hD1.same s2
      have kq2 : Kp d c H (upd H1 p (.lst [])) := kp1.trans (kpSame s2)
      have S2 : Src (upd H1 p (.lst [])) d c wl ul zs us := S1.keep (kpSame s2)
      refine ⟨.list (us.map .int), .list (([] : List Int).map .int), .lst (.inl (.inl S2.u)) (dpInts _), .lst (.inl (.inl upd_same)) .nil, shpL _, shpL _, _, rfl, ?_⟩
      rw [eqvL]
      generalize upd H1 p (.lst []) = H2 at *
      by_cases hus : us = []
      · rw [decide_eq_true hus]
        refine iteF ?_
        refine ⟨.int kd, rfl, rfl, _, rfl, ite2 (fun _ => ?_) (fun _ => ?_)⟩
        · exact ⟨Nat.zero_le _, fun p np => q _ _ _ (hD2.same (same_upd np)) (kq2.trans (kpSame (same_upd np))) (.nil upd_same) ⟨True.intro, rfl, rfl, fun n h => absurd h List.not_mem_nil⟩⟩
        refine ⟨.int kd, rfl, _, _, rfl, rfl, _, rfl, ite2 (fun _ => ?_) (fun _ => ?_)⟩
        · have zn := S2.zn
          have zl := S2.zl
          refine ⟨.ref wl, rfl, .ref d, rfl, .ref wl, rfl, wl, _, rfl, .inl (.inl (.inl S2.w)), d, c, _, rfl, hD2, ?_, ?_, fun H3 r hD3 kp3 r0 r1 => ?_⟩
          · rw [List.length_map]
            omega
          · rw [List.length_map]
            exact Nat.lt_of_le_of_lt (show zs.length ≤ 100 by omega) (by decide)
          obtain ⟨v, hv, ev⟩ := item_at (xs := zs.map V.str) r0 r1
          obtain ⟨z, hz, rfl⟩ := List.mem_map.mp hv
          exact ⟨wl, _, r, _, rfl, rfl, .inl (.inl (S2.keep kp3).w), ev, q H3 _ _ hD3 (kq2.trans kp3) (.wrd z) ⟨S.wd z hz, rfl, rfl, fun n h => absurd h List.not_mem_nil⟩⟩
        · exact ⟨.ref d, rfl, d, c, rfl, hD2, fun H3 i hD3 kp3 hi => q H3 _ _ hD3 (kq2.trans kp3) (.int i) ⟨hi, rfl, rfl, fun n h => absurd h List.not_mem_nil⟩⟩
      · rw [decide_eq_false hus]
        refine iteT ?_
        have un : 0 < us.length := List.length_pos_iff.mpr hus
        have ul' := S2.ul
        refine ⟨.ref ul, rfl, .ref d, rfl, .ref ul, rfl, ul, _, rfl, .inl (.inl (.inl S2.u)), d, c, _, rfl, hD2, ?_, ?_, fun H3 r hD3 kp3 r0 r1 => ?_⟩
        · rw [List.length_map]
          omega
        · rw [List.length_map]
          exact Nat.lt_of_le_of_lt (show us.length ≤ 100 by omega) (by decide)
        obtain ⟨v, hv, ev⟩ := item_at (xs := us.map V.int) r0 r1
        obtain ⟨n, hn, rfl⟩ := List.mem_map.mp hv
        refine ⟨ul, _, r, _, rfl, rfl, .inl (.inl (S2.keep kp3).u), ev, (by show 2 ≤ sizeLine; decide), fun p2 np2 => ?_⟩
        exact q _ _ _ (hD3.same (same_upd np2)) (kq2.trans (kp3.trans (kpSame (same_upd np2)))) (.unk upd_same) ⟨⟨(S.ub n hn).1, by have := (S.ub n hn).2; omega⟩, rfl, rfl, fun m h => by rw [List.mem_singleton.mp h]; exact hn⟩
    · refine iteF ?_
      have hD2 := hD1
      have kq2 := kp1
      have S2 := S1
      refine ⟨.int kd, rfl, rfl, _, rfl, ite2 (fun _ => ?_) (fun _ => ?_)⟩
      · exact ⟨Nat.zero_le _, fun p np => q _ _ _ (hD2.same (same_upd np)) (kq2.trans (kpSame (same_upd np))) (.nil upd_same) ⟨True.intro, rfl, rfl, fun n h => absurd h List.not_mem_nil⟩⟩
      refine ⟨.int kd, rfl, _, _, rfl, rfl, _, rfl, ite2 (fun _ => ?_) (fun _ => ?_)⟩
      · have zn := S2.zn
        have zl := S2.zl
        refine ⟨.ref wl, rfl, .ref d, rfl, .ref wl, rfl, wl, _, rfl, .inl (.inl (.inl S2.w)), d, c, _, rfl, hD2, ?_, ?_, fun H3 r hD3 kp3 r0 r1 => ?_⟩
        · rw [List.length_map]
          omega
        · rw [List.length_map]
          exact Nat.lt_of_le_of_lt (show zs.length ≤ 100 by omega) (by decide)
        obtain ⟨v, hv, ev⟩ := item_at (xs := zs.map V.str) r0 r1
        obtain ⟨z, hz, rfl⟩ := List.mem_map.mp hv
        exact ⟨wl, _, r, _, rfl, rfl, .inl (.inl (S2.keep kp3).w), ev, q H3 _ _ hD3 (kq2.trans kp3) (.wrd z) ⟨S.wd z hz, rfl, rfl, fun n h => absurd h List.not_mem_nil⟩⟩
      · exact ⟨.ref d, rfl, d, c, rfl, hD2, fun H3 i hD3 kp3 hi => q H3 _ _ hD3 (kq2.trans kp3) (.int i) ⟨hi, rfl, rfl, fun n h => absurd h List.not_mem_nil⟩⟩
end
end Ksec
set_option Elab.async false
set_option linter.all false
set_option maxRecDepth 100000
set_option maxHeartbeats 4000000
namespace Ksec
open PySem PySem.Spec PyProof.Rows L2
/-- all but the deck and the list at e stays -/
def Kq (d c e : Addr) (H H' : Hp) : Prop := ∀ b o, b ≠ d → b ≠ c → b ≠ e → H b = some o → H' b = some o
theorem Kq.trans {d c e : Addr} {H H1 H2 : Hp} (a : Kq d c e H H1) (b : Kq d c e H1 H2) : Kq d c e H H2 := fun x o h1 h2 h3 r => b x o h1 h2 h3 (a x o h1 h2 h3 r)
theorem kqOf {d c e : Addr} {H H1 : Hp} (a : Kp d c H H1) : Kq d c e H H1 := fun x o h1 h2 _ r => a x o h1 h2 r
theorem kqTup {d c e : Addr} {H H' : Hp} {L : Int} (h : Dk H d c) (hl : H e = some (.lst [.int L])) (k : Kq d c e H H') : Tup H H' := fun b xs r => by
  obtain ⟨⟨x1, h1⟩, ⟨x2, h2⟩⟩ := h.lists
  exact k b _ (ne_of r h1 (by intro z; cases z)) (ne_of r h2 (by intro z; cases z)) (ne_of r hl (by intro z; cases z)) r
theorem Src.keepq {H H' : Hp} {d c e wl ul : Addr} {zs : List Str} {us : List Int} (S : Src H d c wl ul zs us) (h1 : wl ≠ e) (h2 : ul ≠ e) (k : Kq d c e H H') : Src H' d c wl ul zs us :=
  ⟨k _ _ S.w1 S.w2 h1 S.w, k _ _ S.u1 S.u2 h2 S.u, S.w1, S.w2, S.u1, S.u2, S.wd, S.zn, S.zl, S.ul, S.ub⟩
/-- what a drawn term is, by its depth and how much of the budget it took -/
def Drawn (us : List Int) (n : Nat) (L L' : Int) (t : Tm) : Prop := t.ok ∧ t.depth ≤ max 1 n ∧ (t.size : Int) + L' ≤ L + 1 ∧ 0 ≤ L' ∧ ∀ m ∈ t.uks, m ∈ us
section
variable {P : Program} {w : World} {K : PySem.W.Frag} {mg : Str → Option Value} {base : Heap}
def spTerm (n : Nat) : Sp := fun vs H Q _ => ∃ (d c wl ul e : Addr) (zs : List Str) (us : List Int) (dp L : Int), vs = [.ref d, .ref wl, .ref ul, .int dp, .ref e] ∧ Dk H d c ∧ Src H d c wl ul zs us ∧
  H e = some (.lst [.int L]) ∧ e ≠ d ∧ e ≠ c ∧ wl ≠ e ∧ ul ≠ e ∧ dp ≤ n ∧ 0 ≤ L ∧
  ∀ H' x t L', Dk H' d c → Kq d c e H H' → H' e = some (.lst [.int L']) → IsTm H' x t → Drawn us n L L' t → Q x H'
def spTermP : Nat → Sp
  | 0 => fun _ _ _ _ => False
  | n + 1 => spTerm n
abbrev psTerm : List Str := ["_law_deck_here", "_law_words", "_law_unknowns_here", "_law_deep", "_law_left"]
theorem ok_term1 {f fD fT : Addr} {fd fdD fdT : FuncData} {k n : Nat} (F : Fun K "_law_term" "_law_term" sTerm f fd) (GD : FnOk P w K mg base CX0 (k + 1) fD fdD ["_law_deck_here", "_law_many"] spDraw) (bD : Binds K fdD ["_law_deck_here", "_law_many"] [])
    (gD : mg "_law_draw" = some (.ref fD)) (kD : PySem.W.keepIn K (.ref fD) = true) (GT : FnOk P w K mg base CX0 (k + 3) fT fdT ["_law_deck_here", "_law_words", "_law_unknowns_here"] spTip) (bT : Binds K fdT ["_law_deck_here", "_law_words", "_law_unknowns_here"] [])
    (gT : mg "_law_tip" = some (.ref fT)) (kT : PySem.W.keepIn K (.ref fT) = true) (mi : mg "int" = none) (G : FnOk P w K mg base CX0 (k + 3 + n) f fd psTerm (spTermP n)) (b : Binds K fd psTerm []) (g : mg "_law_term" = some (.ref f)) : FnOk P w K mg base CX0 (k + 4 + n) f fd psTerm (spTerm n) := by
  rw [show k + 4 + n = k + 3 + n + 1 by omega]
  refine F.ok scTerm (fun vs H Q E h => ?_) (fun cdv A outer s H vs Q E hr h => ?_)
  · obtain ⟨d, c, wl, ul, e, zs, us, dp, L, rfl, _⟩ := h
    rfl
  · obtain ⟨d, c, wl, ul, e, zs, us, dp, L, rfl, hD, S, hL, e1, e2, e3, e4, hdp, hL0, q⟩ := h
    have hr1 := hr.mono (show k + 1 ≤ k + 3 + n by omega)
    have hr2 := hr.mono (show k + 3 ≤ k + 3 + n by omega)
    refine ⟨_, pss_cons (ps_set (i := 5) scTerm.nd rfl (.inl rfl) (pe_call GD hr1 (by rfl) gD kD bD .nil pass0 (pa_cons (pv 0) (pa_cons pe_int pa_nil))))
      (pss_cons (ps_if (PW.pt (pw_or (pt_cmpR op_lt (pv 3) pe_int (nomark _)) (pw_or (pt_cmpR op_lt (pe_ix ix_list (pv 4) pe_int (fun _ _ => rfl)) pe_int (nomark _)) (pw_or1 (pt_cmpR op_eq (pv 5) pe_int (nomark _))))))
        (pss_one (ps_ret (pe_call GT hr2 (by rfl) gT kT bT .nil pass0 (pa_cons (pv 0) (pa_cons (pv 1) (pa_cons (pv 2) pa_nil)))))) pss_nil)
      (pss_cons (ps_asg (pe_op op_sub (pe_ix ix_list (pv 4) pe_int (fun _ _ => rfl)) pe_int) (pg_sub (pv 4) pe_int set_list))
      (pss_cons (ps_set (i := 6) scTerm.nd rfl (.inl rfl) (pe_call G hr (by rfl) g F.kp b .nil pass0 (pa_cons (pv 0) (pa_cons (pv 1) (pa_cons (pv 2)
          (pa_cons (pe_ix ix_list (pe_lst (pa_cons (pe_op op_sub (pv 3) pe_int) (pa_cons pe_int pa_nil))) (pe_callTy call_int1 (by rfl) mi (by decide +kernel) (pa_cons (pe_cmpR op_eq (pv 5) pe_int (nomark _)) pa_nil)) (fun _ _ => rfl)) (pa_cons (pv 4) pa_nil)))))))
      (pss_one (ps_ret (pe_tup (pa_cons (pv 6) (pa_cons (pe_call G hr (by rfl) g F.kp b .nil pass0 (pa_cons (pv 0) (pa_cons (pv 1) (pa_cons (pv 2) (pa_cons (pe_op op_sub (pv 3) pe_int) (pa_cons (pv 4) pa_nil)))))) pa_nil)))))))), ?_⟩
    refine ⟨.ref d, rfl, d, c, 5, rfl, hD, by decide, by decide, fun H1 kd hD1 kp1 b0 b1 => ?_⟩
    have S1 := S.keep kp1
    have hL1 := kp1 _ _ e1 e2 hL
    have tip : spTip [.ref d, .ref wl, .ref ul] H1 Q E0 := ⟨d, c, wl, ul, zs, us, rfl, hD1, S1, fun H2 x t hD2 kp2 hx ht => q H2 x t L hD2 (kqOf (kp1.trans kp2)) (kp2 _ _ e1 e2 hL1) hx ⟨ht.1, by rw [ht.2.1]; omega, by rw [ht.2.2.1]; omega, hL0, ht.2.2.2⟩⟩
    refine ⟨.int dp, rfl, _, _, rfl, rfl, _, rfl, ite2 (fun _ => ?_) (fun h1 => ?_)⟩
    · exact iteT ⟨.ref d, rfl, .ref wl, rfl, .ref ul, rfl, tip⟩
    refine ⟨.ref e, rfl, e, _, 0, .int L, rfl, rfl, .inl (.inl hL1), atI_nat (j := 0) rfl, _, _, rfl, rfl, _, rfl, ite2 (fun _ => ?_) (fun h2 => ?_)⟩
    · exact iteT ⟨.ref d, rfl, .ref wl, rfl, .ref ul, rfl, tip⟩
    refine ⟨.int kd, rfl, rfl, _, rfl, ite2 (fun _ => ?_) (fun h3 => ?_)⟩
    · exact ⟨.ref d, rfl, .ref wl, rfl, .ref ul, rfl, tip⟩
    have g1 : 2 ≤ dp := by
      have : ¬ dp < 2 := fun z => h1 (decide_eq_true z)
      omega
    have g2 : 2 ≤ L := by
      have : ¬ L < 2 := fun z => h2 (decide_eq_true z)
      omega
    cases n with
    | zero => exact absurd hdp (by omega)
    | succ m =>
      refine ⟨.ref e, rfl, e, _, 0, .int L, rfl, rfl, .inl (.inl hL1), atI_nat (j := 0) rfl, L, 2, rfl, rfl, .ref e, rfl, e, _, 0, 0, rfl, rfl, hL1, rfl, ?_⟩
      have hL2 : upd H1 e (.lst ([.int L].set 0 (.int (L - 2)))) e = some (.lst [.int (L - 2)]) := upd_same
      have kq2 : Kq d c e H1 (upd H1 e (.lst ([.int L].set 0 (.int (L - 2))))) := fun x o _ _ h3 r => by
        rw [upd_ne h3]
        exact r
      have hD2 : Dk (upd H1 e (.lst ([.int L].set 0 (.int (L - 2))))) d c := by
        obtain ⟨ns, s', n', q1, q2, q3⟩ := hD1
        exact ⟨ns, s', n', by rw [upd_ne e1.symm]; exact q1, by rw [upd_ne e2.symm]; exact q2, q3⟩
      have S2 := S1.keepq e3 e4 kq2
      generalize upd H1 e (.lst ([.int L].set 0 (.int (L - 2)))) = H2 at *
      refine ⟨.ref d, rfl, .ref wl, rfl, .ref ul, rfl, .int dp, rfl, dp, 1, rfl, rfl, (by show 2 ≤ sizeLine; decide), fun p np => ?_⟩
      have s3 : Same H2 (upd H2 p (.lst [.int (dp - 1), .int 1])) := same_upd np
      obtain ⟨v, hv, ev⟩ : ∃ v : Int, v ≤ (m : Int) ∧ atI [V.int (dp - 1), V.int 1] (if decide (V.int kd = V.int 1) = true then 1 else 0) = some (.int v) := by
        cases decide (V.int kd = V.int 1) with
        | true => exact ⟨1, by omega, atI_nat (j := 1) rfl⟩
        | false => exact ⟨dp - 1, by omega, atI_nat (j := 0) rfl⟩
      have hL3 := s3 _ _ hL2
      have hD3 := hD2.same s3
      have S3 := S2.keep (kpSame s3)
      have kq3 : Kq d c e H (upd H2 p (.lst [.int (dp - 1), .int 1])) := (kqOf kp1).trans (kq2.trans (kqOf (kpSame s3)))
      have hp3 : upd H2 p (.lst [.int (dp - 1), .int 1]) p = some (.lst [.int (dp - 1), .int 1]) := upd_same
      generalize upd H2 p (.lst [.int (dp - 1), .int 1]) = H3 at *
      refine ⟨.int kd, rfl, rfl, .inr ⟨_, rfl, p, _, _, .int v, rfl, rfl, .inl (.inl hp3), ev, .ref e, rfl, ?_⟩⟩
      refine ⟨d, c, wl, ul, e, zs, us, v, L - 2, rfl, hD3, S3, hL3, e1, e2, e3, e4, hv, by omega, fun H4 x t L4 hD4 kq4 hL4 hx ht => ?_⟩
      obtain ⟨t1, t2, t3, t4, t5⟩ := ht
      have S4 := S3.keepq e3 e4 kq4
      refine ⟨x, rfl, .ref d, rfl, .ref wl, rfl, .ref ul, rfl, .int dp, rfl, dp, 1, rfl, rfl, .ref e, rfl, d, c, wl, ul, e, zs, us, dp - 1, L4, rfl, hD4, S4, hL4, e1, e2, e3, e4, by omega, t4, fun H5 y u L5 hD5 kq5 hL5 hy hu => ⟨(by show 2 ≤ sizeLine; decide), fun a na => ?_⟩⟩
      obtain ⟨u1, u2, u3, u4, u5⟩ := hu
      have s6 : Same H5 (upd H5 a (.tup [x, y])) := same_upd na
      refine q _ _ (.pair t u) L5 (hD5.same s6) (kq3.trans (kq4.trans (kq5.trans (kqOf (kpSame s6))))) (s6 _ _ hL5) (.pair upd_same ((hx.keep (kqTup hD4 hL4 kq5)).keep (sameTup s6)) (hy.keep (sameTup s6))) ⟨⟨t1, u1⟩, ?_, ?_, u4, fun m h => (List.mem_append.mp h).elim (t5 m) (u5 m)⟩
      · show max t.depth u.depth + 1 ≤ max 1 (m + 1)
        omega
      · show ((t.size + u.size + 1 : Nat) : Int) + L5 ≤ L + 1
        omega
theorem ok_term {f fD fT : Addr} {fd fdD fdT : FuncData} {k : Nat} (F : Fun K "_law_term" "_law_term" sTerm f fd) (GD : FnOk P w K mg base CX0 (k + 1) fD fdD ["_law_deck_here", "_law_many"] spDraw) (bD : Binds K fdD ["_law_deck_here", "_law_many"] [])
    (gD : mg "_law_draw" = some (.ref fD)) (kD : PySem.W.keepIn K (.ref fD) = true) (GT : FnOk P w K mg base CX0 (k + 3) fT fdT ["_law_deck_here", "_law_words", "_law_unknowns_here"] spTip) (bT : Binds K fdT ["_law_deck_here", "_law_words", "_law_unknowns_here"] [])
    (gT : mg "_law_tip" = some (.ref fT)) (kT : PySem.W.keepIn K (.ref fT) = true) (mi : mg "int" = none) (b : Binds K fd psTerm []) (g : mg "_law_term" = some (.ref f)) : ∀ n, FnOk P w K mg base CX0 (k + 4 + n) f fd psTerm (spTerm n)
  | 0 => ok_term1 (n := 0) F GD bD gD kD GT bT gT kT mi ⟨fun _ _ _ _ h => h.elim, fun _ _ _ _ _ _ _ _ _ _ _ _ _ h => h.elim⟩ b g
  | n + 1 => ok_term1 (n := n + 1) F GD bD gD kD GT bT gT kT mi (by
      have h := ok_term F GD bD gD kD GT bT gT kT mi b g n
      rw [show k + 3 + (n + 1) = k + 4 + n by omega]
      exact h) b g
end
end Ksec
set_option Elab.async false
set_option linter.all false
set_option maxRecDepth 100000
set_option maxHeartbeats 4000000
namespace Ksec
open PySem PySem.Spec PyProof.Rows L2
theorem kpBack {d c : Addr} {H H1 H2 : Hp} (a : Kp d c H H1) (e : Addr) (ne : H e = none) (k : Kq d c e H1 H2) : Kp d c H H2 := fun x o h1 h2 r => k x o h1 h2 (ne_of_none r ne) (a x o h1 h2 r)
theorem kpFree {d c p : Addr} {H H1 : Hp} (a : Kp d c H H1) (h1 : p ≠ d) (h2 : p ≠ c) (h : H1 p = none) : H p = none := by
  cases e : H p with
  | none => rfl
  | some o =>
    rw [a p o h1 h2 e] at h
    cases h
section
variable {P : Program} {w : World} {K : PySem.W.Frag} {mg : Str → Option Value} {base : Heap}
def spAny : Sp := fun vs H Q _ => ∃ (d c wl ul : Addr) (zs : List Str) (us : List Int), vs = [.ref d, .ref wl, .ref ul] ∧ Dk H d c ∧ Src H d c wl ul zs us ∧ ∀ H' x t, Dk H' d c → Kp d c H H' → IsTm H' x t → t.ok → t.depth ≤ 30 → t.size ≤ 200 → (∀ n ∈ t.uks, n ∈ us) → Q x H'
theorem ok_any {f fD fT fR : Addr} {fd fdD fdT fdR : FuncData} {k : Nat} (F : Fun K "_law_any_term" "_law_any_term" sAny f fd) (GD : FnOk P w K mg base CX0 (k + 1) fD fdD ["_law_deck_here", "_law_many"] spDraw) (bD : Binds K fdD ["_law_deck_here", "_law_many"] [])
    (gD : mg "_law_draw" = some (.ref fD)) (kD : PySem.W.keepIn K (.ref fD) = true) (GT : FnOk P w K mg base CX0 (k + 3) fT fdT ["_law_deck_here", "_law_words", "_law_unknowns_here"] spTip) (bT : Binds K fdT ["_law_deck_here", "_law_words", "_law_unknowns_here"] [])
    (gT : mg "_law_tip" = some (.ref fT)) (kT : PySem.W.keepIn K (.ref fT) = true) (GR : ∀ n, FnOk P w K mg base CX0 (k + 4 + n) fR fdR psTerm (spTerm n)) (bR : Binds K fdR psTerm []) (gR : mg "_law_term" = some (.ref fR)) (kR : PySem.W.keepIn K (.ref fR) = true)
    (mr : mg "range" = none) : FnOk P w K mg base CX0 (k + 34) f fd ["_law_deck_here", "_law_words", "_law_unknowns_here"] spAny := by
  refine F.ok scAny (fun vs H Q E h => ?_) (fun cdv A outer s H vs Q E hr h => ?_)
  · obtain ⟨d, c, wl, ul, zs, us, rfl, _⟩ := h
    rfl
  · obtain ⟨d, c, wl, ul, zs, us, rfl, hD, S, q⟩ := h
    have hr1 := hr.mono (show k + 1 ≤ k + 33 by omega)
    have hr2 := hr.mono (show k + 3 ≤ k + 33 by omega)
    have G29 : FnOk P w K mg base CX0 (k + 33) fR fdR psTerm (spTerm 29) := GR 29
    refine ⟨_, pss_cons (ps_set (i := 3) scAny.nd rfl (.inl rfl) (pe_call GD hr1 (by rfl) gD kD bD .nil pass0 (pa_cons (pv 0) (pa_cons pe_int pa_nil))))
      (pss_cons (ps_if (pt_cmpR op_eq (pv 3) pe_int (nomark _)) (pss_one (ps_ret (pe_call G29 hr (by rfl) gR kR bR .nil pass0 (pa_cons (pv 0) (pa_cons (pv 1) (pa_cons (pv 2) (pa_cons pe_int (pa_cons (pe_lst (pa_cons pe_int pa_nil)) pa_nil)))))))) pss_nil)
      (pss_cons (ps_if (pt_cmpR op_gt (pv 3) pe_int (nomark _))
        (pss_cons (ps_set (i := 4) scAny.nd rfl (.inl rfl) (pe_call GT hr2 (by rfl) gT kT bT .nil pass0 (pa_cons (pv 0) (pa_cons (pv 1) (pa_cons (pv 2) pa_nil)))))
        (pss_cons (ps_for PassesOwn.never rfl (pi_range1 (by rfl) mr (pa_cons (pe_op op_add pe_int (pe_call GD hr1 (by rfl) gD kD bD .nil pass0 (pa_cons (pv 0) (pa_cons pe_int pa_nil)))) pa_nil)) (pg_name (i := 5) scAny.nd rfl (Or.inl rfl))
          (pss_cons (ps_set (i := 6) scAny.nd rfl (.inl rfl) (pe_call GT hr2 (by rfl) gT kT bT .nil pass0 (pa_cons (pv 0) (pa_cons (pv 1) (pa_cons (pv 2) pa_nil)))))
            (pss_one (ps_set (i := 4) scAny.nd rfl (.inl rfl) (pe_ix ix_list (pe_lst (pa_cons (pe_tup (pa_cons (pv 6) (pa_cons (pv 4) pa_nil))) (pa_cons (pe_tup (pa_cons (pv 4) (pa_cons (pv 6) pa_nil))) pa_nil))) (pe_op op_sub (pv 3) pe_int) (fun _ _ => rfl))))))
        (pss_one (ps_ret (pv 4))))) pss_nil)
      (pss_one (ps_ret (pe_call G29 hr (by rfl) gR kR bR .nil pass0 (pa_cons (pv 0) (pa_cons (pv 1) (pa_cons (pv 2)
        (pa_cons (pe_ix ix_list (pe_lst (pa_cons pe_int (pa_cons pe_int (pa_cons pe_int pa_nil)))) (pe_call GD hr1 (by rfl) gD kD bD .nil pass0 (pa_cons (pv 0) (pa_cons pe_int pa_nil))) (fun _ _ => rfl))
        (pa_cons (pe_lst (pa_cons (pe_ix ix_list (pe_lst (pa_cons pe_int (pa_cons pe_int (pa_cons pe_int pa_nil)))) (pe_call GD hr1 (by rfl) gD kD bD .nil pass0 (pa_cons (pv 0) (pa_cons pe_int pa_nil))) (fun _ _ => rfl)) pa_nil)) pa_nil)))))))))), ?_⟩
    refine ⟨.ref d, rfl, d, c, 8, rfl, hD, by decide, by decide, fun H1 kd hD1 kp1 b0 b1 => ?_⟩
    have S1 := S.keep kp1
    -- a term by a budget
    have trm : ∀ (H2 : Hp) (e : Addr) (dp L : Int), Dk H2 d c → Kp d c H H2 → H2 e = none → dp ≤ 29 → 0 ≤ L → L ≤ 116 → spTerm 29 [.ref d, .ref wl, .ref ul, .int dp, .ref e] (upd H2 e (.lst [.int L])) Q E0 := fun H2 e dp L hD2 kp2 ne h1 h2 h3 => by
      have s2 : Same H2 (upd H2 e (.lst [.int L])) := same_upd ne
      have S2 := (S.keep kp2).keep (kpSame s2)
      have n1 := hD2.ne1 ne
      have n2 := hD2.ne2 ne
      have kp3 := kp2.trans (kpSame s2)
      refine ⟨d, c, wl, ul, e, zs, us, dp, L, rfl, hD2.same s2, S2, upd_same, n1, n2, ?_, ?_, h1, h2, fun H4 x t L4 hD4 kq4 hL4 hx ht => ?_⟩
      · exact ne_of_none (S.keep kp2).w ne
      · exact ne_of_none (S.keep kp2).u ne
      · obtain ⟨t1, t2, t3, t4, t5⟩ := ht
        exact q H4 x t hD4 (kpBack kp3 e (kpFree kp2 n1 n2 ne) kq4) hx t1 (by omega) (by omega) t5
    refine ⟨.int kd, rfl, rfl, _, rfl, ite2 (fun _ => ?_) (fun _ => ?_)⟩
    · exact ⟨.ref d, rfl, .ref wl, rfl, .ref ul, rfl, (by show 1 ≤ sizeLine; decide), fun e ne => trm H1 e 29 116 hD1 kp1 ne (by decide) (by decide) (by decide)⟩
    refine ⟨.int kd, rfl, _, _, rfl, rfl, _, rfl, ite2 (fun h5 => ?_) (fun _ => ?_)⟩
    · have k6 : 5 < kd := of_decide_eq_true h5
      refine ⟨.ref d, rfl, .ref wl, rfl, .ref ul, rfl, d, c, wl, ul, zs, us, rfl, hD1, S1, fun H2 x2 t2 hD2 kp2 hx2 ht2 => ?_⟩
      refine ⟨.ref d, rfl, d, c, 28, rfl, hD2, by decide, by decide, fun H3 r hD3 kp3 r0 r1 => ⟨1, r, rfl, rfl, 1 + r, rfl, by omega, by omega, ?_⟩⟩
      refine for_range (lo := 0) (n := (1 + r).toNat) (fun i σ H' => ∃ (y5 y6 : Option V) (x : V) (t : Tm), σ = [some (.ref d), some (.ref wl), some (.ref ul), some (.int kd), some x, y5, y6] ∧ Dk H' d c ∧ Kp d c H H' ∧ IsTm H' x t ∧ t.ok ∧ t.depth ≤ i + 1 ∧ t.size ≤ 2 * i + 1 ∧ ∀ n ∈ t.uks, n ∈ us) ?_ (fun i σ H4 hi h4 => ?_) (fun σ H4 h4 => ?_)
      · obtain ⟨a1, a2, a3, a4⟩ := ht2
        exact ⟨none, none, x2, t2, rfl, hD3, kp1.trans (kp2.trans kp3), hx2.keep (kpTup hD2 kp3), a1, by omega, by omega, a4⟩
      · obtain ⟨y5, y6, x, t, rfl, hD4, kp4, hx, t1, t2', t3, t5⟩ := h4
        have S4 := S.keep kp4
        refine ⟨.ref d, rfl, .ref wl, rfl, .ref ul, rfl, d, c, wl, ul, zs, us, rfl, hD4, S4, fun H5 y u hD5 kp5 hy hu => ?_⟩
        obtain ⟨u1, u2, u3, u5⟩ := hu
        have hx5 := hx.keep (kpTup hD4 kp5)
        refine ⟨y, rfl, x, rfl, (by show 2 ≤ sizeLine; decide), fun p1 np1 => ?_⟩
        have s5 : Same H5 (upd H5 p1 (.tup [y, x])) := same_upd np1
        refine ⟨x, rfl, y, rfl, (by show 2 ≤ sizeLine; decide), fun p2 np2 => ?_⟩
        have s6 : Same (upd H5 p1 (.tup [y, x])) (upd (upd H5 p1 (.tup [y, x])) p2 (.tup [x, y])) := same_upd np2
        refine ⟨(by show 2 ≤ sizeLine; decide), fun p3 np3 => ?_⟩
        have s7 := same_upd (o := .lst [.ref p1, .ref p2]) np3
        have s8 := s5.trans (s6.trans s7)
        have hx8 := hx5.keep (sameTup s8)
        have hy8 := hy.keep (sameTup s8)
        have q1 : IsTm _ (.ref p1) (.pair u t) := .pair (s7 _ _ (s6 _ _ upd_same)) hy8 hx8
        have q2 : IsTm _ (.ref p2) (.pair t u) := .pair (s7 _ _ upd_same) hx8 hy8
        have hD8 := hD5.same s8
        have kp8 := kp4.trans (kp5.trans (kpSame s8))
        have hp8 : upd (upd (upd H5 p1 (.tup [y, x])) p2 (.tup [x, y])) p3 (.lst [.ref p1, .ref p2]) p3 = some (.lst [.ref p1, .ref p2]) := upd_same
        have e67 : kd = 6 ∨ kd = 7 := by omega
        rcases e67 with e | e
        · subst e
          refine ⟨.int 6, rfl, 6, 6, rfl, rfl, p3, _, 0, .ref p1, rfl, rfl, .inl (.inl hp8), atI_nat (j := 0) rfl, _, _, _, _, rfl, hD8, kp8, q1, ⟨u1, t1⟩, ?_, ?_, fun m h => (List.mem_append.mp h).elim (u5 m) (t5 m)⟩
          · show max u.depth t.depth + 1 ≤ _
            omega
          · show u.size + t.size + 1 ≤ _
            omega
        · subst e
          refine ⟨.int 7, rfl, 7, 6, rfl, rfl, p3, _, 1, .ref p2, rfl, rfl, .inl (.inl hp8), atI_nat (j := 1) rfl, _, _, _, _, rfl, hD8, kp8, q2, ⟨t1, u1⟩, ?_, ?_, fun m h => (List.mem_append.mp h).elim (t5 m) (u5 m)⟩
          · show max t.depth u.depth + 1 ≤ _
            omega
          · show t.size + u.size + 1 ≤ _
            omega
      · obtain ⟨y5, y6, x, t, rfl, hD4, kp4, hx, t1, t2', t3, t5⟩ := h4
        exact ⟨x, rfl, q H4 x t hD4 kp4 hx t1 (by omega) (by omega) t5⟩
    · refine ⟨.ref d, rfl, .ref wl, rfl, .ref ul, rfl, (by show 3 ≤ sizeLine; decide), fun p np => ?_⟩
      have n1 := hD1.ne1 np
      have n2 := hD1.ne2 np
      refine ⟨.ref d, rfl, d, c, 3, rfl, hD1.same (same_upd np), by decide, by decide, fun H2 r hD2 kp2 r0 r1 => ?_⟩
      obtain ⟨v, hv, ev⟩ := item_at (xs := ([2, 3, 5] : List Int).map V.int) r0 r1
      obtain ⟨dp, hdp, rfl⟩ := List.mem_map.mp hv
      have kq2 := kp1.trans ((kpSame (same_upd np)).trans kp2)
      refine ⟨p, _, r, _, rfl, rfl, .inl (.inl (kp2 _ _ n1 n2 upd_same)), ev, (by show 3 ≤ sizeLine; decide), fun p' np' => ?_⟩
      have n3 := hD2.ne1 np'
      have n4 := hD2.ne2 np'
      refine ⟨.ref d, rfl, d, c, 3, rfl, hD2.same (same_upd np'), by decide, by decide, fun H3 r' hD3 kp3 r0' r1' => ?_⟩
      obtain ⟨v', hv', ev'⟩ := item_at (xs := ([2, 6, 12] : List Int).map V.int) r0' r1'
      obtain ⟨L, hLm, rfl⟩ := List.mem_map.mp hv'
      have kq3 := kq2.trans ((kpSame (same_upd np')).trans kp3)
      simp only [List.mem_cons, List.not_mem_nil, or_false] at hdp hLm
      exact ⟨p', _, r', _, rfl, rfl, .inl (.inl (kp3 _ _ n3 n4 upd_same)), ev', (by show 1 ≤ sizeLine; decide), fun e ne => trm H3 e dp L hD3 kq3 ne (by omega) (by omega) (by omega)⟩
end
end Ksec
set_option Elab.async false
set_option linter.all false
set_option maxRecDepth 100000
set_option maxHeartbeats 4000000
namespace Ksec
open PySem PySem.Spec PyProof.Rows L2
abbrev sUnks : Stmt := topS 17
abbrev nUnks : List Str := ["_law_term_here", "_law_found", "_law_number_here"]
theorem scUnks : FnScope nUnks ["_law_term_here"] (defScope sUnks) := ⟨rfl, rfl, rfl, by decide +kernel, rfl, by decide +kernel, by decide +kernel⟩
/-! the mathematics -/
def out (acc ns : List Int) : List Int := ns.filter fun n => decide (n ∉ acc)
def Tm.dd : Tm → List Int
  | .unk n => [n]
  | .pair a b => a.dd ++ out a.dd b.dd
  | _ => []
theorem addAll_dd : ∀ (t : Tm) (acc : List Int), addAll acc t.uks = acc ++ out acc t.dd
  | .int _, acc => by simp [Tm.uks, Tm.dd, addAll, out]
  | .wrd _, acc => by simp [Tm.uks, Tm.dd, addAll, out]
  | .nil, acc => by simp [Tm.uks, Tm.dd, addAll, out]
  | .unk n, acc => by
    show addN acc n = acc ++ out acc [n]
    unfold addN out
    by_cases h : n ∈ acc
    · simp [h]
    · simp [h]
  | .pair a b, acc => by
    show addAll acc (a.uks ++ b.uks) = acc ++ out acc (a.dd ++ out a.dd b.dd)
    rw [addAll_append, addAll_dd a acc, addAll_dd b]
    unfold out
    rw [List.filter_append, List.filter_filter, List.append_assoc]
    congr 2
    apply List.filter_congr
    intro n _
    by_cases h1 : n ∈ acc <;> by_cases h2 : n ∈ a.dd <;> simp [h1, h2]
theorem uniq_dd (t : Tm) : uniq [t] = t.dd := by
  unfold uniq
  show addAll [] (t.uks ++ []) = t.dd
  rw [List.append_nil, addAll_dd]
  unfold out
  rw [List.nil_append]
  apply List.filter_eq_self.mpr
  intro n _
  simp
theorem dd_len : ∀ t : Tm, t.dd.length ≤ t.size
  | .int _ => Nat.zero_le _
  | .wrd _ => Nat.zero_le _
  | .nil => Nat.zero_le _
  | .unk _ => Nat.le_refl _
  | .pair a b => by
    have h1 := dd_len a
    have h2 := dd_len b
    have h3 : (out a.dd b.dd).length ≤ b.dd.length := List.length_filter_le ..
    show (a.dd ++ out a.dd b.dd).length ≤ a.size + b.size + 1
    rw [List.length_append]
    omega
theorem dd_ok : ∀ {t : Tm}, t.ok → ∀ n ∈ t.dd, 0 ≤ n ∧ n ≤ 999999
  | .int _, _, n, h => absurd h List.not_mem_nil
  | .wrd _, _, n, h => absurd h List.not_mem_nil
  | .nil, _, n, h => absurd h List.not_mem_nil
  | .unk m, ho, n, h => by
    rw [List.mem_singleton.mp h]
    exact ho
  | .pair a b, ho, n, h => by
    rcases List.mem_append.mp h with h | h
    · exact dd_ok ho.1 n h
    · exact dd_ok ho.2 n (List.mem_filter.mp h).1
theorem inInts (n : Int) : ∀ ns : List Int, inV (.int n) (ns.map V.int) = decide (n ∈ ns)
  | [] => rfl
  | m :: r => by
    show (eqV (.int m) (.int n) || inV (.int n) (r.map V.int)) = _
    rw [inInts n r]
    show ((m == n) || decide (n ∈ r)) = decide (n ∈ m :: r)
    by_cases h1 : m = n
    · subst h1
      simp
    · have h2 : (m == n) = false := beq_eq_false_iff_ne.mpr h1
      rw [h2, Bool.false_or]
      by_cases h3 : n ∈ r
      · rw [decide_eq_true h3, decide_eq_true (List.mem_cons_of_mem _ h3)]
      · rw [decide_eq_false h3, decide_eq_false (fun z => (List.mem_cons.mp z).elim (fun z => h1 z.symm) h3)]
theorem shp0 : SeqAt.shaped (.tuple []) = true := by decide +kernel
theorem eqv00 : PyData.eqv (.tuple []) (.tuple []) = true := by decide +kernel
theorem eqv20 (a b : PyData) : PyData.eqv (.tuple [a, b]) (.tuple []) = false := by
  unfold PyData.eqv
  rfl
theorem out_take {acc ns : List Int} {i : Nat} {n : Int} (h : ns[i]? = some n) : out acc (ns.take (i + 1)) = if n ∈ acc then out acc (ns.take i) else out acc (ns.take i) ++ [n] := by
  unfold out
  rw [List.take_add_one, h, List.filter_append]
  by_cases h1 : n ∈ acc <;> simp [h1]
theorem flatInts (ns : List Int) : (ns.map V.int).all flatV = true := by
  rw [List.all_eq_true]
  intro x hx
  obtain ⟨n, _, rfl⟩ := List.mem_map.mp hx
  rfl
section
variable {P : Program} {w : World} {K : PySem.W.Frag} {mg : Str → Option Value} {base : Heap}
def spUnks (n : Nat) : Sp := fun vs H Q _ => ∃ (x : V) (t : Tm), vs = [x] ∧ IsTm H x t ∧ t.ok ∧ t.depth ≤ n ∧ n ≤ 64 ∧ t.size ≤ 100000 ∧ ∀ H' p, Same H H' → H p = none → H' p = some (.lst (t.dd.map V.int)) → Q (.ref p) H'
def spUnksP : Nat → Sp
  | 0 => fun _ _ _ _ => False
  | n + 1 => spUnks n
theorem ok_unks1 {f : Addr} {fd : FuncData} {k n : Nat} (F : Fun K "_law_unknowns" "_law_unknowns" sUnks f fd) (mi : mg "isinstance" = none) (mt : mg "tuple" = none) (G : FnOk P w K mg base CX0 (k + n) f fd ["_law_term_here"] (spUnksP n)) (b : Binds K fd ["_law_term_here"] [])
    (g : mg "_law_unknowns" = some (.ref f)) : FnOk P w K mg base CX0 (k + 1 + n) f fd ["_law_term_here"] (spUnks n) := by
  rw [show k + 1 + n = k + n + 1 by omega]
  refine F.ok scUnks (fun vs H Q E h => ?_) (fun cdv A outer s H vs Q E hr h => ?_)
  · obtain ⟨x, t, rfl, _⟩ := h
    rfl
  · obtain ⟨x, t, rfl, hx, ho, hd, hn, hz, q⟩ := h
    refine ⟨_, pss_cons (ps_if (PW.pt (pw_or (pt_not (pt_val (pe_callB call_isi (by rfl) mi (by decide +kernel) (pa_cons (pv 0) (pa_cons (pe_bltn (v := .ty "tuple") (by rfl) mt (by decide +kernel) rfl) pa_nil)))))
        (pw_or1 (pt_cmpR (op_eqD hr.units) (pv 0) (pe_tup pa_nil) (nomark _))))) (pss_one (ps_ret (pe_lst pa_nil))) pss_nil)
      (pss_cons (ps_if (pt_cmpR (op_eqD hr.units) (pe_ix ix_tup (pv 0) pe_int (fun _ _ => rfl)) pe_str (nomark _)) (pss_one (ps_ret (pe_lst (pa_cons (pe_ix ix_tup (pv 0) pe_int (fun _ _ => rfl)) pa_nil)))) pss_nil)
      (pss_cons (ps_set (i := 1) scUnks.nd rfl (.inr rfl) (pe_call G hr (by rfl) g F.kp b .nil pass0 (pa_cons (pe_ix ix_tup (pv 0) pe_int (fun _ _ => rfl)) pa_nil)))
      (pss_one (ps_ret (pe_op op_cat (pv 1)
        (pe_lc (own := [("_law_number_here", 2)]) (g := gName 2) rfl scUnks.nd (pi_list (pe_call G hr (by rfl) g F.kp b .nil pass0 (pa_cons (pe_ix ix_tup (pv 0) pe_int (fun _ _ => rfl)) pa_nil)))
          (blkOk_by (own := [("_law_number_here", 2)]) (N := nUnks) (sc := defScope sUnks) (by decide +kernel))
          (fun _ _ _ _ _ => pg_name (i := 2) scUnks.nd rfl (Or.inl rfl)) (fun _ _ _ _ _ => pts_one (pt_cmpR (r := rIn K true) op_notIn_seq (pv 2) (pv 1) (by rfl))) (fun _ _ _ _ _ => pv 2))))))), ?_⟩
    refine ⟨x, rfl, x, .ty "tuple", _, _, _, rfl, .ty _, hx.tyx, kit_ty t.isTup, _, rfl, ?_⟩
    cases hx with
    | int i => exact iteT (iteT ⟨Nat.zero_le _, fun p np => q _ p (same_upd np) np upd_same⟩)
    | wrd z => exact iteT (iteT ⟨Nat.zero_le _, fun p np => q _ p (same_upd np) np upd_same⟩)
    | @nil a h0 =>
      refine iteF ⟨.ref a, rfl, Nat.zero_le _, fun p np => ⟨.tuple [], .tuple [], .tup (.inl (.inl (same_upd np _ _ h0))) .nil, .tup (.inl (.inl upd_same)) .nil, shp0, shp0, _, rfl, ?_⟩⟩
      rw [eqv00]
      exact iteT ⟨Nat.zero_le _, fun p2 np2 => q _ p2 ((same_upd np).trans (same_upd np2)) ((same_upd np).free np2) upd_same⟩
    | @unk a n h0 =>
      have h1 := Tm.shp (t := .unk n) ho (show 1 ≤ 64 by decide)
      refine iteF ⟨.ref a, rfl, Nat.zero_le _, fun p np => ⟨_, .tuple [], ((IsTm.unk h0).keep (sameTup (same_upd np))).dp, .tup (.inl (.inl upd_same)) .nil, h1, shp0, _, rfl, ?_⟩⟩
      have h2 := same_upd (o := .tup []) np _ _ h0
      have s2 : Same H (upd H p (.tup [])) := same_upd np
      rw [show PyData.eqv (Tm.unk n).data (.tuple []) = false from eqv20 _ _]
      generalize upd H p (.tup []) = H2 at *
      refine iteF ?_
      refine ⟨.ref a, rfl, a, _, 0, .str "?", rfl, rfl, .inl (.inl h2), atI_nat (j := 0) rfl, .str "?", .str "?", .str _, .str _, shp_q, shp_q, _, rfl, ?_⟩
      rw [eqv_qq]
      refine iteT ⟨.ref a, rfl, a, _, 1, .int n, rfl, rfl, .inl (.inl h2), atI_nat (j := 1) rfl, (by show 1 ≤ sizeLine; decide), fun p2 np2 => ?_⟩
      exact q _ p2 (s2.trans (same_upd np2)) (s2.free np2) upd_same
    | @pair a y z u v h0 hy hz' =>
      have hdp : (Tm.pair u v).depth = max u.depth v.depth + 1 := rfl
      have hsp : (Tm.pair u v).size = u.size + v.size + 1 := rfl
      have h1 := Tm.shp (t := .pair u v) ho (by omega)
      refine iteF ⟨.ref a, rfl, Nat.zero_le _, fun p np => ⟨_, .tuple [], ((IsTm.pair h0 hy hz').keep (sameTup (same_upd np))).dp, .tup (.inl (.inl upd_same)) .nil, h1, shp0, _, rfl, ?_⟩⟩
      have h2 := same_upd (o := .tup []) np _ _ h0
      have s2 : Same H (upd H p (.tup [])) := same_upd np
      have hy2 := hy.keep (sameTup s2)
      have hz2 := hz'.keep (sameTup s2)
      rw [show PyData.eqv (Tm.pair u v).data (.tuple []) = false from eqv20 _ _]
      generalize upd H p (.tup []) = H2 at *
      refine iteF ?_
      refine ⟨.ref a, rfl, a, _, 0, y, rfl, rfl, .inl (.inl h2), atI_nat (j := 0) rfl, _, .str "?", hy2.dp, .str _, Tm.shp ho.1 (by omega), shp_q, _, rfl, ?_⟩
      rw [Tm.noq ho.1]
      refine iteF ?_
      cases n with
      | zero => exact absurd hd (by omega)
      | succ m =>
        refine ⟨.ref a, rfl, a, _, 0, y, rfl, rfl, .inl (.inl h2), atI_nat (j := 0) rfl, y, u, rfl, hy2, ho.1, by omega, by omega, by omega, fun H3 l1 s3 nl1 hl1 => ?_⟩
        have h3 := s3 _ _ h2
        refine ⟨.ref l1, rfl, .ref a, rfl, a, _, 1, z, rfl, rfl, .inl (.inl h3), atI_nat (j := 1) rfl, z, v, rfl, hz2.keep (sameTup s3), ho.2, by omega, by omega, by omega, fun H4 l2 s4 nl2 hl2 => ?_⟩
        have hl1' := s4 _ _ hl1
        refine ⟨l2, rfl, ⟨_, .inl (.inl hl2)⟩, fun D nD => ?_⟩
        have lu := dd_len u
        have lv := dd_len v
        refine lc_list (K := K) (a := l2) (xs := v.dd.map V.int) (fun i H' => Same H4 H' ∧ H' D = some (.lst ((out u.dd (v.dd.take i)).map V.int))) ⟨same_upd nD, upd_same⟩ (fun i H' _ h => .inl (.inl (h.1 _ _ hl2))) (fun i x H5 hxi h => ?_) (fun H5 h => ?_)
        · obtain ⟨s5, e5⟩ := h
          obtain ⟨n, hn1, rfl⟩ : ∃ n, v.dd[i]? = some n ∧ x = .int n := by
            rw [List.getElem?_map] at hxi
            cases e : v.dd[i]? with
            | none =>
              rw [e] at hxi
              cases hxi
            | some n =>
              rw [e] at hxi
              exact ⟨n, rfl, (Option.some.inj hxi).symm⟩
          refine ⟨rfl, _, rfl, .ref l1, rfl, l1, _, rfl, .inl (.inl (.inl (s5 _ _ hl1'))), rfl, flatInts _, _, rfl, ?_⟩
          rw [inInts]
          by_cases hm : n ∈ u.dd
          · rw [decide_eq_true hm]
            refine iteF ⟨s5, ?_⟩
            rw [out_take hn1, if_pos hm]
            exact e5
          · rw [decide_eq_false hm]
            refine iteT ⟨_, rfl, _, e5, ?_, ?_, ?_⟩
            · rw [List.length_map]
              have o1 : (out u.dd (v.dd.take i)).length ≤ (v.dd.take i).length := List.length_filter_le ..
              have o2 : (v.dd.take i).length ≤ v.dd.length := by
                rw [List.length_take]
                omega
              exact Nat.lt_of_le_of_lt (show _ ≤ 100000 by omega) (by decide)
            · intro b' o e
              by_cases hb : b' = D
              · rw [hb, nD] at e
                cases e
              · rw [upd_ne hb]
                exact s5 _ _ e
            · rw [upd_same, out_take hn1, if_neg hm, List.map_append]
              rfl
        · obtain ⟨s5, e5⟩ := h
          rw [List.length_map, List.take_length] at e5
          have o1 : (out u.dd v.dd).length ≤ v.dd.length := List.length_filter_le ..
          refine ⟨l1, D, _, _, rfl, rfl, s5 _ _ hl1', e5, ?_, fun p3 np3 => ?_⟩
          · rw [List.length_map, List.length_map]
            exact Nat.le_trans (show _ ≤ 200000 by omega) (by decide)
          · have s6 := s2.trans (s3.trans (s4.trans s5))
            refine q _ p3 (s6.trans (same_upd np3)) (s6.free np3) ?_
            rw [upd_same, ← List.map_append]
            rfl
theorem ok_unks {f : Addr} {fd : FuncData} {k : Nat} (F : Fun K "_law_unknowns" "_law_unknowns" sUnks f fd) (mi : mg "isinstance" = none) (mt : mg "tuple" = none) (b : Binds K fd ["_law_term_here"] [])
    (g : mg "_law_unknowns" = some (.ref f)) : ∀ n, FnOk P w K mg base CX0 (k + 1 + n) f fd ["_law_term_here"] (spUnks n)
  | 0 => ok_unks1 (n := 0) F mi mt ⟨fun _ _ _ _ h => h.elim, fun _ _ _ _ _ _ _ _ _ _ _ _ _ h => h.elim⟩ b g
  | n + 1 => ok_unks1 (n := n + 1) F mi mt (by
      have h := ok_unks F mi mt b g (k := k) n
      rw [show k + (n + 1) = k + 1 + n by omega]
      exact h) b g
end
end Ksec
set_option Elab.async false
set_option linter.all false
set_option maxRecDepth 100000
set_option maxHeartbeats 4000000
namespace Ksec
open PySem PySem.Spec PyProof.Rows L2
/-! the mathematics of renaming -/
def Tm.ren (f : Int → Int) : Tm → Tm
  | .unk n => .unk (f n)
  | .pair a b => .pair (a.ren f) (b.ren f)
  | t => t
def Tm.heads : Tm → List Tm
  | .pair a b => a :: b.heads
  | _ => []
def Tm.last : Tm → Tm
  | .pair _ b => b.last
  | t => t
def rejoin (hs : List Tm) (e : Tm) : Tm := hs.foldr .pair e
theorem ren_join (f : Int → Int) : ∀ t : Tm, t.ren f = rejoin (t.heads.map (Tm.ren f)) (t.last.ren f)
  | .int _ => rfl
  | .wrd _ => rfl
  | .nil => rfl
  | .unk _ => rfl
  | .pair a b => by
    show Tm.pair (a.ren f) (b.ren f) = .pair (a.ren f) (rejoin (b.heads.map (Tm.ren f)) (b.last.ren f))
    rw [← ren_join f b]
theorem heads_fine : ∀ {t : Tm} {n : Nat}, t.ok → t.depth ≤ n + 1 → ∀ u ∈ t.heads, u.ok ∧ u.depth ≤ n
  | .int _, _, _, _, u, h => absurd h List.not_mem_nil
  | .wrd _, _, _, _, u, h => absurd h List.not_mem_nil
  | .nil, _, _, _, u, h => absurd h List.not_mem_nil
  | .unk _, _, _, _, u, h => absurd h List.not_mem_nil
  | .pair a b, n, ho, hd, u, h => by
    have e : (Tm.pair a b).depth = max a.depth b.depth + 1 := rfl
    rcases List.mem_cons.mp h with rfl | h
    · exact ⟨ho.1, by omega⟩
    · exact heads_fine ho.2 (by omega) u h
theorem heads_uks : ∀ {t u : Tm}, u ∈ t.heads → ∀ n ∈ u.uks, n ∈ t.uks
  | .int _, u, h => absurd h List.not_mem_nil
  | .wrd _, u, h => absurd h List.not_mem_nil
  | .nil, u, h => absurd h List.not_mem_nil
  | .unk _, u, h => absurd h List.not_mem_nil
  | .pair a b, u, h => by
    intro n hn
    rcases List.mem_cons.mp h with rfl | h
    · exact List.mem_append_left _ hn
    · exact List.mem_append_right _ (heads_uks h n hn)
theorem last_uks : ∀ {t : Tm}, ∀ n ∈ t.last.uks, n ∈ t.uks
  | .int _, n, h => h
  | .wrd _, n, h => h
  | .nil, n, h => h
  | .unk _, n, h => h
  | .pair a b, n, h => List.mem_append_right _ (last_uks (t := b) n h)
theorem last_fine : ∀ {t : Tm}, t.ok → t.last.ok ∧ t.last.depth = 1
  | .int _, h => ⟨h, rfl⟩
  | .wrd _, h => ⟨h, rfl⟩
  | .nil, h => ⟨h, rfl⟩
  | .unk _, h => ⟨h, rfl⟩
  | .pair _ b, h => last_fine (t := b) h.2
theorem heads_len : ∀ t : Tm, t.heads.length ≤ t.size
  | .int _ => Nat.zero_le _
  | .wrd _ => Nat.zero_le _
  | .nil => Nat.zero_le _
  | .unk _ => Nat.zero_le _
  | .pair a b => by
    have := heads_len b
    show b.heads.length + 1 ≤ a.size + b.size + 1
    omega
theorem ren_size (f : Int → Int) : ∀ t : Tm, (t.ren f).size = t.size
  | .int _ => rfl
  | .wrd _ => rfl
  | .nil => rfl
  | .unk _ => rfl
  | .pair a b => by
    show (a.ren f).size + (b.ren f).size + 1 = _
    rw [ren_size f a, ren_size f b]
    rfl
theorem ren_depth (f : Int → Int) : ∀ t : Tm, (t.ren f).depth = t.depth
  | .int _ => rfl
  | .wrd _ => rfl
  | .nil => rfl
  | .unk _ => rfl
  | .pair a b => by
    show max (a.ren f).depth (b.ren f).depth + 1 = _
    rw [ren_depth f a, ren_depth f b]
    rfl
theorem ren_ok (f : Int → Int) : ∀ {t : Tm}, t.ok → (∀ n ∈ t.uks, 0 ≤ f n ∧ f n ≤ 999999) → (t.ren f).ok
  | .int _, h, _ => h
  | .wrd _, h, _ => h
  | .nil, h, _ => h
  | .unk n, h, g => g n (List.mem_cons_self ..)
  | .pair a b, h, g => ⟨ren_ok f h.1 fun n hn => g n (List.mem_append_left _ hn), ren_ok f h.2 fun n hn => g n (List.mem_append_right _ hn)⟩
theorem ren_uks (f : Int → Int) : ∀ t : Tm, (t.ren f).uks = t.uks.map f
  | .int _ => rfl
  | .wrd _ => rfl
  | .nil => rfl
  | .unk _ => rfl
  | .pair a b => by
    show (a.ren f).uks ++ (b.ren f).uks = (a.uks ++ b.uks).map f
    rw [ren_uks f a, ren_uks f b, List.map_append]
theorem ren_congr {f g : Int → Int} : ∀ {t : Tm}, (∀ n ∈ t.uks, f n = g n) → t.ren f = t.ren g
  | .int _, _ => rfl
  | .wrd _, _ => rfl
  | .nil, _ => rfl
  | .unk n, h => congrArg Tm.unk (h n (List.mem_cons_self ..))
  | .pair a b, h => by
    show Tm.pair (a.ren f) (b.ren f) = .pair (a.ren g) (b.ren g)
    rw [ren_congr (t := a) fun n hn => h n (List.mem_append_left _ hn), ren_congr (t := b) fun n hn => h n (List.mem_append_right _ hn)]
theorem ren_ren (f g : Int → Int) : ∀ t : Tm, (t.ren f).ren g = t.ren fun n => g (f n)
  | .int _ => rfl
  | .wrd _ => rfl
  | .nil => rfl
  | .unk _ => rfl
  | .pair a b => by
    show Tm.pair ((a.ren f).ren g) ((b.ren f).ren g) = _
    rw [ren_ren f g a, ren_ren f g b]
    rfl
theorem ren_self {f : Int → Int} : ∀ {t : Tm}, (∀ n ∈ t.uks, f n = n) → t.ren f = t
  | .int _, _ => rfl
  | .wrd _, _ => rfl
  | .nil, _ => rfl
  | .unk n, h => congrArg Tm.unk (h n (List.mem_cons_self ..))
  | .pair a b, h => by
    show Tm.pair (a.ren f) (b.ren f) = _
    rw [ren_self (t := a) fun n hn => h n (List.mem_append_left _ hn), ren_self (t := b) fun n hn => h n (List.mem_append_right _ hn)]
/-- the place of a number in a list -/
def idx (ns : List Int) (n : Int) : Int := (ns.idxOf n : Nat)
theorem mem_addN {acc : List Int} {n m : Int} : m ∈ addN acc n ↔ m ∈ acc ∨ m = n := by
  unfold addN
  split
  · rename_i h
    exact ⟨.inl, fun z => z.elim id fun e => e ▸ h⟩
  · simp
theorem nodup_addN {acc : List Int} {n : Int} (h : acc.Nodup) : (addN acc n).Nodup := by
  unfold addN
  split
  · exact h
  · rename_i hn
    rw [List.nodup_append]
    exact ⟨h, by simp, fun a ha b hb => by
      rw [List.mem_singleton.mp hb]
      intro e
      exact hn (e ▸ ha)⟩
theorem nodup_addAll : ∀ (ns acc : List Int), acc.Nodup → (addAll acc ns).Nodup
  | [], acc, h => h
  | n :: r, acc, h => nodup_addAll r (addN acc n) (nodup_addN h)
theorem mem_addAll : ∀ (ns acc : List Int) (m : Int), m ∈ addAll acc ns ↔ m ∈ acc ∨ m ∈ ns
  | [], acc, m => by simp [addAll]
  | n :: r, acc, m => by
    show m ∈ addAll (addN acc n) r ↔ _
    rw [mem_addAll r, mem_addN, List.mem_cons]
    constructor
    · rintro ((h | h) | h)
      · exact .inl h
      · exact .inr (.inl h)
      · exact .inr (.inr h)
    · rintro (h | h | h)
      · exact .inl (.inl h)
      · exact .inl (.inr h)
      · exact .inr h
theorem uniq_nodup (ts : List Tm) : (uniq ts).Nodup := nodup_addAll _ _ List.nodup_nil
theorem mem_uniq {ts : List Tm} {m : Int} : m ∈ uniq ts ↔ m ∈ flat ts := by
  unfold uniq
  rw [mem_addAll]
  simp
theorem mem_flat : ∀ {ts : List Tm} {t : Tm} {m : Int}, t ∈ ts → m ∈ t.uks → m ∈ flat ts
  | u :: r, t, m, h, hm => by
    rcases List.mem_cons.mp h with rfl | h
    · exact List.mem_append_left _ hm
    · exact List.mem_append_right _ (mem_flat h hm)
theorem flat_uks : ∀ {ts : List Tm} {m : Int}, m ∈ flat ts → ∃ t ∈ ts, m ∈ t.uks
  | [], m, h => absurd h List.not_mem_nil
  | u :: r, m, h => by
    rcases List.mem_append.mp h with h | h
    · exact ⟨u, List.mem_cons_self .., h⟩
    · obtain ⟨t, ht, hm⟩ := flat_uks h
      exact ⟨t, List.mem_cons_of_mem _ ht, hm⟩
/-- renamed terms -/
def rnm (ts : List Tm) : List Tm := ts.map (Tm.ren (idx (uniq ts)))
theorem idx_lt {ns : List Int} {n : Int} (h : n ∈ ns) : 0 ≤ idx ns n ∧ idx ns n < ns.length := by
  have := List.idxOf_lt_length_iff.mpr h
  unfold idx
  omega
end Ksec
set_option Elab.async false
set_option linter.all false
set_option maxRecDepth 100000
set_option maxHeartbeats 4000000
namespace Ksec
open PySem PySem.Spec PyProof.Rows L2
theorem flat_ren (f : Int → Int) : ∀ ts : List Tm, flat (ts.map (Tm.ren f)) = (flat ts).map f
  | [] => rfl
  | t :: r => by
    show (t.ren f).uks ++ flat (r.map (Tm.ren f)) = (t.uks ++ flat r).map f
    rw [ren_uks, flat_ren f r, List.map_append]
theorem addN_map {f : Int → Int} {acc : List Int} {n : Int} (h : ∀ a ∈ acc, f a = f n → a = n) : addN (acc.map f) (f n) = (addN acc n).map f := by
  unfold addN
  by_cases e : n ∈ acc
  · rw [if_pos e, if_pos (List.mem_map_of_mem e)]
  · rw [if_neg e, if_neg ?_, List.map_append]
    · rfl
    · intro z
      obtain ⟨a, ha, hf⟩ := List.mem_map.mp z
      exact e (h a ha hf ▸ ha)
theorem addAll_map {f : Int → Int} : ∀ (ns acc : List Int), (∀ a b, (a ∈ acc ∨ a ∈ ns) → (b ∈ acc ∨ b ∈ ns) → f a = f b → a = b) → addAll (acc.map f) (ns.map f) = (addAll acc ns).map f
  | [], acc, _ => rfl
  | n :: r, acc, h => by
    show addAll (addN (acc.map f) (f n)) (r.map f) = (addAll (addN acc n) r).map f
    rw [addN_map fun a ha => h a n (.inl ha) (.inr (List.mem_cons_self ..))]
    refine addAll_map r (addN acc n) fun a b ha hb => h a b ?_ ?_
    · rcases ha with z | z
      · exact (mem_addN.mp z).elim .inl fun e => .inr (e ▸ List.mem_cons_self ..)
      · exact .inr (List.mem_cons_of_mem _ z)
    · rcases hb with z | z
      · exact (mem_addN.mp z).elim .inl fun e => .inr (e ▸ List.mem_cons_self ..)
      · exact .inr (List.mem_cons_of_mem _ z)
theorem idx_map {f : Int → Int} : ∀ {ns : List Int} {n : Int}, (∀ a ∈ ns, f a = f n → a = n) → idx (ns.map f) (f n) = idx ns n
  | [], n, _ => rfl
  | m :: r, n, h => by
    have ih := idx_map (ns := r) (n := n) fun a ha => h a (List.mem_cons_of_mem _ ha)
    unfold idx at ih ⊢
    rw [List.map_cons, List.idxOf_cons, List.idxOf_cons]
    by_cases e : m = n
    · subst e
      simp
    · have e2 : f m ≠ f n := fun z => e (h m (List.mem_cons_self ..) z)
      rw [beq_eq_false_iff_ne.mpr e, beq_eq_false_iff_ne.mpr e2]
      simp only [cond_false]
      omega
theorem rnm_ren {f : Int → Int} {ts : List Tm} (h : ∀ a b, a ∈ flat ts → b ∈ flat ts → f a = f b → a = b) : rnm (ts.map (Tm.ren f)) = rnm ts := by
  have e : uniq (ts.map (Tm.ren f)) = (uniq ts).map f := by
    unfold uniq
    rw [flat_ren]
    refine addAll_map (flat ts) [] fun a b ha hb => h a b ?_ ?_
    · exact ha.elim (fun z => absurd z List.not_mem_nil) id
    · exact hb.elim (fun z => absurd z List.not_mem_nil) id
  unfold rnm
  rw [e, List.map_map]
  apply List.map_congr_left
  intro t ht
  show (t.ren f).ren _ = _
  rw [ren_ren]
  refine ren_congr fun n hn => ?_
  refine idx_map fun a ha hf => h a n (mem_uniq.mp ha) (mem_flat ht hn) hf
theorem idx_inj : ∀ {ns : List Int} {a b : Int}, a ∈ ns → b ∈ ns → idx ns a = idx ns b → a = b
  | m :: r, a, b, ha, hb, h => by
    unfold idx at h
    rw [List.idxOf_cons, List.idxOf_cons] at h
    by_cases e1 : m = a
    · by_cases e2 : m = b
      · exact e1.symm.trans e2
      · subst e1
        rw [beq_eq_false_iff_ne.mpr e2] at h
        simp at h
        omega
    · by_cases e2 : m = b
      · subst e2
        rw [beq_eq_false_iff_ne.mpr e1] at h
        simp at h
        omega
      · rw [beq_eq_false_iff_ne.mpr e1, beq_eq_false_iff_ne.mpr e2] at h
        simp only [cond_false] at h
        have ha' := (List.mem_cons.mp ha).resolve_left fun z => e1 z.symm
        have hb' := (List.mem_cons.mp hb).resolve_left fun z => e2 z.symm
        refine idx_inj ha' hb' ?_
        unfold idx
        omega
theorem rnm_rnm (ts : List Tm) : rnm (rnm ts) = rnm ts := rnm_ren fun _ _ ha hb h => idx_inj (mem_uniq.mpr ha) (mem_uniq.mpr hb) h
/-! a table of numbers -/
def tab (N : List Int) (g : Int → Int) : List (Key × V) := N.map fun n => (Sum.inl n, V.int (g n))
theorem tab_val (g : Int → Int) (n : Int) : ∀ N : List Int, valV (tab N g) (Sum.inl n) = if n ∈ N then some (.int (g n)) else none
  | [] => rfl
  | m :: r => by
    show valV ((Sum.inl m, V.int (g m)) :: tab r g) (Sum.inl n) = _
    by_cases e : m = n
    · subst e
      rw [valV_pos rfl, if_pos (List.mem_cons_self ..)]
    · rw [valV_neg (fun z => e (Sum.inl.inj z)), tab_val g n r]
      by_cases h : n ∈ r
      · rw [if_pos h, if_pos (List.mem_cons_of_mem _ h)]
      · rw [if_neg h, if_neg (fun z => (List.mem_cons.mp z).elim (fun z => e z.symm) h)]
theorem tab_congr {N : List Int} {f g : Int → Int} (h : ∀ n ∈ N, f n = g n) : tab N f = tab N g := by
  unfold tab
  apply List.map_congr_left
  intro n hn
  rw [h n hn]
theorem idx_app {N M : List Int} {n : Int} (h : n ∈ N) : idx (N ++ M) n = idx N n := by
  unfold idx
  rw [List.idxOf_append, if_pos h]
theorem idx_new {N : List Int} {n : Int} (h : n ∉ N) : idx (N ++ [n]) n = N.length := by
  unfold idx
  rw [List.idxOf_append, if_neg h]
  simp
theorem nodup_take {N : List Int} {i : Nat} {n : Int} (h : N.Nodup) (e : N[i]? = some n) : n ∉ N.take i ∧ idx N n = i := by
  obtain ⟨hi, e'⟩ := List.getElem?_eq_some_iff.mp e
  have h1 : N.take i ++ n :: N.drop (i + 1) = N := by
    rw [← e', List.getElem_cons_drop, List.take_append_drop]
  have h2 : n ∉ N.take i := fun z => by
    rw [← h1, List.nodup_append] at h
    exact h.2.2 n z n (List.mem_cons_self ..) rfl
  refine ⟨h2, ?_⟩
  unfold idx
  have h3 : N.idxOf n = (N.take i ++ n :: N.drop (i + 1)).idxOf n := by rw [h1]
  rw [h3, List.idxOf_append, if_neg h2]
  simp
  omega
end Ksec
set_option Elab.async false
set_option linter.all false
set_option maxRecDepth 100000
set_option maxHeartbeats 4000000
namespace Ksec
open PySem PySem.Spec PyProof.Rows L2
abbrev sRenamed : Stmt := topS 5
abbrev sNum : Stmt := topS 6
abbrev sParted : Stmt := topS 7
abbrev sJoined : Stmt := topS 8
abbrev nRenamed : List Str := ["terms", "numbers", "new", "old", "term"]
abbrev nNum : List Str := ["term", "numbers", "heads", "end", "head"]
theorem scRenamed : FnScope nRenamed ["terms"] (defScope sRenamed) := ⟨rfl, rfl, rfl, by decide +kernel, rfl, by decide +kernel, by decide +kernel⟩
theorem scNum : FnScope nNum ["term", "numbers"] (defScope sNum) := ⟨rfl, rfl, rfl, by decide +kernel, rfl, by decide +kernel, by decide +kernel⟩
theorem scParted : FnScope ["term", "heads", "end"] ["term"] (defScope sParted) := ⟨rfl, rfl, rfl, by decide +kernel, rfl, by decide +kernel, by decide +kernel⟩
theorem scJoined : FnScope ["heads", "end", "term", "head"] ["heads", "end"] (defScope sJoined) := ⟨rfl, rfl, rfl, by decide +kernel, rfl, by decide +kernel, by decide +kernel⟩
theorem are_app {H : Hp} : ∀ {xs ys : List V} {ts us : List Tm}, AreTm H xs ts → AreTm H ys us → AreTm H (xs ++ ys) (ts ++ us)
  | _, _, _, _, .nil, h => h
  | _, _, _, _, .cons h t, r => .cons h (are_app t r)
theorem are_get {H : Hp} : ∀ {xs : List V} {ts : List Tm} {i : Nat} {x : V}, AreTm H xs ts → xs[i]? = some x → ∃ t, ts[i]? = some t ∧ IsTm H x t
  | _, _, i, _, .nil, e => by simp at e
  | _, _, 0, _, .cons h _, e => ⟨_, rfl, (Option.some.inj e) ▸ h⟩
  | _, _, i + 1, _, .cons _ t, e => are_get (i := i) t e
section
variable {P : Program} {w : World} {K : PySem.W.Frag} {mg : Str → Option Value} {base : Heap}
def spParted : Sp := fun vs H Q _ => ∃ (x : V) (t : Tm), vs = [x] ∧ IsTm H x t ∧ Fine t ∧ t.size ≤ 100000 ∧ ∀ H' p l xs y, Same H H' → H' p = some (.tup [.ref l, y]) → H' l = some (.lst xs) → AreTm H' xs t.heads → IsTm H' y t.last → Q (.ref p) H'
theorem ok_parted {f fP : Addr} {fd fdP : FuncData} {k : Nat} (F : Fun K "parted" "parted" sParted f fd) (GP : FnOk P w K mg base CX0 (k + 1) fP fdP ["thing"] spIsPair) (bP : Binds K fdP ["thing"] []) (gP : mg "is_pair" = some (.ref fP)) (kP : PySem.W.keepIn K (.ref fP) = true) :
    FnOk P w K mg base CX0 (k + 2) f fd ["term"] spParted := by
  refine F.ok scParted (fun vs H Q E h => ?_) (fun cdv A outer s H vs Q E hr h => ?_)
  · obtain ⟨x, t, rfl, _⟩ := h
    rfl
  · obtain ⟨x, t, rfl, hx, hf, hz, q⟩ := h
    refine ⟨_, pss_cons (ps_set (i := 1) scParted.nd rfl (.inl rfl) (pe_lst pa_nil)) (pss_cons (ps_set (i := 2) scParted.nd rfl (.inl rfl) (pv 0))
      (pss_cons (ps_while PassesOwn.never (pt_val (pe_call GP hr (by rfl) gP kP bP .nil pass0 (pa_cons (pv 2) pa_nil)))
        (pss_cons (ps_expr (pe_bm PySem.F.plainAttrs_list PySem.F.slot_list_append PySem.F.type_list_append mt_append (pv 1) (pa_cons (pe_ix ix_tup (pv 2) pe_int (fun _ _ => rfl)) pa_nil)))
          (pss_one (ps_set (i := 2) scParted.nd rfl (.inl rfl) (pe_ix ix_tup (pv 2) pe_int (fun _ _ => rfl))))))
      (pss_one (ps_ret (pe_tup (pa_cons (pv 1) (pa_cons (pv 2) pa_nil))))))), ?_⟩
    refine ⟨Nat.zero_le _, fun l nl => ⟨x, rfl, ?_⟩⟩
    have s1 : Same H (upd H l (.lst [])) := same_upd nl
    refine ⟨fun m σ H' => ∃ (y : V) (xs : List V) (u : Tm) (hs : List Tm), σ = [some x, some (.ref l), some y] ∧ m = u.size ∧ hs.length + u.size ≤ 100000 ∧ Fine u ∧ IsTm H' y u ∧ H' l = some (.lst xs) ∧ AreTm H' xs hs ∧ t.heads = hs ++ u.heads ∧ t.last = u.last ∧ Same H H',
      ⟨t.size, x, [], t, [], rfl, rfl, by simpa using hz, hf, hx.keep (sameTup s1), upd_same, .nil, rfl, rfl, s1⟩, fun m σ H' hW => ?_⟩
    obtain ⟨y, xs, u, hs, rfl, rfl, hm, hfu, hy, hl, hA, eh, el, sm⟩ := hW
    refine ⟨y, rfl, y, u, rfl, hy, hfu.1, hfu.2, _, rfl, ?_⟩
    have nopair : u.isPair = false → u.heads = [] ∧ u.last = u := fun h => by
      cases u with
      | pair a b => cases h
      | int i => exact ⟨rfl, rfl⟩
      | wrd i => exact ⟨rfl, rfl⟩
      | nil => exact ⟨rfl, rfl⟩
      | unk i => exact ⟨rfl, rfl⟩
    cases hb : u.isPair with
    | false =>
      obtain ⟨n1, n2⟩ := nopair hb
      refine iteF ⟨.ref l, rfl, y, rfl, (by show 2 ≤ sizeLine; decide), fun p np => ?_⟩
      have s2 : Same H' (upd H' p (.tup [.ref l, y])) := same_upd np
      refine q _ p l xs y (sm.trans s2) upd_same (s2 _ _ hl) ?_ ?_
      · rw [eh, n1, List.append_nil]
        exact areKeep (sameTup s2) hA
      · rw [el, n2]
        exact hy.keep (sameTup s2)
    | true =>
      cases hy with
      | int i => cases hb
      | wrd i => cases hb
      | nil _ => cases hb
      | unk _ => cases hb
      | @pair b x1 x2 u1 u2 h0 h1 h2 =>
        have hsz : (Tm.pair u1 u2).size = u1.size + u2.size + 1 := rfl
        have hdp : (Tm.pair u1 u2).depth = max u1.depth u2.depth + 1 := rfl
        have hfd := hfu.2
        have hxl : xs.length = hs.length := Paired.length hA
        have hbl : b ≠ l := ne_of h0 hl (by intro z; cases z)
        refine iteT ⟨fun σ' H'' => ∃ m', m' < (Tm.pair u1 u2).size ∧ ∃ (y : V) (xs : List V) (u : Tm) (hs : List Tm), σ' = [some x, some (.ref l), some y] ∧ m' = u.size ∧ hs.length + u.size ≤ 100000 ∧ Fine u ∧ IsTm H'' y u ∧ H'' l = some (.lst xs) ∧ AreTm H'' xs hs ∧ t.heads = hs ++ u.heads ∧ t.last = u.last ∧ Same H H'', fun σ' H'' h => h, ?_⟩
        refine ⟨.ref l, rfl, .inl ⟨rfl, _, .inl (.inl hl)⟩, .ref b, rfl, b, _, 0, x1, rfl, rfl, .inl (.inl h0), atI_nat (j := 0) rfl, l, _, x1, rfl, rfl, hl, ?_, ?_⟩
        · exact Nat.lt_of_le_of_lt (show xs.length ≤ 100000 by omega) (by decide)
        have tu : Tup H' (upd H' l (.lst (xs ++ [x1]))) := tup_upd hl fun _ => by intro z; cases z
        refine ⟨.ref b, rfl, b, _, 1, x2, rfl, rfl, .inl (.inl (tu _ _ h0)), atI_nat (j := 1) rfl, ?_⟩
        refine ⟨u2.size, by omega, x2, xs ++ [x1], u2, hs ++ [u1], rfl, rfl, ?_, ⟨hfu.1.2, by omega⟩, h2.keep tu, upd_same, are_app (areKeep tu hA) (.cons (h1.keep tu) .nil), ?_, el, fun b' o e => ?_⟩
        · rw [List.length_append]
          show hs.length + 1 + u2.size ≤ 100000
          omega
        · rw [eh, List.append_assoc]
          rfl
        · rw [upd_ne (ne_of_none e nl)]
          exact sm b' o e
def spJoined (K : PySem.W.Frag) : Sp := fun vs H Q _ => ∃ (l : Addr) (xs : List V) (y : V) (hs : List Tm) (e : Tm), vs = [.ref l, y] ∧ SqL K H l xs ∧ AreTm H xs hs ∧ IsTm H y e ∧ ∀ H' z, Same H H' → IsTm H' z (rejoin hs e) → Q z H'
theorem ok_joined {f : Addr} {fd : FuncData} {k : Nat} (F : Fun K "joined" "joined" sJoined f fd) (mr : mg "reversed" = none) : FnOk P w K mg base CX0 (k + 1) f fd ["heads", "end"] (spJoined K) := by
  refine F.ok scJoined (fun vs H Q E h => ?_) (fun cdv A outer s H vs Q E hr h => ?_)
  · obtain ⟨l, xs, y, hs, e, rfl, _⟩ := h
    rfl
  · obtain ⟨l, xs, y, hs, e, rfl, hS, hA, hy, q⟩ := h
    refine ⟨_, pss_cons (ps_set (i := 2) scJoined.nd rfl (.inl rfl) (pv 1)) (pss_cons (ps_for PassesOwn.never rfl (pi_reversed (by rfl) mr (pa_cons (pv 0) pa_nil)) (pg_name (i := 3) scJoined.nd rfl (Or.inl rfl))
      (pss_one (ps_set (i := 2) scJoined.nd rfl (.inl rfl) (pe_tup (pa_cons (pv 3) (pa_cons (pv 2) pa_nil)))))) (pss_one (ps_ret (pv 2)))), ?_⟩
    refine ⟨y, rfl, .ref l, rfl, l, xs, rfl, hS, ?_⟩
    have hl : xs.length = hs.length := Paired.length hA
    refine RT.for_Itv (K := K) (a := l) (xs := xs) (fun i σ H' => ∃ (z : V) (y3 : Option V), σ = [some (.ref l), some y, some z, y3] ∧ Same H H' ∧ IsTm H' z (rejoin (hs.drop (hs.length - i)) e)) ?_ (fun i σ H' h => ?_) (fun i x σ H' hi hx h => ?_) (fun σ H' h => ?_)
    · refine ⟨y, none, rfl, Same.refl _, ?_⟩
      rw [Nat.sub_zero, List.drop_length]
      exact hy
    · obtain ⟨_, _, _, sm, _⟩ := h
      exact sm.seq hS
    · obtain ⟨z, y3, rfl, sm, hz⟩ := h
      obtain ⟨u, hu, hxu⟩ := are_get hA hx
      refine ⟨x, rfl, z, rfl, (by show 2 ≤ sizeLine; decide), fun p np => ?_⟩
      have s2 : Same H' (upd H' p (.tup [x, z])) := same_upd np
      refine ⟨_, _, rfl, sm.trans s2, ?_⟩
      have e1 : hs.drop (hs.length - (i + 1)) = u :: hs.drop (hs.length - i) := by
        obtain ⟨hj, hu'⟩ := List.getElem?_eq_some_iff.mp hu
        rw [show hs.length - (i + 1) = xs.length - 1 - i by omega, ← List.getElem_cons_drop hj, hu', show xs.length - 1 - i + 1 = hs.length - i by omega]
      rw [e1]
      exact .pair upd_same (hxu.keep (sameTup (sm.trans s2))) (hz.keep (sameTup s2))
    · obtain ⟨z, y3, rfl, sm, hz⟩ := h
      rw [hl, Nat.sub_self, List.drop_zero] at hz
      exact ⟨z, rfl, q H' z sm hz⟩
end
end Ksec
set_option Elab.async false
set_option linter.all false
set_option maxRecDepth 100000
set_option maxHeartbeats 4000000
namespace Ksec
open PySem PySem.Spec PyProof.Rows L2
abbrev psNum : List Str := ["term", "numbers"]
section
variable {P : Program} {w : World} {K : PySem.W.Frag} {mg : Str → Option Value} {base : Heap}
def spNum (n : Nat) : Sp := fun vs H Q _ => ∃ (x : V) (t : Tm) (dd : Addr) (kvs : List (Key × V)) (f : Int → Int), vs = [x, .ref dd] ∧ IsTm H x t ∧ t.ok ∧ t.depth ≤ n ∧ n ≤ 64 ∧ t.size ≤ 100000 ∧ H dd = some (.dK kvs) ∧ (∀ m ∈ t.uks, valV kvs (Sum.inl m) = some (.int (f m))) ∧
  ∀ H' y, Same H H' → IsTm H' y (t.ren f) → Q y H'
def spNumP : Nat → Sp
  | 0 => fun _ _ _ _ => False
  | n + 1 => spNum n
theorem heads_size : ∀ {t u : Tm}, u ∈ t.heads → u.size ≤ t.size
  | .int _, u, h => absurd h List.not_mem_nil
  | .wrd _, u, h => absurd h List.not_mem_nil
  | .nil, u, h => absurd h List.not_mem_nil
  | .unk _, u, h => absurd h List.not_mem_nil
  | .pair a b, u, h => by
    have e : (Tm.pair a b).size = a.size + b.size + 1 := rfl
    rcases List.mem_cons.mp h with rfl | h
    · omega
    · have := heads_size h
      omega
theorem heads_depth1 : ∀ {t : Tm}, t.depth ≤ 1 → t.heads = []
  | .int _, _ => rfl
  | .wrd _, _ => rfl
  | .nil, _ => rfl
  | .unk _, _ => rfl
  | .pair a b, h => by
    have e : (Tm.pair a b).depth = max a.depth b.depth + 1 := rfl
    have : 1 ≤ a.depth := by cases a <;> simp only [Tm.depth] <;> omega
    omega
theorem depth_pos (t : Tm) : 1 ≤ t.depth := by cases t <;> simp only [Tm.depth] <;> omega
theorem ok_num1 {f fT fU fJ : Addr} {fd fdT fdU fdJ : FuncData} {k n : Nat} (F : Fun K "with_numbers" "with_numbers" sNum f fd) (GT : FnOk P w K mg base CX0 (k + 2) fT fdT ["term"] spParted) (bT : Binds K fdT ["term"] []) (gT : mg "parted" = some (.ref fT)) (kT : PySem.W.keepIn K (.ref fT) = true)
    (GU : FnOk P w K mg base CX0 (k + 2) fU fdU ["thing"] spIsUnk) (bU : Binds K fdU ["thing"] []) (gU : mg "is_unknown" = some (.ref fU)) (kU : PySem.W.keepIn K (.ref fU) = true)
    (GJ : FnOk P w K mg base CX0 (k + 2) fJ fdJ ["heads", "end"] (spJoined K)) (bJ : Binds K fdJ ["heads", "end"] []) (gJ : mg "joined" = some (.ref fJ)) (kJ : PySem.W.keepIn K (.ref fJ) = true)
    (G : FnOk P w K mg base CX0 (k + 2 + n) f fd psNum (spNumP n)) (b : Binds K fd psNum []) (g : mg "with_numbers" = some (.ref f)) : FnOk P w K mg base CX0 (k + 3 + n) f fd psNum (spNum n) := by
  rw [show k + 3 + n = k + 2 + n + 1 by omega]
  refine F.ok scNum (fun vs H Q E h => ?_) (fun cdv A outer s H vs Q E hr h => ?_)
  · obtain ⟨x, t, dd, kvs, f, rfl, _⟩ := h
    rfl
  · obtain ⟨x, t, dd, kvs, fn, rfl, hx, ho, hd, hn, hz, hdd, hv, q⟩ := h
    have hr2 := hr.mono (show k + 2 ≤ k + 2 + n by omega)
    refine ⟨_, pss_cons (ps_asg (pe_call GT hr2 (by rfl) gT kT bT .nil pass0 (pa_cons (pv 0) pa_nil)) (pg_tup (by rfl) (pgs_cons (pg_name (i := 2) scNum.nd rfl (.inl rfl)) (pgs_cons (pg_name (i := 3) scNum.nd rfl (.inl rfl)) pgs_nil))))
      (pss_cons (ps_if (pt_val (pe_call GU hr2 (by rfl) gU kU bU .nil pass0 (pa_cons (pv 3) pa_nil)))
        (pss_one (ps_set (i := 3) scNum.nd rfl (.inl rfl) (pe_tup (pa_cons pe_str (pa_cons (pe_dget (hu_of hr) (pv 1) (pe_ix ix_tup (pv 3) pe_int (fun _ _ => rfl)) (fun _ _ => rfl)) pa_nil))))) pss_nil)
      (pss_one (ps_ret (pe_call GJ hr2 (by rfl) gJ kJ bJ .nil pass0 (pa_cons
        (pe_lc (own := [("head", 4)]) (g := gName 4) (tt := tYes) rfl scNum.nd (pi_list (pv 2)) (blkOk_by (own := [("head", 4)]) (N := nNum) (sc := defScope sNum) (by decide +kernel))
          (fun _ _ _ _ _ => pg_name (i := 4) scNum.nd rfl (Or.inl rfl)) (fun _ _ _ _ _ => pts_nil) (fun _ _ _ _ _ => pe_call G hr (by rfl) g F.kp b .nil pass0 (pa_cons (pv 4) (pa_cons (pv 1) pa_nil))))
        (pa_cons (pv 3) pa_nil)))))), ?_⟩
    refine ⟨x, rfl, x, t, rfl, hx, ⟨ho, by omega⟩, by omega, fun H1 p l xs y s1 hp hl hA hy => ?_⟩
    refine ⟨p, _, rfl, .inl (.inl hp), rfl, .ref l, [y], rfl, y, [], rfl, rfl, ?_⟩
    obtain ⟨lo, ld⟩ := last_fine ho
    have hdd1 := s1 _ _ hdd
    refine ⟨y, rfl, y, t.last, rfl, hy, lo, by omega, _, rfl, ?_⟩
    have leaf : t.last.isUnk = false → t.last.ren fn = t.last := fun h => by
      have h1 := ld
      cases e : t.last with
      | unk n =>
        rw [e] at h
        cases h
      | int i => rfl
      | wrd i => rfl
      | nil => rfl
      | pair a b =>
        rw [e] at h1
        have h2 : (Tm.pair a b).depth = max a.depth b.depth + 1 := rfl
        have := depth_pos a
        omega
    cases hu : t.last.isUnk with
    | false =>
      refine iteF ?_
      obtain ⟨H2, z, s2, hz2⟩ : ∃ H2 z, Same H1 H2 ∧ IsTm H2 z (t.last.ren fn) ∧ H2 = H1 ∧ z = y := ⟨H1, y, Same.refl _, by rw [leaf hu]; exact hy, rfl, rfl⟩
      obtain ⟨hz2, rfl, rfl⟩ := hz2
      refine ⟨.ref l, rfl, l, rfl, ⟨_, .inl (.inl (s2 _ _ hl))⟩, fun D nD => ?_⟩
      refine lc_list (K := K) (a := l) (xs := xs) (fun i H' => ∃ ys, Same H2 H' ∧ H' D = some (.lst ys) ∧ AreTm H' ys ((t.heads.take i).map (Tm.ren fn))) ⟨[], same_upd nD, upd_same, .nil⟩ (fun i H' _ h => ?_) (fun i x2 H' hx2 h => ?_) (fun H' h => ?_)
      · obtain ⟨ys, sm, _⟩ := h
        exact .inl (.inl (sm _ _ (s2 _ _ hl)))
      · obtain ⟨ys, sm, hD, hys⟩ := h
        obtain ⟨u, hu, hxu⟩ := are_get hA hx2
        have hmem := List.mem_of_getElem? hu
        have hyl : ys.length = ((t.heads.take i).map (Tm.ren fn)).length := Paired.length hys
        have hhl := heads_len t
        cases n with
        | zero =>
          have := depth_pos t
          omega
        | succ m =>
          obtain ⟨uo, ud⟩ := heads_fine ho hd u hmem
          have us := heads_size hmem
          refine ⟨rfl, yes ?_⟩
          refine ⟨x2, rfl, .ref dd, rfl, x2, u, dd, kvs, fn, rfl, hxu.keep (sameTup (s2.trans sm)), uo, ud, by omega, by omega, sm _ _ (s2 _ _ hdd1), fun m' hm' => hv m' (heads_uks hmem m' hm'), fun H3 y3 s3 hy3 => ?_⟩
          refine ⟨ys, s3 _ _ hD, ?_, ys ++ [y3], ?_, upd_same, ?_⟩
          · rw [hyl, List.length_map, List.length_take]
            exact Nat.lt_of_le_of_lt (show min i t.heads.length ≤ 100000 by omega) (by decide)
          · intro b' o e
            by_cases hb : b' = D
            · rw [hb, nD] at e
              cases e
            · rw [upd_ne hb]
              exact s3 _ _ (sm _ _ e)
          · have tu : Tup H3 (upd H3 D (.lst (ys ++ [y3]))) := tup_upd (s3 _ _ hD) fun _ => by intro z; cases z
            rw [List.take_add_one, hu, List.map_append]
            exact are_app (areKeep (fun a b c => tu a b (s3 _ _ c)) hys) (.cons (hy3.keep tu) .nil)
      · obtain ⟨ys, sm, hD, hys⟩ := h
        have hxl : xs.length = t.heads.length := Paired.length hA
        rw [hxl, List.take_length] at hys
        refine ⟨z, rfl, D, ys, z, _, _, rfl, .inl (.inl hD), hys, hz2.keep (sameTup sm), fun H3 y3 s3 hy3 => ?_⟩
        rw [← ren_join] at hy3
        exact q H3 y3 (s1.trans (s2.trans (sm.trans s3))) hy3
    | true =>
      refine iteT ?_
      obtain ⟨m, em⟩ : ∃ m, t.last = .unk m := by
        cases e : t.last with
        | unk m => exact ⟨m, rfl⟩
        | int i => rw [e] at hu; cases hu
        | wrd i => rw [e] at hu; cases hu
        | nil => rw [e] at hu; cases hu
        | pair a b => rw [e] at hu; cases hu
      rw [em] at hy
      have vm := hv m (last_uks m (by rw [em]; exact List.mem_cons_self ..))
      cases hy with
      | @unk a _ h0 =>
        refine ⟨.ref dd, rfl, .ref a, rfl, a, _, 1, .int m, rfl, rfl, .inl (.inl h0), atI_nat (j := 1) rfl, dd, .int (fn m), rfl, ?_, (by show 2 ≤ sizeLine; decide), fun p2 np2 => ?_⟩
        · have := DGet.k (k := Sum.inl m) hdd1
          rw [vm] at this
          exact this
        have s2 : Same H1 (upd H1 p2 (.tup [.str "?", .int (fn m)])) := same_upd np2
        have hz2 : IsTm (upd H1 p2 (.tup [.str "?", .int (fn m)])) (.ref p2) (t.last.ren fn) := by
          rw [em]
          exact .unk upd_same
        generalize upd H1 p2 (.tup [.str "?", .int (fn m)]) = H2 at *
        generalize hzz : V.ref p2 = z at *
        refine ⟨.ref l, rfl, l, rfl, ⟨_, .inl (.inl (s2 _ _ hl))⟩, fun D nD => ?_⟩
        refine lc_list (K := K) (a := l) (xs := xs) (fun i H' => ∃ ys, Same H2 H' ∧ H' D = some (.lst ys) ∧ AreTm H' ys ((t.heads.take i).map (Tm.ren fn))) ⟨[], same_upd nD, upd_same, .nil⟩ (fun i H' _ h => ?_) (fun i x2 H' hx2 h => ?_) (fun H' h => ?_)
        · obtain ⟨ys, sm, _⟩ := h
          exact .inl (.inl (sm _ _ (s2 _ _ hl)))
        · obtain ⟨ys, sm, hD, hys⟩ := h
          obtain ⟨u, hu, hxu⟩ := are_get hA hx2
          have hmem := List.mem_of_getElem? hu
          have hyl : ys.length = ((t.heads.take i).map (Tm.ren fn)).length := Paired.length hys
          have hhl := heads_len t
          cases n with
          | zero =>
            have := depth_pos t
            omega
          | succ m =>
            obtain ⟨uo, ud⟩ := heads_fine ho hd u hmem
            have us := heads_size hmem
            refine ⟨rfl, yes ?_⟩
            refine ⟨x2, rfl, .ref dd, rfl, x2, u, dd, kvs, fn, rfl, hxu.keep (sameTup (s2.trans sm)), uo, ud, by omega, by omega, sm _ _ (s2 _ _ hdd1), fun m' hm' => hv m' (heads_uks hmem m' hm'), fun H3 y3 s3 hy3 => ?_⟩
            refine ⟨ys, s3 _ _ hD, ?_, ys ++ [y3], ?_, upd_same, ?_⟩
            · rw [hyl, List.length_map, List.length_take]
              exact Nat.lt_of_le_of_lt (show min i t.heads.length ≤ 100000 by omega) (by decide)
            · intro b' o e
              by_cases hb : b' = D
              · rw [hb, nD] at e
                cases e
              · rw [upd_ne hb]
                exact s3 _ _ (sm _ _ e)
            · have tu : Tup H3 (upd H3 D (.lst (ys ++ [y3]))) := tup_upd (s3 _ _ hD) fun _ => by intro z; cases z
              rw [List.take_add_one, hu, List.map_append]
              exact are_app (areKeep (fun a b c => tu a b (s3 _ _ c)) hys) (.cons (hy3.keep tu) .nil)
        · obtain ⟨ys, sm, hD, hys⟩ := h
          have hxl : xs.length = t.heads.length := Paired.length hA
          rw [hxl, List.take_length] at hys
          refine ⟨z, rfl, D, ys, z, _, _, rfl, .inl (.inl hD), hys, hz2.keep (sameTup sm), fun H3 y3 s3 hy3 => ?_⟩
          rw [← ren_join] at hy3
          exact q H3 y3 (s1.trans (s2.trans (sm.trans s3))) hy3
theorem ok_num {f fT fU fJ : Addr} {fd fdT fdU fdJ : FuncData} {k : Nat} (F : Fun K "with_numbers" "with_numbers" sNum f fd) (GT : FnOk P w K mg base CX0 (k + 2) fT fdT ["term"] spParted) (bT : Binds K fdT ["term"] []) (gT : mg "parted" = some (.ref fT)) (kT : PySem.W.keepIn K (.ref fT) = true)
    (GU : FnOk P w K mg base CX0 (k + 2) fU fdU ["thing"] spIsUnk) (bU : Binds K fdU ["thing"] []) (gU : mg "is_unknown" = some (.ref fU)) (kU : PySem.W.keepIn K (.ref fU) = true)
    (GJ : FnOk P w K mg base CX0 (k + 2) fJ fdJ ["heads", "end"] (spJoined K)) (bJ : Binds K fdJ ["heads", "end"] []) (gJ : mg "joined" = some (.ref fJ)) (kJ : PySem.W.keepIn K (.ref fJ) = true)
    (b : Binds K fd psNum []) (g : mg "with_numbers" = some (.ref f)) : ∀ n, FnOk P w K mg base CX0 (k + 3 + n) f fd psNum (spNum n)
  | 0 => ok_num1 (n := 0) F GT bT gT kT GU bU gU kU GJ bJ gJ kJ ⟨fun _ _ _ _ h => h.elim, fun _ _ _ _ _ _ _ _ _ _ _ _ _ h => h.elim⟩ b g
  | n + 1 => ok_num1 (n := n + 1) F GT bT gT kT GU bU gU kU GJ bJ gJ kJ (by
      have h := ok_num F GT bT gT kT GU bU gU kU GJ bJ gJ kJ b g n
      rw [show k + 2 + (n + 1) = k + 3 + n by omega]
      exact h) b g
end
end Ksec
set_option Elab.async false
set_option linter.all false
set_option maxRecDepth 100000
set_option maxHeartbeats 4000000
namespace Ksec
open PySem PySem.Spec PyProof.Rows L2
theorem sqtSame {K : PySem.W.Frag} {H H' : Hp} {a : Addr} {xs : List V} (e : Same H H') (h : SqT K H a xs) : SqT K H' a xs := by
  rcases h with (h | ⟨o, h⟩) | h
  · exact .inl (.inl (e _ _ h))
  · exact .inl (.inr ⟨o, e _ _ h⟩)
  · exact .inr h
theorem tab_put {N : List Int} {g : Int → Int} {n : Int} (h : n ∉ N) : putK (tab N g) (Sum.inl n) (.int (g n)) = tab (N ++ [n]) g := by
  rw [putK_new _ (by rw [tab_val, if_neg h])]
  unfold tab
  rw [List.map_append]
  rfl
theorem addAll_len : ∀ (ns acc : List Int), (addAll acc ns).length ≤ acc.length + ns.length
  | [], acc => Nat.le_refl _
  | n :: r, acc => by
    have h1 := addAll_len r (addN acc n)
    have h2 := addN_len acc n
    show (addAll (addN acc n) r).length ≤ acc.length + (r.length + 1)
    omega
theorem uks_len : ∀ t : Tm, t.uks.length ≤ t.size
  | .int _ => Nat.zero_le _
  | .wrd _ => Nat.zero_le _
  | .nil => Nat.zero_le _
  | .unk _ => Nat.le_refl _
  | .pair a b => by
    have h1 := uks_len a
    have h2 := uks_len b
    show (a.uks ++ b.uks).length ≤ a.size + b.size + 1
    rw [List.length_append]
    omega
theorem flat_len : ∀ ts : List Tm, (flat ts).length ≤ sizes ts
  | [] => Nat.le_refl _
  | t :: r => by
    have h1 := flat_len r
    have h2 := uks_len t
    show (t.uks ++ flat r).length ≤ t.size + sizes r
    rw [List.length_append]
    omega
theorem uniq_len (ts : List Tm) : (uniq ts).length ≤ sizes ts := by
  have h1 := addAll_len (flat ts) []
  have h2 := flat_len ts
  unfold uniq
  have : ([] : List Int).length = 0 := rfl
  omega
theorem size_mem : ∀ {ts : List Tm} {t : Tm}, t ∈ ts → t.size ≤ sizes ts
  | u :: r, t, h => by
    have e : sizes (u :: r) = u.size + sizes r := rfl
    rcases List.mem_cons.mp h with rfl | h
    · omega
    · have := size_mem h
      omega
section
variable {P : Program} {w : World} {K : PySem.W.Frag} {mg : Str → Option Value} {base : Heap}
def spRenamed (K : PySem.W.Frag) : Sp := fun vs H Q _ => ∃ (a : Addr) (xs : List V) (ts : List Tm), vs = [.ref a] ∧ SqT K H a xs ∧ AreTm H xs ts ∧ (∀ t ∈ ts, Fine t) ∧ sizes ts ≤ 100000 ∧
  ∀ H' p ys, Same H H' → H p = none → H' p = some (.tup ys) → AreTm H' ys (rnm ts) → Q (.ref p) H'
theorem ok_renamed {f fO fN : Addr} {fd fdO fdN : FuncData} {k : Nat} (F : Fun K "renamed" "renamed" sRenamed f fd) (GO : FnOk P w K mg base CX0 (k + 1) fO fdO ["terms"] (spOf K)) (bO : Binds K fdO ["terms"] []) (gO : mg "unknowns_of" = some (.ref fO)) (kO : PySem.W.keepIn K (.ref fO) = true)
    (GN : FnOk P w K mg base CX0 (k + 1) fN fdN psNum (spNum 64)) (bN : Binds K fdN psNum []) (gN : mg "with_numbers" = some (.ref fN)) (kN : PySem.W.keepIn K (.ref fN) = true) (me : mg "enumerate" = none) (mt : mg "tuple" = none) : FnOk P w K mg base CX0 (k + 2) f fd ["terms"] (spRenamed K) := by
  refine F.ok scRenamed (fun vs H Q E h => ?_) (fun cdv A outer s H vs Q E hr h => ?_)
  · obtain ⟨a, _, _, rfl, _⟩ := h
    rfl
  · obtain ⟨a, xs, ts, rfl, hS, hT, hF, hz, q⟩ := h
    refine ⟨_, pss_cons (ps_set (i := 1) scRenamed.nd rfl (.inr rfl)
        (pe_dc (own := [("new", 2), ("old", 3)]) (g := gTup K 2 (gCons (gName 2) (gCons (gName 3) gNil))) (tt := tYes) rfl scRenamed.nd (pi_enumT (by rfl) me (pa_cons (pe_call GO hr (by rfl) gO kO bO .nil pass0 (pa_cons (pv 0) pa_nil)) pa_nil)) (blkOk_by (own := [("new", 2), ("old", 3)]) (N := nRenamed) (sc := defScope sRenamed) (by decide +kernel))
          (fun _ _ _ _ _ => pg_tup rfl (pgs_cons (pg_name (i := 2) scRenamed.nd rfl (Or.inl rfl)) (pgs_cons (pg_name (i := 3) scRenamed.nd rfl (Or.inl rfl)) pgs_nil))) (fun _ _ _ _ _ => pts_nil) (fun _ _ _ _ _ => pv 3) (fun _ _ _ _ _ => pv 2)))
      (pss_one (ps_ret (pe_callTy call_tuple_of (by rfl) mt (by decide +kernel) (pa_cons
        (pe_lc (own := [("term", 4)]) (g := gName 4) (tt := tYes) rfl scRenamed.nd (pi_tup (pv 0)) (blkOk_by (own := [("term", 4)]) (N := nRenamed) (sc := defScope sRenamed) (by decide +kernel))
          (fun _ _ _ _ _ => pg_name (i := 4) scRenamed.nd rfl (Or.inl rfl)) (fun _ _ _ _ _ => pts_nil) (fun _ _ _ _ _ => pe_call GN hr (by rfl) gN kN bN .nil pass0 (pa_cons (pv 4) (pa_cons (pv 1) pa_nil)))) pa_nil)))), ?_⟩
    refine ⟨.ref a, rfl, a, xs, ts, rfl, hS, hT, hF, hz, fun H1 p s1 np hp => ?_⟩
    have hN := uniq_nodup ts
    have hL := uniq_len ts
    have hI : ∀ t ∈ ts, ∀ n ∈ t.uks, n ∈ uniq ts := fun t ht n hn => mem_uniq.mpr (mem_flat ht hn)
    refine ⟨p, _, rfl, .inl (.inl hp), fun D nD => ?_⟩
    show ∃ W : Nat → Nat → Hp → Prop, _
    refine ⟨fun i m H' => m = (uniq ts).length - i ∧ i ≤ (uniq ts).length ∧ Same H1 H' ∧ H' D = some (.dK (tab ((uniq ts).take i) (idx (uniq ts)))), ⟨_, rfl, Nat.zero_le _, same_upd nD, upd_same⟩, ?_⟩
    rintro i m H2 ⟨rfl, hi, s2, hD⟩
    by_cases hlt : i < (uniq ts).length
    · have gi : ((uniq ts).map V.int)[i]? = some (.int (uniq ts)[i]) := by
        rw [List.getElem?_map, List.getElem?_eq_getElem hlt]
        rfl
      have hp2 : SqT K H2 p ((uniq ts).map V.int) := .inl (.inl (s2 _ _ hp))
      refine .inr ⟨⟨_, _, hp2, gi⟩, fun H' => Same H1 H' ∧ H' D = some (.dK (tab ((uniq ts).take (i + 1)) (idx (uniq ts)))), fun H' h => ⟨_, by omega, rfl, hlt, h.1, h.2⟩, fun x H' hy => ?_⟩
      obtain ⟨T, x', rfl, nT, rfl, fx⟩ := hy
      have ex : x' = .int (uniq ts)[i] := Option.some.inj ((fx _ hp2).symm.trans gi)
      subst ex
      have s3 : Same H2 (upd H2 T (.tup [.int (i : Nat), .int (uniq ts)[i]])) := same_upd nT
      obtain ⟨nt, it⟩ := nodup_take hN (List.getElem?_eq_getElem hlt)
      refine ⟨T, _, rfl, .inl (.inl upd_same), rfl, _, _, rfl, _, _, rfl, rfl, rfl, yes ?_⟩
      refine ⟨_, rfl, _, rfl, tab ((uniq ts).take i) (idx (uniq ts)), Sum.inl (uniq ts)[i], rfl, s3 _ _ hD, ?_, ?_, ?_⟩
      · unfold tab
        rw [List.length_map, List.length_take]
        exact Nat.lt_of_le_of_lt (show min i (uniq ts).length ≤ 100000 by omega) (by decide)
      · intro b' o e
        by_cases hb : b' = D
        · rw [hb, nD] at e
          cases e
        · rw [upd_ne hb]
          exact s3 _ _ (s2 _ _ e)
      · rw [upd_same]
        have e3 := tab_put (g := idx (uniq ts)) nt
        rw [it] at e3
        rw [e3, List.take_add_one, List.getElem?_eq_getElem hlt]
        rfl
    · have ei : i = (uniq ts).length := by omega
      subst ei
      rw [List.take_length] at hD
      refine .inl ⟨⟨_, .inl (.inl (s2 _ _ hp)), by rw [List.length_map]⟩, ?_⟩
      have s12 := s1.trans s2
      refine ⟨.ref a, rfl, a, rfl, ⟨_, sqtSame s12 hS⟩, fun D2 nD2 => ?_⟩
      refine lc_tup (K := K) (a := a) (xs := xs) (fun i H' => ∃ ys, Same H2 H' ∧ H' D2 = some (.lst ys) ∧ AreTm H' ys ((ts.take i).map (Tm.ren (idx (uniq ts))))) ⟨[], same_upd nD2, upd_same, .nil⟩ (fun i H' _ h => ?_) (fun i x2 H' hx2 h => ?_) (fun H' h => ?_)
      · obtain ⟨ys, sm, _⟩ := h
        exact sqtSame (s12.trans sm) hS
      · obtain ⟨ys, sm, hD2, hys⟩ := h
        obtain ⟨u, hu, hxu⟩ := are_get hT hx2
        have hmem := List.mem_of_getElem? hu
        have hyl : ys.length = ((ts.take i).map (Tm.ren (idx (uniq ts)))).length := Paired.length hys
        have tl := len_sizes ts
        have us := size_mem hmem
        have hfu := hF u hmem
        refine ⟨rfl, yes ?_⟩
        refine ⟨x2, rfl, .ref D, rfl, x2, u, D, _, idx (uniq ts), rfl, hxu.keep (sameTup (s12.trans sm)), hfu.1, hfu.2, by decide, by omega, sm _ _ hD, fun m hm => ?_, fun H3 y3 s3 hy3 => ?_⟩
        · rw [tab_val, if_pos (hI u hmem m hm)]
        refine ⟨ys, s3 _ _ hD2, ?_, ys ++ [y3], ?_, upd_same, ?_⟩
        · rw [hyl, List.length_map, List.length_take]
          exact Nat.lt_of_le_of_lt (show min i ts.length ≤ 100000 by omega) (by decide)
        · intro b' o e
          by_cases hb : b' = D2
          · rw [hb, nD2] at e
            cases e
          · rw [upd_ne hb]
            exact s3 _ _ (sm _ _ e)
        · have tu : Tup H3 (upd H3 D2 (.lst (ys ++ [y3]))) := tup_upd (s3 _ _ hD2) fun _ => by intro z; cases z
          rw [List.take_add_one, hu, List.map_append]
          exact are_app (areKeep (fun a b c => tu a b (s3 _ _ c)) hys) (.cons (hy3.keep tu) .nil)
      · obtain ⟨ys, sm, hD2, hys⟩ := h
        have hxl : xs.length = ts.length := Paired.length hT
        rw [hxl, List.take_length] at hys
        refine ⟨D2, ys, rfl, .inl ⟨.inl (.inl hD2), fun p2 np2 => ?_⟩⟩
        have s5 : Same H' (upd H' p2 (.tup ys)) := same_upd np2
        exact q _ p2 ys (s12.trans (sm.trans s5)) (s12.free (sm.free np2)) upd_same (areKeep (sameTup s5) hys)
end
end Ksec
set_option Elab.async false
set_option linter.all false
set_option maxRecDepth 100000
set_option maxHeartbeats 4000000
namespace Ksec
open PySem PySem.Spec PyProof.Rows L2
abbrev sNumd : Stmt := topS 18
abbrev sDue : Stmt := topS 19
abbrev nDue : List Str := ["_law_terms", "_law_numbers", "_law_term_here", "_law_number_here"]
theorem scNumd : FnScope ["_law_term_here", "_law_numbers"] ["_law_term_here", "_law_numbers"] (defScope sNumd) := ⟨rfl, rfl, rfl, by decide +kernel, rfl, by decide +kernel, by decide +kernel⟩
theorem scDue : FnScope nDue ["_law_terms"] (defScope sDue) := ⟨rfl, rfl, rfl, by decide +kernel, rfl, by decide +kernel, by decide +kernel⟩
abbrev psNumd : List Str := ["_law_term_here", "_law_numbers"]
theorem dd_nodup : ∀ t : Tm, t.dd.Nodup
  | .int _ => List.nodup_nil
  | .wrd _ => List.nodup_nil
  | .nil => List.nodup_nil
  | .unk _ => by show [_].Nodup; simp
  | .pair a b => by
    show (a.dd ++ out a.dd b.dd).Nodup
    rw [List.nodup_append]
    refine ⟨dd_nodup a, (dd_nodup b).filter _, fun x hx y hy e => ?_⟩
    subst e
    exact (of_decide_eq_true (List.mem_filter.mp hy).2) hx
theorem addAll_nodup : ∀ (ns acc : List Int), ns.Nodup → addAll acc ns = acc ++ out acc ns
  | [], acc, _ => by simp [addAll, out]
  | n :: r, acc, h => by
    rw [List.nodup_cons] at h
    show addAll (addN acc n) r = _
    rw [addAll_nodup r _ h.2]
    unfold addN out
    by_cases e : n ∈ acc
    · simp [e]
    · rw [if_neg e, List.append_assoc]
      congr 1
      rw [List.filter_cons, if_pos (by simp [e])]
      show [n] ++ _ = n :: _
      rw [List.singleton_append]
      congr 1
      apply List.filter_congr
      intro m hm
      have : m ≠ n := fun z => h.1 (z ▸ hm)
      simp [this]
theorem addAll_uks (t : Tm) (acc : List Int) : addAll acc t.dd = addAll acc t.uks := by rw [addAll_nodup _ _ (dd_nodup t), addAll_dd]
theorem addAll_take {acc ns : List Int} {i : Nat} {n : Int} (h : ns[i]? = some n) : addAll acc (ns.take (i + 1)) = addN (addAll acc (ns.take i)) n := by
  rw [List.take_add_one, h, addAll_append]
  rfl
theorem tab_addN {N : List Int} (n : Int) (h : n ∉ N) : putK (tab N (idx N)) (Sum.inl n) (.int N.length) = tab (N ++ [n]) (idx (N ++ [n])) := by
  have e1 : tab N (idx N) = tab N (idx (N ++ [n])) := tab_congr fun m hm => (idx_app hm).symm
  have e2 : (N.length : Int) = idx (N ++ [n]) n := (idx_new h).symm
  rw [e1, e2]
  exact tab_put h
theorem tab_len (N : List Int) (g : Int → Int) : (tab N g).length = N.length := List.length_map ..
section
variable {P : Program} {w : World} {K : PySem.W.Frag} {mg : Str → Option Value} {base : Heap}
theorem ok_numd1 {f : Addr} {fd : FuncData} {k n : Nat} (F : Fun K "_law_numbered" "_law_numbered" sNumd f fd) (mi : mg "isinstance" = none) (mt : mg "tuple" = none) (G : FnOk P w K mg base CX0 (k + n) f fd psNumd (spNumP n)) (b : Binds K fd psNumd [])
    (g : mg "_law_numbered" = some (.ref f)) : FnOk P w K mg base CX0 (k + 1 + n) f fd psNumd (spNum n) := by
  rw [show k + 1 + n = k + n + 1 by omega]
  refine F.ok scNumd (fun vs H Q E h => ?_) (fun cdv A outer s H vs Q E hr h => ?_)
  · obtain ⟨x, t, dd, kvs, f, rfl, _⟩ := h
    rfl
  · obtain ⟨x, t, dd, kvs, fn, rfl, hx, ho, hd, hn, hz, hdd, hv, q⟩ := h
    refine ⟨_, pss_cons (ps_if (PW.pt (pw_or (pt_not (pt_val (pe_callB call_isi (by rfl) mi (by decide +kernel) (pa_cons (pv 0) (pa_cons (pe_bltn (v := .ty "tuple") (by rfl) mt (by decide +kernel) rfl) pa_nil)))))
        (pw_or1 (pt_cmpR (op_eqD hr.units) (pv 0) (pe_tup pa_nil) (nomark _))))) (pss_one (ps_ret (pv 0))) pss_nil)
      (pss_cons (ps_if (pt_cmpR (op_eqD hr.units) (pe_ix ix_tup (pv 0) pe_int (fun _ _ => rfl)) pe_str (nomark _))
        (pss_one (ps_ret (pe_tup (pa_cons pe_str (pa_cons (pe_dget (hu_of hr) (pv 1) (pe_ix ix_tup (pv 0) pe_int (fun _ _ => rfl)) (fun _ _ => rfl)) pa_nil))))) pss_nil)
      (pss_one (ps_ret (pe_tup (pa_cons (pe_call G hr (by rfl) g F.kp b .nil pass0 (pa_cons (pe_ix ix_tup (pv 0) pe_int (fun _ _ => rfl)) (pa_cons (pv 1) pa_nil)))
        (pa_cons (pe_call G hr (by rfl) g F.kp b .nil pass0 (pa_cons (pe_ix ix_tup (pv 0) pe_int (fun _ _ => rfl)) (pa_cons (pv 1) pa_nil))) pa_nil)))))), ?_⟩
    refine ⟨x, rfl, x, .ty "tuple", _, _, _, rfl, .ty _, hx.tyx, kit_ty t.isTup, _, rfl, ?_⟩
    cases hx with
    | int i => exact iteT (iteT ⟨_, rfl, q H _ (Same.refl H) (.int i)⟩)
    | wrd z => exact iteT (iteT ⟨_, rfl, q H _ (Same.refl H) (.wrd z)⟩)
    | @nil a h0 =>
      refine iteF ⟨.ref a, rfl, Nat.zero_le _, fun p np => ⟨.tuple [], .tuple [], .tup (.inl (.inl (same_upd np _ _ h0))) .nil, .tup (.inl (.inl upd_same)) .nil, shp0, shp0, _, rfl, ?_⟩⟩
      rw [eqv00]
      exact iteT ⟨_, rfl, q _ _ (same_upd np) (.nil (same_upd np _ _ h0))⟩
    | @unk a n h0 =>
      have h1 := Tm.shp (t := .unk n) ho (show 1 ≤ 64 by decide)
      refine iteF ⟨.ref a, rfl, Nat.zero_le _, fun p np => ⟨_, .tuple [], ((IsTm.unk h0).keep (sameTup (same_upd np))).dp, .tup (.inl (.inl upd_same)) .nil, h1, shp0, _, rfl, ?_⟩⟩
      have h2 := same_upd (o := .tup []) np _ _ h0
      have s2 : Same H (upd H p (.tup [])) := same_upd np
      rw [show PyData.eqv (Tm.unk n).data (.tuple []) = false from eqv20 _ _]
      generalize upd H p (.tup []) = H2 at *
      refine iteF ?_
      refine ⟨.ref a, rfl, a, _, 0, .str "?", rfl, rfl, .inl (.inl h2), atI_nat (j := 0) rfl, .str "?", .str "?", .str _, .str _, shp_q, shp_q, _, rfl, ?_⟩
      rw [eqv_qq]
      have vm := hv n (List.mem_cons_self ..)
      have dg := DGet.k (k := Sum.inl n) (s2 _ _ hdd)
      rw [vm] at dg
      refine iteT ⟨.ref dd, rfl, .ref a, rfl, a, _, 1, .int n, rfl, rfl, .inl (.inl h2), atI_nat (j := 1) rfl, dd, .int (fn n), rfl, dg, (by show 2 ≤ sizeLine; decide), fun p2 np2 => ?_⟩
      exact q _ _ (s2.trans (same_upd np2)) (.unk upd_same)
    | @pair a y y2 u v h0 hy hz' =>
      have hdp : (Tm.pair u v).depth = max u.depth v.depth + 1 := rfl
      have hsp : (Tm.pair u v).size = u.size + v.size + 1 := rfl
      have h1 := Tm.shp (t := .pair u v) ho (by omega)
      refine iteF ⟨.ref a, rfl, Nat.zero_le _, fun p np => ⟨_, .tuple [], ((IsTm.pair h0 hy hz').keep (sameTup (same_upd np))).dp, .tup (.inl (.inl upd_same)) .nil, h1, shp0, _, rfl, ?_⟩⟩
      have h2 := same_upd (o := .tup []) np _ _ h0
      have s2 : Same H (upd H p (.tup [])) := same_upd np
      have hy2 := hy.keep (sameTup s2)
      have hz2 := hz'.keep (sameTup s2)
      rw [show PyData.eqv (Tm.pair u v).data (.tuple []) = false from eqv20 _ _]
      generalize upd H p (.tup []) = H2 at *
      refine iteF ?_
      refine ⟨.ref a, rfl, a, _, 0, y, rfl, rfl, .inl (.inl h2), atI_nat (j := 0) rfl, _, .str "?", hy2.dp, .str _, Tm.shp ho.1 (by omega), shp_q, _, rfl, ?_⟩
      rw [Tm.noq ho.1]
      refine iteF ?_
      cases n with
      | zero => exact absurd hd (by omega)
      | succ n =>
        refine ⟨.ref a, rfl, a, _, 0, y, rfl, rfl, .inl (.inl h2), atI_nat (j := 0) rfl, .ref dd, rfl, y, u, dd, kvs, fn, rfl, hy2, ho.1, by omega, by omega, by omega, s2 _ _ hdd, fun m hm => hv m (List.mem_append_left _ hm), fun H3 x3 s3 hx3 => ?_⟩
        refine ⟨.ref a, rfl, a, _, 1, y2, rfl, rfl, .inl (.inl (s3 _ _ h2)), atI_nat (j := 1) rfl, .ref dd, rfl, y2, v, dd, kvs, fn, rfl, hz2.keep (sameTup s3), ho.2, by omega, by omega, by omega, s3 _ _ (s2 _ _ hdd), fun m hm => hv m (List.mem_append_right _ hm), fun H4 x4 s4 hx4 => ?_⟩
        refine ⟨(by show 2 ≤ sizeLine; decide), fun p3 np3 => ?_⟩
        have s5 : Same H4 (upd H4 p3 (.tup [x3, x4])) := same_upd np3
        exact q _ _ (s2.trans (s3.trans (s4.trans s5))) (.pair upd_same (hx3.keep (sameTup (s4.trans s5))) (hx4.keep (sameTup s5)))
theorem ok_numd {f : Addr} {fd : FuncData} {k : Nat} (F : Fun K "_law_numbered" "_law_numbered" sNumd f fd) (mi : mg "isinstance" = none) (mt : mg "tuple" = none) (b : Binds K fd psNumd [])
    (g : mg "_law_numbered" = some (.ref f)) : ∀ n, FnOk P w K mg base CX0 (k + 1 + n) f fd psNumd (spNum n)
  | 0 => ok_numd1 (n := 0) F mi mt ⟨fun _ _ _ _ h => h.elim, fun _ _ _ _ _ _ _ _ _ _ _ _ _ h => h.elim⟩ b g
  | n + 1 => ok_numd1 (n := n + 1) F mi mt (by
      have h := ok_numd F mi mt b g (k := k) n
      rw [show k + (n + 1) = k + 1 + n by omega]
      exact h) b g
def spDue (K : PySem.W.Frag) : Sp := fun vs H Q _ => ∃ (a : Addr) (xs : List V) (ts : List Tm), vs = [.ref a] ∧ SqT K H a xs ∧ AreTm H xs ts ∧ (∀ t ∈ ts, t.ok ∧ t.depth ≤ 62) ∧ sizes ts ≤ 100000 ∧
  ∀ H' p ys, Same H H' → H p = none → H' p = some (.tup ys) → AreTm H' ys (rnm ts) → Q (.ref p) H'
theorem flat_take {ts : List Tm} {i : Nat} {t : Tm} (h : ts[i]? = some t) : flat (ts.take (i + 1)) = flat (ts.take i) ++ t.uks := by
  have fa : ∀ as bs : List Tm, flat (as ++ bs) = flat as ++ flat bs := fun as bs => by
    induction as with
    | nil => rfl
    | cons a r ih =>
      show a.uks ++ flat (r ++ bs) = a.uks ++ flat r ++ flat bs
      rw [ih, List.append_assoc]
  rw [List.take_add_one, h, fa]
  show _ ++ (t.uks ++ []) = _
  rw [List.append_nil]
theorem ok_due {f fU fN : Addr} {fd fdU fdN : FuncData} {k : Nat} (F : Fun K "_law_due" "_law_due" sDue f fd) (GU : FnOk P w K mg base CX0 (k + 1) fU fdU ["_law_term_here"] (spUnks 62)) (bU : Binds K fdU ["_law_term_here"] []) (gU : mg "_law_unknowns" = some (.ref fU)) (kU : PySem.W.keepIn K (.ref fU) = true)
    (GN : FnOk P w K mg base CX0 (k + 1) fN fdN psNumd (spNum 64)) (bN : Binds K fdN psNumd []) (gN : mg "_law_numbered" = some (.ref fN)) (kN : PySem.W.keepIn K (.ref fN) = true) (ml : mg "len" = none) (mt : mg "tuple" = none) :
    FnOk P w K mg base CX0 (k + 2) f fd ["_law_terms"] (spDue K) := by
  refine F.ok scDue (fun vs H Q E h => ?_) (fun cdv A outer s H vs Q E hr h => ?_)
  · obtain ⟨a, _, _, rfl, _⟩ := h
    rfl
  · obtain ⟨a, xs, ts, rfl, hS, hT, hF, hz, q⟩ := h
    refine ⟨_, pss_cons (ps_set (i := 1) scDue.nd rfl (.inr rfl) pe_dnewK)
      (pss_cons (ps_for PassesOwn.never rfl (pi_tup (pv 0)) (pg_name (i := 2) scDue.nd rfl (Or.inl rfl))
        (pss_one (ps_for PassesOwn.never rfl (pi_list (pe_call GU hr (by rfl) gU kU bU .nil pass0 (pa_cons (pv 2) pa_nil))) (pg_name (i := 3) scDue.nd rfl (Or.inl rfl))
          (pss_one (ps_expr (pe_dsetd (pv 1) (pv 3) (pe_callB call_lenD (by rfl) ml PySem.boot_len (pa_cons (pv 1) pa_nil)) ⟨rfl, rfl, rfl, rfl⟩))))))
      (pss_one (ps_ret (pe_callTy call_tuple_of (by rfl) mt (by decide +kernel) (pa_cons
        (pe_lc (own := [("_law_term_here", 2)]) (g := gName 2) (tt := tYes) rfl scDue.nd (pi_tup (pv 0)) (blkOk_by (own := [("_law_term_here", 2)]) (N := nDue) (sc := defScope sDue) (by decide +kernel))
          (fun _ _ _ _ _ => pg_name (i := 2) scDue.nd rfl (Or.inl rfl)) (fun _ _ _ _ _ => pts_nil) (fun _ _ _ _ _ => pe_call GN hr (by rfl) gN kN bN .nil pass0 (pa_cons (pv 2) (pa_cons (pv 1) pa_nil)))) pa_nil))))), ?_⟩
    intro D nD
    have s1 : Same H (upd H D (.dK [])) := same_upd nD
    have hxl : xs.length = ts.length := Paired.length hT
    have tl := len_sizes ts
    have fl := flat_len ts
    refine ⟨.ref a, rfl, a, rfl, ⟨_, sqtSame s1 hS⟩, ?_⟩
    refine for_tup (K := K) (a := a) (xs := xs) (fun i σ H' => ∃ (y2 y3 : Option V), σ = [some (.ref a), some (.ref D), y2, y3] ∧ Same H H' ∧ H' D = some (.dK (tab (addAll [] (flat (ts.take i))) (idx (addAll [] (flat (ts.take i))))))) ⟨none, none, rfl, s1, upd_same⟩ (fun i σ H' _ h => ?_) (fun i x σ H' hx h => ?_) (fun σ H' h => ?_)
    · obtain ⟨_, _, _, sm, _⟩ := h
      exact sqtSame sm hS
    · obtain ⟨y2, y3, rfl, sm, hD⟩ := h
      obtain ⟨t, ht, hxt⟩ := are_get hT hx
      have hmem := List.mem_of_getElem? ht
      obtain ⟨to, td⟩ := hF t hmem
      have tsz := size_mem hmem
      refine ⟨x, rfl, x, t, rfl, hxt.keep (sameTup sm), to, td, by decide, by omega, fun H2 l s2 nl hl => ?_⟩
      refine ⟨l, rfl, ⟨_, .inl (.inl hl)⟩, ?_⟩
      refine for_list (K := K) (a := l) (xs := t.dd.map V.int) (fun j σ H' => ∃ (y3 : Option V), σ = [some (.ref a), some (.ref D), some x, y3] ∧ Same H H' ∧ H' l = some (.lst (t.dd.map V.int)) ∧ H' D = some (.dK (tab (addAll (addAll [] (flat (ts.take i))) (t.dd.take j)) (idx (addAll (addAll [] (flat (ts.take i))) (t.dd.take j)))))) ⟨_, rfl, sm.trans s2, hl, s2 _ _ hD⟩ (fun j σ H' _ h => ?_) (fun j v σ H' hv h => ?_) (fun σ H' h => ?_)
      · obtain ⟨_, _, _, h2, _⟩ := h
        exact .inl (.inl h2)
      · obtain ⟨y3, rfl, sm3, hl3, hD3⟩ := h
        obtain ⟨n, hn, rfl⟩ : ∃ n, t.dd[j]? = some n ∧ v = .int n := by
          rw [List.getElem?_map] at hv
          cases e : t.dd[j]? with
          | none =>
            rw [e] at hv
            cases hv
          | some n =>
            rw [e] at hv
            exact ⟨n, rfl, (Option.some.inj hv).symm⟩
        have l1 := addAll_len (flat (ts.take i)) []
        have l2 := addAll_len (t.dd.take j) (addAll [] (flat (ts.take i)))
        have l3 := dd_len t
        have l4 : (t.dd.take j).length ≤ t.dd.length := by
          rw [List.length_take]
          omega
        have l5 : (flat (ts.take i)).length ≤ (flat ts).length := by
          have h1 := flat_len (ts.take i)
          have e : flat ts = flat (ts.take i) ++ flat (ts.drop i) := by
            have fa : ∀ as bs : List Tm, flat (as ++ bs) = flat as ++ flat bs := fun as bs => by
              induction as with
              | nil => rfl
              | cons a r ih =>
                show a.uks ++ flat (r ++ bs) = a.uks ++ flat r ++ flat bs
                rw [ih, List.append_assoc]
            rw [← fa, List.take_append_drop]
          rw [e, List.length_append]
          omega
        have l6 : ([] : List Int).length = 0 := rfl
        have hne : l ≠ D := ne_of hl3 hD3 (by intro z; cases z)
        have step := addAll_take (acc := addAll [] (flat (ts.take i))) hn
        rw [step]
        generalize addAll (addAll [] (flat (ts.take i))) (t.dd.take j) = M at *
        refine ⟨.ref D, rfl, D, rfl, .inl ⟨_, .inl hD3⟩, .int n, rfl, .ref D, rfl, D, _, rfl, hD3, _, Sum.inl n, hD3, rfl, ?_, fun v' hv' => ?_, fun hnone => ?_⟩
        · rw [tab_len]
          exact Nat.lt_of_le_of_lt (show M.length ≤ 200000 by omega) (by decide)
        · have hin : n ∈ M := by
            rw [tab_val] at hv'
            by_cases e : n ∈ M
            · exact e
            · rw [if_neg e] at hv'
              cases hv'
          refine ⟨_, rfl, sm3, hl3, ?_⟩
          have ea : addN M n = M := by
            unfold addN
            rw [if_pos hin]
          rw [ea]
          exact hD3
        · have hnin : n ∉ M := fun e => by
            rw [tab_val, if_pos e] at hnone
            cases hnone
          refine ⟨_, rfl, fun b' o e => ?_, ?_, ?_⟩
          · rw [upd_ne (ne_of_none e nD)]
            exact sm3 b' o e
          · rw [upd_ne hne]
            exact hl3
          · have ea : addN M n = M ++ [n] := by
              unfold addN
              rw [if_neg hnin]
            rw [upd_same, tab_len, ea, tab_addN n hnin]
      · obtain ⟨y3, rfl, sm3, hl3, hD3⟩ := h
        refine ⟨_, _, rfl, sm3, ?_⟩
        rw [List.length_map, List.take_length, addAll_uks, ← addAll_append, ← flat_take ht] at hD3
        exact hD3
    · obtain ⟨y2, y3, rfl, sm, hD⟩ := h
      rw [hxl, List.take_length] at hD
      have hD' : H' D = some (.dK (tab (uniq ts) (idx (uniq ts)))) := hD
      have hI : ∀ t ∈ ts, ∀ n ∈ t.uks, n ∈ uniq ts := fun t ht n hn => mem_uniq.mpr (mem_flat ht hn)
      refine ⟨.ref a, rfl, a, rfl, ⟨_, sqtSame sm hS⟩, fun D2 nD2 => ?_⟩
      refine lc_tup (K := K) (a := a) (xs := xs) (fun i H'' => ∃ ys, Same H' H'' ∧ H'' D2 = some (.lst ys) ∧ AreTm H'' ys ((ts.take i).map (Tm.ren (idx (uniq ts))))) ⟨[], same_upd nD2, upd_same, .nil⟩ (fun i H'' _ h => ?_) (fun i x2 H'' hx2 h => ?_) (fun H'' h => ?_)
      · obtain ⟨ys, sm2, _⟩ := h
        exact sqtSame (sm.trans sm2) hS
      · obtain ⟨ys, sm2, hD2, hys⟩ := h
        obtain ⟨u, hu, hxu⟩ := are_get hT hx2
        have hmem := List.mem_of_getElem? hu
        have hyl : ys.length = ((ts.take i).map (Tm.ren (idx (uniq ts)))).length := Paired.length hys
        have us := size_mem hmem
        obtain ⟨uo, ud⟩ := hF u hmem
        refine ⟨rfl, yes ?_⟩
        refine ⟨x2, rfl, .ref D, rfl, x2, u, D, _, idx (uniq ts), rfl, hxu.keep (sameTup (sm.trans sm2)), uo, by omega, by decide, by omega, sm2 _ _ hD', fun m hm => ?_, fun H3 y3 s3 hy3 => ?_⟩
        · rw [tab_val, if_pos (hI u hmem m hm)]
        refine ⟨ys, s3 _ _ hD2, ?_, ys ++ [y3], ?_, upd_same, ?_⟩
        · rw [hyl, List.length_map, List.length_take]
          exact Nat.lt_of_le_of_lt (show min i ts.length ≤ 100000 by omega) (by decide)
        · intro b' o e
          by_cases hb : b' = D2
          · rw [hb, nD2] at e
            cases e
          · rw [upd_ne hb]
            exact s3 _ _ (sm2 _ _ e)
        · have tu : Tup H3 (upd H3 D2 (.lst (ys ++ [y3]))) := tup_upd (s3 _ _ hD2) fun _ => by intro z; cases z
          rw [List.take_add_one, hu, List.map_append]
          exact are_app (areKeep (fun a b c => tu a b (s3 _ _ c)) hys) (.cons (hy3.keep tu) .nil)
      · obtain ⟨ys, sm2, hD2, hys⟩ := h
        rw [hxl, List.take_length] at hys
        refine ⟨D2, ys, rfl, .inl ⟨.inl (.inl hD2), fun p2 np2 => ?_⟩⟩
        have s5 : Same H'' (upd H'' p2 (.tup ys)) := same_upd np2
        exact q _ p2 ys (sm.trans (sm2.trans s5)) (sm.free (sm2.free np2)) upd_same (areKeep (sameTup s5) hys)
end
end Ksec
set_option Elab.async false
set_option linter.all false
set_option maxRecDepth 100000
set_option maxHeartbeats 4000000
namespace Ksec
open PySem PySem.Spec PyProof.Rows L2
/-! defs that are called where no repr is under way -/
structure GOk (P : Program) (w : World) (K : PySem.W.Frag) (mg : Str → Option Value) (base : Heap) (k : Nat) (f : Addr) (fd : FuncData) (ps : List Str) (sp : Sp) : Prop where
  len : ∀ vs H Q E, sp vs H Q E → vs.length = ps.length
  run : ∀ (A : Around) (outer : List Env) (s : Shared) (H : Hp) (args : Args) (us : List Value) (vs : List V) (Q : VK) (E : XK), A.guards = some [] → Room k A → Env0 P w K mg base A outer s H → BindsTo s fd args (ps.zip us) → Vals vs us → sp vs H Q E →
    codeAny (model P w) A (.call (.ref f) args) (CR CX0 outer P w H s Q E) s
theorem gok_of {P : Program} {w : World} {K : PySem.W.Frag} {mg : Str → Option Value} {base : Heap} {x qual : Str} {st : Stmt} {f : Addr} {fd : FuncData} {N ps : List Str} {k : Nat} {sp : Sp} (F : Fun K x qual st f fd) (S : FnScope N ps (defScope st))
    (len : ∀ vs H Q E, sp vs H Q E → vs.length = ps.length)
    (hbody : ∀ (cdv : Value) (A : Around) (outer : List Env) (s : Shared) (H : Hp) (vs : List V) (Q : VK) (E : XK), A.guards = some [] → Room k (A.deeper (envOfC qual (defScope st) s.heap.objs.size f cdv)) → sp vs H Q E →
      ∃ t, PSs (cxOf CX0 P w K mg base N qual (defScope st) f cdv A outer s H E).nox (defBody st) t ∧ t { nx := fun _ H' => Q .non H', rt := Q } (start N vs) H) : GOk P w K mg base (k + 1) f fd ps sp := by
  refine ⟨len, fun A outer s H args us vs Q E hg hr e0 hb r hsp => ?_⟩
  obtain ⟨oc, od, kV, doc, pm, an, cdv, ct, osl, rfl, lk, hcd⟩ := F.ex
  have hl := len _ _ _ _ hsp
  have old : ∀ b o, base.get? b = some o → s.heap.get? b = some o := fun b o e => (e0.bs b o e).1
  have kin := e0.mod.kin.keeps old
  have loc : ∀ y ∈ ps.zip us, (defScope st).names.lookup y.1 = some .local ∨ ((defScope st).names.lookup y.1 = some .cell ∧ ((cellsFrom (s.heap.objs.size + 1) (defScope st).names []).lookup y.1).isSome = true) := by
    rintro ⟨n, v⟩ hy
    cases S.par n (List.of_mem_zip hy).1 with
    | inl z => exact .inl z
    | inr z => exact .inr ⟨z, PySem.W.cellsFrom_some _ _ _ (.inl z)⟩
  refine codeAny_call_function hr.depth (kin _ _ lk) rfl S.co S.gen rfl (PySem.W.codeRec_of kin hcd) (hb _ _ _ _ (wpAny_newFunctionEnv_cells S.kind loc fun env he s1 xx => ?_))
  subst he
  refine ⟨(e0.mod.nolimit.keeps old).keeps xx.toInCall.keep, codeAny_func ?_⟩
  obtain ⟨t, ht, hq⟩ := hbody cdv A outer s H vs Q E hg (hr.deeper _) hsp
  have I := inv_start (E := E) (CX := CX0) S hr.hd e0 hl r xx
  have ends : ∀ {σ' : L2.St} {H' : Hp} {v : V} {u : Value} {s' : Shared}, Inv (cxOf CX0 P w K mg base N qual (defScope st) f cdv A outer s H E) [] σ' H' s' → RelV v u → Q v H' → CE outer P w H s Q u s' := fun J rv z => ⟨_, _, J.os, J.bare, J.base, J.hok, rv, z⟩
  refine wpAny_mono (ht.nox.run [] s1 (start N vs) H _ I hq) (fun fl s' hs => ?_) fun _ _ hs => hs
  match fl, hs with
  | .ret u, ⟨v, σ', H', J, rv, z⟩ => exact ends J rv z
  | .next, ⟨σ', H', J, z⟩ => exact ends (v := V.non) (u := Value.none) J rfl z
  | .brk, ⟨_, _, _, z⟩ => exact z.elim
  | .cont, ⟨_, _, _, z⟩ => exact z.elim
theorem pe_gcall {X : Cx} {k : Nat} {f : Addr} {fd : FuncData} {ps : List Str} {sp : Sp} {x : Str} {p pos : Pos} {e : Expr} {es : List Expr} {t : TA} (F : GOk X.prog X.w X.K X.mg X.base k f fd ps sp) (g0 : X.A.guards = some []) (hr : Room k X.A) (hg : Gl X x) (hm : X.mg x = some (.ref f))
    (hk : PySem.W.keepIn X.K (.ref f) = true) (hb : Binds X.K fd ps []) (ha : PA X (e :: es) t) (hdb : (x == ("__debug__" : Str)) = false := by decide) (he : starEach (e :: es) X.env = (false, eval e X.env) :: starEach es X.env := by rfl)
    (hpl : (backTo pos (starEach es X.env)).any (·.1) = false := by rfl) : PE X (.Call (.Name x p) (e :: es) [] pos) (tCall sp [] E0 t) := by
  constructor
  intro pins s σ H Q I h
  apply wpAny_Call_Name_kw
  apply ld_glob I hg hm (hd := hdb)
  refine PySem.W.callWith_K (h₀ := X.base) I.ok.mod.kin hk (thn (ha.run pos pins s σ H _ I h) ?_) he hpl
  rintro us s1 ⟨vs, H1, I1, r, q⟩
  refine ⟨I1.kIn, wpAny_call ?_⟩
  rw [List.append_nil] at q
  have hl : us.length = ps.length := by rw [← r.length]; exact F.len _ _ _ _ q
  have bd := hb s1 us I1.kIn (by rw [List.append_nil]; exact hl)
  rw [List.append_nil] at bd
  refine codeAny_mono (F.run X.A X.stack s1 H1 ⟨us, []⟩ us vs Q E0 g0 hr I1.env0 bd r q) fun rr s' hq => ?_
  match rr, hq with
  | .ok (.ret u), hq => exact I1.after hq
  | .ok .next, hq => exact hq.elim
  | .ok .brk, hq => exact hq.elim
  | .ok .cont, hq => exact hq.elim
  | .error e, hq => exact hq.elim
/-- repr(x) of data -/
theorem call_reprD {X : Cx} (g0 : X.A.guards = some []) (hu : X.A.units + 70 < cLine) : CallR X (.builtin "repr") (fun xs H Q => ∃ v d, xs = [v] ∧ Dp X.K H v d ∧ d.showable = true ∧ d.hasDict = false ∧ d.depth ≤ 64 ∧ d.shown.length ≤ sizeLine ∧ Q (.str d.shown) H) := by
  intro pins s σ H xs us Q I r h
  obtain ⟨v, d, rfl, hd, h1, h2, h3, h4, q⟩ := h
  obtain ⟨u, rfl, rx⟩ := vals1 r
  obtain ⟨as, rd⟩ := Dp.reads I d v u hd rx
  have ref : ∀ a, u = .ref a → wpAny (model X.prog X.w) X.A (call (.builtin "repr") [u]) (EP X pins σ Q) X.xe s := fun a ea => by
    subst ea
    exact repr_of_reads' rd h1 (fun z => by rw [h2] at z; cases z) g0 (by omega) (fun _ _ e => e) (fun h' t tk hk => ⟨.str d.shown, H, I.kept hk, ⟨t, rfl⟩, q⟩) h4
  cases hd with
  | non =>
    cases rx
    exact PySem.P.repr_of_none ⟨.str _, H, I.tok _, ⟨_, rfl⟩, q⟩
  | bl b =>
    cases rx
    exact PySem.P.repr_of_bool ⟨.str _, H, I.tok _, ⟨_, rfl⟩, q⟩
  | int i =>
    obtain ⟨t, rfl⟩ := rx
    exact PySem.P.repr_of_int (of_decide_eq_true h1) ⟨.str _, H, I.tok _, ⟨_, rfl⟩, q⟩
  | str x =>
    obtain ⟨t, rfl⟩ := rx
    exact PySem.P.repr_of_str ⟨.str _, H, I.tok _, ⟨_, rfl⟩, q⟩ h4
  | lst _ _ => exact ref _ rx
  | tup _ _ => exact ref _ rx
/-- the law's own call, where no repr is under way -/
theorem glaw {P : Program} {w : World} {K : PySem.W.Frag} {mg mb : Str → Option Value} {k : Nat} {fa a : Addr} {fd : FuncData} {x : Str} {sp : Sp} {s₁ : Shared} {vs : List Value} {ns : List Int} (KX : K.In s₁.heap) (hns : s₁.heap.Ns mainGlobals mg)
    (hb : s₁.heap.Ns builtinsNs mb) (hbb : ∀ x : Str, x ≠ "__name__" → mb x = bootBuiltins x) (hlim : s₁.heap.NoLimit) (hg : s₁.gens = #[]) (ha : s₁.heap.get? a = some { cls := .type "list", data := .seq vs.toArray }) (hi : IntsAre vs ns) (hl : ns.length ≤ sizeLine) (hr : Room k callerA)
    (F : ∀ base : Heap, K.In base → base.Ns mainGlobals mg → GOk P w K mg base k fa fd [x] sp) (hbind : ∀ (s : Shared) (u : Value), BindsTo s fd ⟨[u], []⟩ [(x, u)])
    (hsp : ∀ H : Hp, SqL K H a (ns.map V.int) → sp [.ref a] H (fun v _ => v = .bl true) fun _ _ _ => False) :
    codeAny (model P w) callerA (.call (.ref fa) ⟨[.ref a], []⟩) (fun r s' => r = .ok (.ret (.bool true)) ∧ OldK s₁.heap s'.heap ∧ s'.os = s₁.os ∧ AllBare s'.gens) s₁ := by
  have rv := vals_ints hi
  have from_ : ∀ H : Hp, Only H → SqL K H a (ns.map V.int) → HOk P w H s₁.heap → (∀ b u, H b = some u → b = a ∧ K.lookup a = none) → codeAny (model P w) callerA (.call (.ref fa) ⟨[.ref a], []⟩) (fun r s' => r = .ok (.ret (.bool true)) ∧ OldK s₁.heap s'.heap ∧ s'.os = s₁.os ∧ AllBare s'.gens) s₁ := by
    intro H hO hS hok hA
    have free : ∀ {b : Addr} {o : Obj}, s₁.heap.get? b = some o → (b = a → K.lookup a = none → False) → H b = none := fun {b o} e no => by
      cases z : H b with
      | none => rfl
      | some u => exact (no (hA b u z).1 (hA b u z).2).elim
    have nsK : ∀ {b : Addr} {m : Str → Option Value}, s₁.heap.Ns b m → (hidT s₁.heap H).Ns b m := by
      rintro b m ⟨o, es, ep, e, d, r⟩
      refine ⟨o, es, ep, hidT_get e (free e fun z _ => ?_), d, r⟩
      subst z
      rw [ha] at e
      cases e
      cases d
    have hKb : K.In (hidT s₁.heap H) := fun b o e => hidT_get (KX b o e) (free (KX b o e) fun z n => by
      subst z
      rw [e] at n
      cases n)
    have e0 : Env0 P w K mg (hidT s₁.heap H) callerA [] s₁ H :=
      ⟨rfl, ⟨hKb, nsK hns, ⟨mb, nsK hb, hbb⟩, hlim.elim fun mc h => ⟨mc, nsK h.1, h.2⟩⟩, fun _ _ e => of_hidT e, Nat.le_of_eq (hidT_size _ _), True.intro, fun b (z : b ∈ ([] : List Addr)) => absurd z List.not_mem_nil, hok, .of_eq hg⟩
    refine codeAny_mono ((F _ hKb (nsK hns)).run callerA [] s₁ H ⟨[.ref a], []⟩ [.ref a] [.ref a] _ _ rfl hr e0 (hbind s₁ (.ref a)) (.cons rfl .nil) (hsp H hS)) ?_
    intro r s' h
    match r, h with
    | .error e, h => exact h.elim
    | .ok .next, h => exact h.elim
    | .ok .brk, h => exact h.elim
    | .ok .cont, h => exact h.elim
    | .ok (.ret u), ⟨v, H', os, bare, un, hok', r', q⟩ =>
      cases (show v = .bl true from q)
      cases (show u = Value.bool true from r')
      refine ⟨rfl, OldK.of_keep fun b o e => ?_, os, bare⟩
      rcases hO b with z | ⟨ob, xs, z⟩
      · exact un.keep b o e z (fun (z : b ∈ ([] : List Addr)) => absurd z List.not_mem_nil) (fun (z : b ∈ ([] : List Addr)) => absurd z List.not_mem_nil)
      · have z1 := (hok b _ z).1
        have z2 := (hok' b _ (un.frzs b ob _ z)).1
        rw [e] at z1
        cases z1
        exact z2
  cases hk : K.lookup a with
  | some o =>
    have e := KX a o hk
    rw [ha] at e
    cases e
    exact from_ (fun _ => none) (fun _ => .inl rfl) (.inr ⟨_, vs.toArray, _, hk, rfl, rfl, rfl, by rw [List.size_toArray, hi.length]; exact hl, by simpa using rv⟩) (fun b u z => nomatch (show (none : Option HO) = some u from z)) (fun b u z => nomatch (show (none : Option HO) = some u from z))
  | none =>
    refine from_ (upd (fun _ => none) a (.frz { cls := .type "list", data := .seq vs.toArray } (.lst (ns.map V.int)))) (fun b => ?_) (.inl (.inr ⟨_, upd_same⟩)) (fun b u z => ?_) (fun b u z => ?_)
    all_goals by_cases hb' : b = a
    · exact .inr ⟨_, _, by rw [hb']; exact upd_same⟩
    · exact .inl (upd_ne hb')
    · subst hb'
      rw [upd_same] at z
      cases z
      exact ⟨ha, by rw [List.length_map]; exact hl, vs, _, rv, ha⟩
    · rw [upd_ne hb'] at z
      cases z
    · exact ⟨hb', hk⟩
    · rw [upd_ne hb'] at z
      cases z
theorem gwalk {l : PySem.W.OpenLaw} {n k : Nat} {q : Program} {loose : List Str} {XP : (Str → Option Value) → Heap → Prop} {YP : World → Heap → Prop} {d : DefRec} {K : Params → PySem.W.Frag} {sp : PySem.W.Frag → Sp} {x : Str} (hn : l.most = some n) (hn2 : n ≤ sizeLine) (hdf : d.params.defaults = [])
    (hr : Room k callerA) (hY : ∀ (w : World) (h : Heap), YP w h → (K w.params).In h)
    (F : ∀ (w : World) (mg : Str → Option Value) (fa : Addr) (h : Heap), (K w.params).In h → h.Ns mainGlobals mg → mg d.name = some (.ref fa) → ∃ fd : FuncData, (∀ (s : Shared) (u : Value), BindsTo s fd ⟨[u], []⟩ [(x, u)]) ∧
      ∀ base : Heap, (K w.params).In base → base.Ns mainGlobals mg → GOk l.prog w (K w.params) mg base k fa fd [x] (sp (K w.params)))
    (hsp : ∀ (K : PySem.W.Frag) (H : Hp) (a : Addr) (ns : List Int), ns.length ≤ n → SqL K H a (ns.map V.int) → sp K [.ref a] H (fun v _ => v = .bl true) fun _ _ _ => False) :
    PySem.W.WalkO q loose XP YP l.row.toRowW d [] (fun f vs => PySem.call f vs) := by
  refine Att.attach_call hn hdf fun w s₀ s₁ mg mb fa o pm cd doc a vs ns G Y ho hd hcd hmg hobj hints hlen hg => ?_
  obtain ⟨fd, bd, hF⟩ := F w mg fa _ (hY w _ Y) G.T.g hmg
  exact glaw (hY w _ Y) G.T.g G.T.b G.T.builtins G.T.nolimit hg hobj hints (Nat.le_trans hlen hn2) hr hF bd fun H hS => hsp _ H a ns hlen hS
end Ksec
set_option Elab.async false
set_option linter.all false
set_option maxRecDepth 100000
set_option maxHeartbeats 4000000
namespace Ksec
open PySem PySem.Spec PyProof.Rows L2
theorem room70 {k : Nat} {A : Around} (r : Room k A) : A.units + 70 < cLine := by
  have := r.un
  omega
structure Sm (d : PyData) : Prop where
  sh : d.showable = true
  nd : d.hasDict = false
  dp : d.depth ≤ 64
  fit : d.shown.length ≤ sizeLine
theorem small_show {n : Int} (h : n.natAbs ≤ 1000000000000) : (PyData.int n).showable = true := by
  show decide (n.natAbs.log2 < 1920) = true
  apply decide_eq_true
  by_cases z : n.natAbs = 0
  · rw [z]
    decide
  · have := (Nat.log2_lt z).mpr (show n.natAbs < 2 ^ 50 by omega)
    omega
theorem small_len {n : Int} (h : n.natAbs ≤ 1000000000000) : (PyData.int n).leavesShort 14 = true := by
  show decide ((PyData.shown (.int n)).length ≤ 14) = true
  apply decide_eq_true
  by_cases e : n.natAbs < 10 ^ 12
  · exact Nat.le_trans (PyData.shown_int_le e) (by decide)
  · have e2 : n = 1000000000000 ∨ n = -1000000000000 := by omega
    rcases e2 with rfl | rfl <;> decide +kernel
theorem str_short {z : Str} (h : ∀ c ∈ z.cps.toList, c ≤ 122) : (PyData.str z).leavesShort 14 = true := by
  show (z.cps.toList.all fun c => decide (c < 16 ^ 8)) = true
  rw [List.all_eq_true]
  intro c hc
  have := h c hc
  exact decide_eq_true (by omega)
theorem q_short : (PyData.str "?").leavesShort 14 = true := str_short (by decide)
/-- a term's data is small -/
theorem tm_sm : ∀ {t : Tm}, t.ok → t.data.showable = true ∧ t.data.hasDict = false ∧ t.data.leavesShort 14 = true ∧ t.data.bulk ≤ 10 * t.size
  | .int i, h => ⟨small_show h, rfl, small_len h, Nat.zero_le _⟩
  | .wrd z, h => by
    refine ⟨rfl, rfl, str_short fun c hc => (h.2.2 c hc).2, ?_⟩
    have := h.2.1
    show z.cps.size ≤ 10
    have e : z.length = z.cps.size := rfl
    omega
  | .nil, _ => ⟨rfl, rfl, rfl, Nat.zero_le _⟩
  | .unk n, h => by
    have hn : n.natAbs ≤ 1000000000000 := by
      have := h.1
      have := h.2
      omega
    refine ⟨?_, rfl, ?_, ?_⟩
    · show (true && ((PyData.int n).showable && true)) = true
      rw [small_show hn]
      rfl
    · show ((PyData.str "?").leavesShort 14 && ((PyData.int n).leavesShort 14 && true)) = true
      rw [small_len hn, q_short]
      rfl
    · show (1 + 1 + (0 + 1 + 0) : Nat) ≤ 10
      decide
  | .pair a b, h => by
    obtain ⟨a1, a2, a3, a4⟩ := tm_sm h.1
    obtain ⟨b1, b2, b3, b4⟩ := tm_sm h.2
    refine ⟨?_, ?_, ?_, ?_⟩
    · show (a.data.showable && (b.data.showable && true)) = true
      rw [a1, b1]
      rfl
    · show (a.data.hasDict || (b.data.hasDict || false)) = false
      rw [a2, b2]
      rfl
    · show (a.data.leavesShort 14 && (b.data.leavesShort 14 && true)) = true
      rw [a3, b3]
      rfl
    · show a.data.bulk + 1 + (b.data.bulk + 1 + 0) ≤ 10 * (a.size + b.size + 1)
      omega
theorem tms_sm : ∀ {ts : List Tm}, (∀ t ∈ ts, t.ok ∧ t.depth ≤ 62) → PyData.showableAll (ts.map Tm.data) = true ∧ PyData.hasDictAll (ts.map Tm.data) = false ∧ PyData.leavesShortAll 14 (ts.map Tm.data) = true ∧ PyData.bulkAll (ts.map Tm.data) ≤ 11 * sizes ts ∧ PyData.depthAll (ts.map Tm.data) ≤ 62 ∧ PyData.canLayAll0 (ts.map Tm.data) = true
  | [], _ => ⟨rfl, rfl, rfl, Nat.zero_le _, Nat.zero_le _, rfl⟩
  | t :: r, h => by
    obtain ⟨h1, h2, h3, h4, h5, h6⟩ := tms_sm (ts := r) fun u hu => h u (List.mem_cons_of_mem _ hu)
    obtain ⟨to, td⟩ := h t (List.mem_cons_self ..)
    obtain ⟨t1, t2, t3, t4⟩ := tm_sm to
    have tl := Tm.lay to
    have dd := t.data_depth
    have sp := t.size_pos
    refine ⟨?_, ?_, ?_, ?_, ?_, ?_⟩
    · show (t.data.showable && PyData.showableAll (r.map Tm.data)) = true
      rw [t1, h1]
      rfl
    · show (t.data.hasDict || PyData.hasDictAll (r.map Tm.data)) = false
      rw [t2, h2]
      rfl
    · show (t.data.leavesShort 14 && PyData.leavesShortAll 14 (r.map Tm.data)) = true
      rw [t3, h3]
      rfl
    · show t.data.bulk + 1 + PyData.bulkAll (r.map Tm.data) ≤ 11 * (t.size + sizes r)
      omega
    · show max t.data.depth (PyData.depthAll (r.map Tm.data)) ≤ 62
      omega
    · show (t.data.canLay0 && PyData.canLayAll0 (r.map Tm.data)) = true
      rw [tl, h6]
      rfl
theorem sm_tms {ts : List Tm} (h : ∀ t ∈ ts, t.ok ∧ t.depth ≤ 62) (hz : sizes ts ≤ 50000) : Sm (.tuple (ts.map Tm.data)) ∧ SeqAt.shaped (.tuple (ts.map Tm.data)) = true := by
  obtain ⟨h1, h2, h3, h4, h5, h6⟩ := tms_sm h
  have hd : (PyData.tuple (ts.map Tm.data)).depth ≤ 64 := by
    show PyData.depthAll (ts.map Tm.data) + 1 ≤ 64
    omega
  refine ⟨⟨h1, h2, hd, ?_⟩, ?_⟩
  · have h7 := PyData.shown_le_bulk 14 (by decide) (.tuple (ts.map Tm.data)) h3
    have h8 : (PyData.tuple (ts.map Tm.data)).bulk = PyData.bulkAll (ts.map Tm.data) := rfl
    rw [h8] at h7
    rw [sizeLine_eq]
    omega
  · unfold SeqAt.shaped
    have e : (PyData.tuple (ts.map Tm.data)).canLay0 = true := h6
    rw [e, decide_eq_true hd]
    rfl
theorem dpTms {K : PySem.W.Frag} {H : Hp} : ∀ {xs : List V} {ts : List Tm}, AreTm H xs ts → DpAll K H xs (ts.map Tm.data)
  | _, _, .nil => .nil
  | _, _, .cons h t => .cons h.dp (dpTms t)
theorem sizes_map (f : Int → Int) : ∀ ts : List Tm, sizes (ts.map (Tm.ren f)) = sizes ts
  | [] => rfl
  | t :: r => by
    show (t.ren f).size + sizes (r.map (Tm.ren f)) = t.size + sizes r
    rw [ren_size, sizes_map f r]
theorem sizes_rev (ts : List Tm) : sizes ts.reverse = sizes ts := by
  have app : ∀ as bs : List Tm, sizes (as ++ bs) = sizes as + sizes bs := fun as bs => by
    induction as with
    | nil => simp [sizes]
    | cons a r ih =>
      show a.size + sizes (r ++ bs) = a.size + sizes r + sizes bs
      omega
  induction ts with
  | nil => rfl
  | cons t r ih =>
    rw [List.reverse_cons, app, ih]
    show sizes r + (t.size + 0) = t.size + sizes r
    omega
theorem are_rev {H : Hp} : ∀ {xs : List V} {ts : List Tm}, AreTm H xs ts → AreTm H xs.reverse ts.reverse
  | _, _, .nil => .nil
  | _, _, .cons h t => by
    rw [List.reverse_cons, List.reverse_cons]
    exact are_app (are_rev t) (.cons h .nil)
theorem rnm_fine {ts : List Tm} (h : ∀ t ∈ ts, t.ok ∧ t.depth ≤ 62) (hz : sizes ts ≤ 50000) : ∀ t ∈ rnm ts, t.ok ∧ t.depth ≤ 62 := by
  intro t ht
  obtain ⟨u, hu, rfl⟩ := List.mem_map.mp ht
  have ul := uniq_len ts
  refine ⟨ren_ok _ (h u hu).1 fun n hn => ?_, by rw [ren_depth]; exact (h u hu).2⟩
  have := idx_lt (mem_uniq.mpr (mem_flat hu hn))
  omega
/-! the table of other numbers -/
def tbl : List Int := [100, 5, 41, 0, 998, 6]
def oth (us : List Int) (turn : Int) (n : Int) : Int := tbl.getD ((idx us n + turn) % 6).toNat 0
theorem tbl_inj : ∀ a b : Fin 6, tbl.getD a.val 0 = tbl.getD b.val 0 → a = b := by decide +kernel
theorem tbl_bound : ∀ a : Fin 6, 0 ≤ tbl.getD a.val 0 ∧ tbl.getD a.val 0 ≤ 999999 := by decide +kernel
theorem oth_inj {us : List Int} {turn a b : Int} (hl : us.length ≤ 6) (ha : a ∈ us) (hb : b ∈ us) (h : oth us turn a = oth us turn b) : a = b := by
  have i1 := idx_lt ha
  have i2 := idx_lt hb
  have e := tbl_inj ⟨((idx us a + turn) % 6).toNat, by omega⟩ ⟨((idx us b + turn) % 6).toNat, by omega⟩ h
  have e2 : ((idx us a + turn) % 6).toNat = ((idx us b + turn) % 6).toNat := congrArg Fin.val e
  exact idx_inj ha hb (by omega)
theorem oth_bound (us : List Int) (turn n : Int) : 0 ≤ oth us turn n ∧ oth us turn n ≤ 999999 := tbl_bound ⟨((idx us n + turn) % 6).toNat, by omega⟩
theorem tbl_at {i : Int} (h0 : 0 ≤ i) (h1 : i < 6) : atI (tbl.map V.int) i = some (.int (tbl.getD i.toNat 0)) := by
  have key : ∀ j : Fin 6, (tbl.map V.int)[j.val]? = some (.int (tbl.getD j.val 0)) := fun j => by
    have hj : j.val < tbl.length := j.isLt
    rw [List.getElem?_map, List.getElem?_eq_getElem hj, List.getD_eq_getElem?_getD, List.getElem?_eq_getElem hj]
    rfl
  have := atI_nat (key ⟨i.toNat, by omega⟩)
  rw [show ((i.toNat : Nat) : Int) = i by omega] at this
  exact this
end Ksec
set_option Elab.async false
set_option linter.all false
set_option maxRecDepth 100000
set_option maxHeartbeats 8000000
namespace Ksec
open PySem PySem.Spec PyProof.Rows L2
abbrev sLaw : Stmt := topS 20
abbrev nLaw : List Str := ["_law_script", "_law_deck_here", "_law_words", "_law_turn", "_law_great", "_law_unknowns_here", "_law_many", "_law_k", "_law_terms", "_law_due_here", "_law_numbers", "_law_number_here", "_law_others", "_law_term_here"]
theorem scLaw : FnScope nLaw ["_law_script"] (defScope sLaw) := ⟨rfl, rfl, rfl, by decide +kernel, rfl, by decide +kernel, by decide +kernel⟩
/-- the words at wl -/
structure Wds (H : Hp) (d c wl : Addr) (zs : List Str) : Prop where
  w : H wl = some (.lst (zs.map V.str))
  w1 : wl ≠ d
  w2 : wl ≠ c
  wd : ∀ z ∈ zs, Wd z
  zl : zs.length = 3
theorem Wds.keep {H H' : Hp} {d c wl : Addr} {zs : List Str} (S : Wds H d c wl zs) (k : Kp d c H H') : Wds H' d c wl zs := ⟨k _ _ S.w1 S.w2 S.w, S.w1, S.w2, S.wd, S.zl⟩
theorem Wds.src {H : Hp} {d c wl ul : Addr} {zs : List Str} {us : List Int} (S : Wds H d c wl zs) (u : H ul = some (.lst (us.map V.int))) (u1 : ul ≠ d) (u2 : ul ≠ c) (hl : us.length ≤ 100) (hb : ∀ n ∈ us, 0 ≤ n ∧ n ≤ 999) : Src H d c wl ul zs us :=
  ⟨S.w, u, S.w1, S.w2, u1, u2, S.wd, by rw [S.zl]; decide, by rw [S.zl]; decide, hl, hb⟩
theorem Wds.same {H H' : Hp} {d c wl : Addr} {zs : List Str} (S : Wds H d c wl zs) (k : Same H H') : Wds H' d c wl zs := S.keep (kpSame k)
theorem sizes_le : ∀ {ts : List Tm}, (∀ t ∈ ts, t.size ≤ 200) → sizes ts ≤ 200 * ts.length
  | [], _ => Nat.zero_le _
  | t :: r, h => by
    have h1 := sizes_le (ts := r) fun u hu => h u (List.mem_cons_of_mem _ hu)
    have h2 := h t (List.mem_cons_self ..)
    show t.size + sizes r ≤ 200 * (r.length + 1)
    omega
section
variable {P : Program} {w : World} {K : PySem.W.Frag} {mg : Str → Option Value} {base : Heap}
def spLaw (K : PySem.W.Frag) : Sp := fun vs H Q _ => ∃ (a : Addr) (ns : List Int), vs = [.ref a] ∧ SqL K H a (ns.map V.int) ∧ ∀ H', Q (.bl true) H'
theorem ok_law {f f1 f2 f3 f4 f5 f6 f7 : Addr} {fd d1 d2 d3 d4 d5 d6 d7 : FuncData} (F : Fun K "law" "law" sLaw f fd)
    (G1 : FnOk P w K mg base CX0 71 f1 d1 ["_law_script"] (spDeck K)) (b1 : Binds K d1 ["_law_script"] []) (g1 : mg "_law_deck" = some (.ref f1)) (k1 : PySem.W.keepIn K (.ref f1) = true)
    (G2 : FnOk P w K mg base CX0 71 f2 d2 ["_law_deck_here", "_law_many"] spNames) (b2 : Binds K d2 ["_law_deck_here", "_law_many"] []) (g2 : mg "_law_names" = some (.ref f2)) (k2 : PySem.W.keepIn K (.ref f2) = true)
    (G3 : FnOk P w K mg base CX0 71 f3 d3 ["_law_deck_here", "_law_many"] spDraw) (b3 : Binds K d3 ["_law_deck_here", "_law_many"] []) (g3 : mg "_law_draw" = some (.ref f3)) (k3 : PySem.W.keepIn K (.ref f3) = true)
    (G4 : FnOk P w K mg base CX0 71 f4 d4 ["_law_deck_here", "_law_words", "_law_unknowns_here"] spAny) (b4 : Binds K d4 ["_law_deck_here", "_law_words", "_law_unknowns_here"] []) (g4 : mg "_law_any_term" = some (.ref f4)) (k4 : PySem.W.keepIn K (.ref f4) = true)
    (G5 : FnOk P w K mg base CX0 71 f5 d5 ["_law_terms"] (spDue K)) (b5 : Binds K d5 ["_law_terms"] []) (g5 : mg "_law_due" = some (.ref f5)) (k5 : PySem.W.keepIn K (.ref f5) = true)
    (G6 : FnOk P w K mg base CX0 71 f6 d6 ["terms"] (spRenamed K)) (b6 : Binds K d6 ["terms"] []) (g6 : mg "renamed" = some (.ref f6)) (k6 : PySem.W.keepIn K (.ref f6) = true)
    (G7 : FnOk P w K mg base CX0 71 f7 d7 psNumd (spNum 64)) (b7 : Binds K d7 psNumd []) (g7 : mg "_law_numbered" = some (.ref f7)) (k7 : PySem.W.keepIn K (.ref f7) = true)
    (mr : mg "range" = none) (mi : mg "int" = none) (mt : mg "tuple" = none) (mp : mg "repr" = none) (me : mg "enumerate" = none) : GOk P w K mg base 72 f fd ["_law_script"] (spLaw K) := by
  refine gok_of F scLaw (fun vs H Q E h => ?_) (fun cdv A outer s H vs Q E g0 hr h => ?_)
  · obtain ⟨a, ns, rfl, _⟩ := h
    rfl
  · obtain ⟨a, ns, rfl, hS, q⟩ := h
    refine ⟨_, pss_cons (ps_set (i := 1) scLaw.nd rfl (.inr rfl) (pe_call G1 hr (by rfl) g1 k1 b1 .nil pass0 (pa_cons (pv 0) pa_nil)))
      (pss_cons (ps_set (i := 2) scLaw.nd rfl (.inr rfl) (pe_call G2 hr (by rfl) g2 k2 b2 .nil pass0 (pa_cons (pv 1) (pa_cons pe_int pa_nil))))
      (pss_cons (ps_for PassesOwn.never rfl (pi_range1 (by rfl) mr (pa_cons pe_int pa_nil)) (pg_name (i := 3) scLaw.nd rfl (Or.inl rfl))
        (pss_cons (ps_set (i := 4) scLaw.nd rfl (.inl rfl) (pe_cmpR op_eq (pe_call G3 hr (by rfl) g3 k3 b3 .nil pass0 (pa_cons (pv 1) (pa_cons pe_int pa_nil))) pe_int (nomark _)))
        (pss_cons (ps_set (i := 5) scLaw.nd rfl (.inr rfl) (pe_ix ix_list (pe_lst (pa_cons (pe_lst (pa_cons pe_int (pa_cons pe_int (pa_cons pe_int pa_nil)))) (pa_cons (pe_lst (pa_cons pe_int (pa_cons pe_int (pa_cons pe_int (pa_cons pe_int (pa_cons pe_int (pa_cons pe_int pa_nil)))))))
            (pa_cons (pe_lst (pa_cons pe_int pa_nil)) pa_nil)))) (pe_call G3 hr (by rfl) g3 k3 b3 .nil pass0 (pa_cons (pv 1) (pa_cons pe_int pa_nil))) (fun _ _ => rfl)))
        (pss_cons (ps_set (i := 6) scLaw.nd rfl (.inl rfl) (pe_ix ix_list (pe_lst (pa_cons (pe_call G3 hr (by rfl) g3 k3 b3 .nil pass0 (pa_cons (pv 1) (pa_cons pe_int pa_nil))) (pa_cons pe_int pa_nil))) (pe_callTy call_int1 (by rfl) mi (by decide +kernel) (pa_cons (pv 4) pa_nil)) (fun _ _ => rfl)))
        (pss_cons (ps_set (i := 8) scLaw.nd rfl (.inl rfl) (pe_callTy call_tuple_of (by rfl) mt (by decide +kernel) (pa_cons
          (pe_lc (own := [("_law_k", 7)]) (g := gName 7) (tt := tYes) rfl scLaw.nd (pi_range1 (by rfl) mr (pa_cons (pv 6) pa_nil)) (blkOk_by (own := [("_law_k", 7)]) (N := nLaw) (sc := defScope sLaw) (by decide +kernel))
            (fun _ _ _ _ _ => pg_name (i := 7) scLaw.nd rfl (Or.inl rfl)) (fun _ _ _ _ _ => pts_nil) (fun _ _ _ _ _ => pe_call G4 hr (by rfl) g4 k4 b4 .nil pass0 (pa_cons (pv 1) (pa_cons (pv 2) (pa_cons (pv 5) pa_nil))))) pa_nil)))
        (pss_cons (ps_set (i := 9) scLaw.nd rfl (.inl rfl) (pe_call G5 hr (by rfl) g5 k5 b5 .nil pass0 (pa_cons (pv 8) pa_nil)))
        (pss_cons (ps_if (PW.pt (pw_or (pt_cmpR op_ne (pe_callB (call_reprD g0 (room70 hr)) (by rfl) mp (by decide +kernel) (pa_cons (pe_call G6 hr (by rfl) g6 k6 b6 .nil pass0 (pa_cons (pv 8) pa_nil)) pa_nil)) (pe_callB (call_reprD g0 (room70 hr)) (by rfl) mp (by decide +kernel) (pa_cons (pv 9) pa_nil)) (nomark _))
            (pw_or1 (pt_cmpR (op_neD hr.units) (pe_call G6 hr (by rfl) g6 k6 b6 .nil pass0 (pa_cons (pv 9) pa_nil)) (pv 9) (nomark _))))) (pss_one (ps_ret pe_bl)) pss_nil)
        (pss_cons (ps_set (i := 10) scLaw.nd rfl (.inr rfl) pe_dnewK)
        (pss_cons (ps_for PassesOwn.never rfl (pi_enum (by rfl) me (pa_cons (pv 5) pa_nil)) (pg_tup rfl (pgs_cons (pg_name (i := 7) scLaw.nd rfl (.inl rfl)) (pgs_cons (pg_name (i := 11) scLaw.nd rfl (.inl rfl)) pgs_nil)))
          (pss_one (ps_dput (hu_of hr) (pv 10) (pv 11) (pe_ix ix_list (pe_lst (pa_cons pe_int (pa_cons pe_int (pa_cons pe_int (pa_cons pe_int (pa_cons pe_int (pa_cons pe_int pa_nil))))))) (pe_op op_mod (pe_op op_add (pv 7) (pv 3)) pe_int) (fun _ _ => rfl)) rfl)))
        (pss_cons (ps_set (i := 12) scLaw.nd rfl (.inl rfl) (pe_callTy call_tuple_of (by rfl) mt (by decide +kernel) (pa_cons
          (pe_lc (own := [("_law_term_here", 13)]) (g := gName 13) (tt := tYes) rfl scLaw.nd (pi_tup (pv 8)) (blkOk_by (own := [("_law_term_here", 13)]) (N := nLaw) (sc := defScope sLaw) (by decide +kernel))
            (fun _ _ _ _ _ => pg_name (i := 13) scLaw.nd rfl (Or.inl rfl)) (fun _ _ _ _ _ => pts_nil) (fun _ _ _ _ _ => pe_call G7 hr (by rfl) g7 k7 b7 .nil pass0 (pa_cons (pv 13) (pa_cons (pv 10) pa_nil)))) pa_nil)))
        (pss_one (ps_if (PW.pt (pw_or (pt_cmpR (op_neD hr.units) (pe_call G6 hr (by rfl) g6 k6 b6 .nil pass0 (pa_cons (pv 12) pa_nil)) (pv 9) (nomark _))
            (pw_or1 (pt_cmpR op_ne (pe_callB (call_reprD g0 (room70 hr)) (by rfl) mp (by decide +kernel) (pa_cons (pe_call G6 hr (by rfl) g6 k6 b6 .nil pass0 (pa_cons (pe_revT (pv 8)) pa_nil)) pa_nil))
              (pe_callB (call_reprD g0 (room70 hr)) (by rfl) mp (by decide +kernel) (pa_cons (pe_call G5 hr (by rfl) g5 k5 b5 .nil pass0 (pa_cons (pe_revT (pv 8)) pa_nil)) pa_nil)) (nomark _))))) (pss_one (ps_ret pe_bl)) pss_nil))))))))))))
      (pss_one (ps_ret (pe_cmpR (op_eqD hr.units) (pe_call G6 hr (by rfl) g6 k6 b6 .nil pass0 (pa_cons (pe_tup pa_nil) pa_nil)) (pe_tup pa_nil) (nomark _)))))), ?_⟩
    refine ⟨.ref a, rfl, a, ns, rfl, hS, fun H1 d c s1 nd nc hD => ?_⟩
    refine ⟨.ref d, rfl, d, c, 3, rfl, hD, by decide, fun H2 wl zs hD2 kp2 nw w1 w2 hw zl zw => ?_⟩
    have W2 : Wds H2 d c wl zs := ⟨hw, w1, w2, zw, zl⟩
    refine ⟨6, rfl, by decide, by decide, ?_⟩
    refine for_range (lo := 0) (n := 6) (fun i σ H' => ∃ (y3 y4 y5 y6 y7 y8 y9 y10 y11 y12 y13 : Option V), σ = [some (.ref a), some (.ref d), some (.ref wl), y3, y4, y5, y6, y7, y8, y9, y10, y11, y12, y13] ∧ Dk H' d c ∧ Wds H' d c wl zs) ⟨none, none, none, none, none, none, none, none, none, none, none, rfl, hD2, W2⟩ (fun i σ H3 hi h3 => ?_) (fun σ H3 h3 => ?_)
    · obtain ⟨y3, y4, y5, y6, y7, y8, y9, y10, y11, y12, y13, rfl, hD3, W3⟩ := h3
      refine ⟨.ref d, rfl, d, c, 8, rfl, hD3, by decide, by decide, fun H4 r4 hD4 kp4 _ _ => ⟨rfl, ?_⟩⟩
      have W4 := W3.keep kp4
      refine ⟨(by show 3 ≤ sizeLine; decide), fun l1 n1 => ⟨(by show 6 ≤ sizeLine; decide), fun l2 n2 => ⟨(by show 1 ≤ sizeLine; decide), fun l4 n4 => ⟨(by show 3 ≤ sizeLine; decide), fun l5 n5 => ?_⟩⟩⟩⟩
      have t1 := same_upd (o := .lst (([2, 1, 0] : List Int).map V.int)) n1
      have t2 := same_upd (o := .lst (([3, 0, 99, 10, 999, 100] : List Int).map V.int)) n2
      have t4 := same_upd (o := .lst (([7] : List Int).map V.int)) n4
      have t5 := same_upd (o := .lst [.ref l1, .ref l2, .ref l4]) n5
      have t25 := t2.trans (t4.trans t5)
      have t15 := t1.trans t25
      have u1 := t25 _ _ (upd_same (a := l1))
      have u2 := (t4.trans t5) _ _ (upd_same (a := l2))
      have u4 := t5 _ _ (upd_same (a := l4))
      have a1 := hD4.ne1 n1
      have a2 := hD4.ne2 n1
      have b1 := (hD4.same t1).ne1 n2
      have b2 := (hD4.same t1).ne2 n2
      have e1 := (hD4.same (t1.trans t2)).ne1 n4
      have e2 := (hD4.same (t1.trans t2)).ne2 n4
      have f1 := (hD4.same (t1.trans (t2.trans t4))).ne1 n5
      have f2 := (hD4.same (t1.trans (t2.trans t4))).ne2 n5
      refine ⟨.ref d, rfl, d, c, 3, rfl, hD4.same t15, by decide, by decide, fun H5 r hD5 kp5 r0 r1 => ?_⟩
      obtain ⟨v, hv, ev⟩ := item_at (xs := [V.ref l1, .ref l2, .ref l4]) r0 r1
      have v1 := kp5 _ _ a1 a2 u1
      have v2 := kp5 _ _ b1 b2 u2
      have v4 := kp5 _ _ e1 e2 u4
      have W5 := (W4.same t15).keep kp5
      obtain ⟨ul, us, rfl, S5, un, u6⟩ : ∃ ul us, v = .ref ul ∧ Src H5 d c wl ul zs us ∧ us.Nodup ∧ us.length ≤ 6 := by
        simp only [List.mem_cons, List.not_mem_nil, or_false] at hv
        rcases hv with rfl | rfl | rfl
        · exact ⟨l1, [2, 1, 0], rfl, W5.src (us := [2, 1, 0]) v1 a1 a2 (by decide) (by decide), by decide, by decide⟩
        · exact ⟨l2, [3, 0, 99, 10, 999, 100], rfl, W5.src (us := [3, 0, 99, 10, 999, 100]) v2 b1 b2 (by decide) (by decide), by decide, by decide⟩
        · exact ⟨l4, [7], rfl, W5.src (us := [7]) v4 e1 e2 (by decide) (by decide), by decide, by decide⟩
      refine ⟨l5, _, r, _, rfl, rfl, .inl (.inl (kp5 _ _ f1 f2 upd_same)), ev, ?_⟩
      refine ⟨.ref d, rfl, d, c, 5, rfl, hD5, by decide, by decide, fun H6 r6 hD6 kp6 r60 r61 => ⟨(by show 2 ≤ sizeLine; decide), fun p6 np6 => ?_⟩⟩
      have s7 : Same H6 (upd H6 p6 (.lst [.int r6, .int 12])) := same_upd np6
      obtain ⟨many, hm0, hm1, evm⟩ : ∃ v : Int, 0 ≤ v ∧ v ≤ 12 ∧ atI [V.int r6, V.int 12] (if decide (V.int r4 = V.int 5) = true then 1 else 0) = some (.int v) := by
        cases decide (V.int r4 = V.int 5) with
        | true => exact ⟨12, by omega, by omega, atI_nat (j := 1) rfl⟩
        | false => exact ⟨r6, by omega, by omega, atI_nat (j := 0) rfl⟩
      refine ⟨_, rfl, .inr ⟨_, rfl, p6, _, _, .int many, rfl, rfl, .inl (.inl upd_same), evm, ?_⟩⟩
      have hD7 := hD6.same s7
      have S7 := (S5.keep kp6).keep (kpSame s7)
      have W7 := (W5.keep kp6).same s7
      generalize upd H6 p6 (.lst [.int r6, .int 12]) = H7 at *
      refine ⟨.int many, rfl, many, rfl, by omega, by omega, fun D nD => ?_⟩
      have nD1 := hD7.ne1 nD
      have nD2 := hD7.ne2 nD
      refine lc_range (lo := 0) (n := many.toNat) (fun j H' => ∃ ys ts, H' D = some (.lst ys) ∧ AreTm H' ys ts ∧ ts.length = j ∧ (∀ t ∈ ts, t.ok ∧ t.depth ≤ 30 ∧ t.size ≤ 200 ∧ ∀ n ∈ t.uks, n ∈ us) ∧ Dk H' d c ∧ Src H' d c wl ul zs us) ?_ (fun j H8 hj h8 => ?_) (fun H8 h8 => ?_)
      · exact ⟨[], [], upd_same, .nil, rfl, fun t h => absurd h List.not_mem_nil, hD7.same (same_upd nD), S7.keep (kpSame (same_upd nD))⟩
      · obtain ⟨ys, ts, e8, hA8, hl8, hf8, hD8, S8⟩ := h8
        refine ⟨rfl, yes ?_⟩
        refine ⟨.ref d, rfl, .ref wl, rfl, .ref ul, rfl, d, c, wl, ul, zs, us, rfl, hD8, S8, fun H9 x t hD9 kp9 hx ok dp sz uk => ?_⟩
        have hyl : ys.length = ts.length := Paired.length hA8
        have hD' := kp9 _ _ nD1 nD2 e8
        have tu : Tup H9 (upd H9 D (.lst (ys ++ [x]))) := tup_upd hD' fun _ => by intro z; cases z
        refine ⟨ys, hD', ?_, ys ++ [x], ts ++ [t], upd_same, ?_, ?_, ?_, ?_, ?_⟩
        · exact Nat.lt_of_le_of_lt (show ys.length ≤ 100 by omega) (by decide)
        · exact are_app (areKeep (fun a b z => tu a b (kpTup hD8 kp9 a b z)) hA8) (.cons (hx.keep tu) .nil)
        · rw [List.length_append, hl8]
          rfl
        · intro t' ht'
          rcases List.mem_append.mp ht' with h | h
          · exact hf8 t' h
          · rw [List.mem_singleton.mp h]
            exact ⟨ok, dp, sz, uk⟩
        · obtain ⟨ns', s', n', q1, q2, q3⟩ := hD9
          exact ⟨ns', s', n', by rw [upd_ne nD1.symm]; exact q1, by rw [upd_ne nD2.symm]; exact q2, q3⟩
        · have S9 := S8.keep kp9
          have x1 : wl ≠ D := ne_of_none S7.w nD
          have x2 : ul ≠ D := ne_of_none S7.u nD
          exact ⟨by rw [upd_ne x1]; exact S9.w, by rw [upd_ne x2]; exact S9.u, S9.w1, S9.w2, S9.u1, S9.u2, S9.wd, S9.zn, S9.zl, S9.ul, S9.ub⟩
      obtain ⟨ys, ts, e8, hA8, hl8, hf8, hD8, S8⟩ := h8
      refine ⟨D, ys, rfl, .inl ⟨.inl (.inl e8), fun p np => ?_⟩⟩
      have s9 : Same H8 (upd H8 p (.tup ys)) := same_upd np
      have hp9 : upd H8 p (.tup ys) p = some (.tup ys) := upd_same
      have hD9 := hD8.same s9
      have S9 := S8.keep (kpSame s9)
      have hA9 := areKeep (sameTup s9) hA8
      have W9 : Wds (upd H8 p (.tup ys)) d c wl zs := ⟨S9.w, S9.w1, S9.w2, S9.wd, W7.zl⟩
      generalize upd H8 p (.tup ys) = H9 at *
      have hsz := sizes_le (ts := ts) fun t h => (hf8 t h).2.2.1
      have hsz2 : sizes ts ≤ 5000 := by omega
      have fine : ∀ t ∈ ts, t.ok ∧ t.depth ≤ 62 := fun t h => ⟨(hf8 t h).1, by have := (hf8 t h).2.1; omega⟩
      have fine2 : ∀ {l : List Tm}, (∀ t ∈ l, t.ok ∧ t.depth ≤ 62) → ∀ t ∈ l, Fine t := fun h t ht => ⟨(h t ht).1, by have := (h t ht).2; omega⟩
      have rf := rnm_fine fine (by omega)
      have rz : sizes (rnm ts) = sizes ts := sizes_map _ ts
      obtain ⟨sm, shp⟩ := sm_tms rf (by omega)
      refine ⟨.ref p, rfl, p, ys, ts, rfl, .inl (.inl hp9), hA9, fine, by omega, fun H10 p10 y10' s10 np10 hp10 hA10 => ?_⟩
      have hp9' := s10 _ _ hp9
      refine ⟨.ref p, rfl, p, ys, ts, rfl, .inl (.inl hp9'), areKeep (sameTup s10) hA9, fine2 fine, by omega, fun H11 p11 y11' s11 np11 hp11 hA11 => ?_⟩
      refine ⟨.ref p11, _, rfl, .tup (.inl (.inl hp11)) (dpTms hA11), sm.sh, sm.nd, sm.dp, sm.fit, ?_⟩
      have hA10' := areKeep (sameTup s11) hA10
      have hp10' := s11 _ _ hp10
      refine ⟨.ref p10, rfl, .ref p10, _, rfl, .tup (.inl (.inl hp10')) (dpTms hA10'), sm.sh, sm.nd, sm.dp, sm.fit, rfl, _, rfl, ?_⟩
      refine iteNS rfl ?_
      refine ⟨.ref p10, rfl, p10, y10', rnm ts, rfl, .inl (.inl hp10'), hA10', fine2 rf, by omega, fun H12 p12 y12' s12 np12 hp12 hA12 => ?_⟩
      rw [rnm_rnm] at hA12
      have hp10'' := s12 _ _ hp10'
      refine ⟨.ref p10, rfl, _, _, .tup (.inl (.inl hp12)) (dpTms hA12), .tup (.inl (.inl hp10'')) (dpTms (areKeep (sameTup s12) hA10')), shp, shp, _, rfl, ?_⟩
      rw [SeqAt.eqv_refl _ (SeqAt.canLay_of_shaped shp)]
      refine iteF ?_
      intro N nN
      have sA := s10.trans (s11.trans s12)
      have hN0 : upd H12 N (.dK []) N = some (.dK (tab (us.take 0) (oth us (0 + (i : Int))))) := upd_same
      have sN : Same H12 (upd H12 N (.dK [])) := same_upd nN
      have ulN := (sA.trans sN) _ _ S9.u
      refine ⟨.ref ul, rfl, ul, _, rfl, .inl (.inl ulN), ?_⟩
      refine ⟨fun j m σ H' => ∃ (y7 y11 : Option V), σ = [some (.ref a), some (.ref d), some (.ref wl), some (.int (0 + (i : Int))), some (.bl (decide (V.int r4 = V.int 5))), some (.ref ul), some (.int many), y7, some (.ref p), some (.ref p10), some (.ref N), y11, y12, y13] ∧ j + m = us.length ∧ Same H12 H' ∧ H' N = some (.dK (tab (us.take j) (oth us (0 + (i : Int))))),
        ⟨us.length, _, _, rfl, by omega, sN, hN0⟩, fun j m σ H' hW => ?_⟩
      obtain ⟨y7', y11', rfl, jm, smN, hN⟩ := hW
      have ulJ : SqL K H' ul (us.map V.int) := .inl (.inl ((sA.trans smN) _ _ S9.u))
      by_cases hj : j < us.length
      · have gj : (us.map V.int)[j]? = some (.int us[j]) := by
          rw [List.getElem?_map, List.getElem?_eq_getElem hj]
          rfl
        refine .inr ⟨⟨_, _, ulJ, gj⟩, fun σ' H'' => ∃ m', m' < m ∧ ∃ (y7 y11 : Option V), σ' = [some (.ref a), some (.ref d), some (.ref wl), some (.int (0 + (i : Int))), some (.bl (decide (V.int r4 = V.int 5))), some (.ref ul), some (.int many), y7, some (.ref p), some (.ref p10), some (.ref N), y11, y12, y13] ∧ j + 1 + m' = us.length ∧ Same H12 H'' ∧ H'' N = some (.dK (tab (us.take (j + 1)) (oth us (0 + (i : Int))))), fun σ' H'' h => h, fun x H'' hy => ?_⟩
        obtain ⟨T, x', rfl, nT, rfl, fx⟩ := hy
        have ex : x' = .int us[j] := Option.some.inj ((fx _ ulJ).symm.trans gj)
        subst ex
        have sT : Same H' (upd H' T (.tup [.int (j : Nat), .int us[j]])) := same_upd nT
        obtain ⟨nt, it⟩ := nodup_take un (List.getElem?_eq_getElem hj)
        have hNT := sT _ _ hN
        refine ⟨T, _, rfl, .inl (.inl upd_same), rfl, _, _, rfl, _, _, rfl, rfl, ?_⟩
        generalize upd H' T (.tup [.int (j : Nat), .int us[j]]) = HT' at *
        refine ⟨(by show 6 ≤ sizeLine; decide), fun pt npt => ?_⟩
        have sP : Same HT' (upd HT' pt (.lst (tbl.map V.int))) := same_upd npt
        have k0 := Int.emod_nonneg ((j : Int) + (0 + (i : Int))) (show (6 : Int) ≠ 0 by decide)
        have k1 := Int.emod_lt_of_pos ((j : Int) + (0 + (i : Int))) (show (0 : Int) < 6 by decide)
        have et : tbl.getD (((j : Int) + (0 + (i : Int))) % 6).toNat 0 = oth us (0 + (i : Int)) us[j] := by
          unfold oth
          rw [it]
        have eat := tbl_at k0 k1
        rw [et] at eat
        refine ⟨_, rfl, _, rfl, _, _, rfl, rfl, _, 6, rfl, rfl, (by show (0 : Int) < 6; decide), pt, _, _, _, rfl, rfl, .inl (.inl upd_same), eat, .ref N, rfl, .int us[j], rfl, N, _, rfl, DPut.k (k := Sum.inl us[j]) (sP _ _ hNT) ?_, ?_⟩
        · rw [tab_len]
          have : (us.take j).length ≤ 6 := by
            rw [List.length_take]
            omega
          exact Nat.lt_of_le_of_lt this (by decide)
        · refine ⟨m - 1, by omega, _, _, rfl, by omega, fun b' o e => ?_, ?_⟩
          · rw [upd_ne (ne_of_none e nN)]
            exact sP _ _ (sT _ _ (smN _ _ e))
          · rw [upd_same, tab_put nt, List.take_add_one, List.getElem?_eq_getElem hj]
            rfl
      · have ej : us.take j = us := List.take_of_length_le (by omega)
        rw [ej] at hN
        refine .inl ⟨⟨_, ulJ, by rw [List.length_map]; omega⟩, ?_⟩
        have sB := sA.trans smN
        have hpB := sB _ _ hp9
        have hAB := areKeep (sameTup sB) hA9
        refine ⟨.ref p, rfl, p, rfl, ⟨_, .inl (.inl hpB)⟩, fun D3 nD3 => ?_⟩
        refine lc_tup (K := K) (a := p) (xs := ys) (fun i2 H'' => ∃ zs', Same H' H'' ∧ H'' D3 = some (.lst zs') ∧ AreTm H'' zs' ((ts.take i2).map (Tm.ren (oth us (0 + (i : Int)))))) ⟨[], same_upd nD3, upd_same, .nil⟩ (fun i2 H'' _ h => ?_) (fun i2 x2 H'' hx2 h => ?_) (fun H'' h => ?_)
        · obtain ⟨_, sm2, _⟩ := h
          exact .inl (.inl (sm2 _ _ hpB))
        · obtain ⟨zs', sm2, hD3, hzs⟩ := h
          obtain ⟨u, hu, hxu⟩ := are_get hAB hx2
          have hmem := List.mem_of_getElem? hu
          have hyl : zs'.length = ((ts.take i2).map (Tm.ren (oth us (0 + (i : Int))))).length := Paired.length hzs
          have us' := size_mem hmem
          obtain ⟨uo, ud, usz, uu⟩ := hf8 u hmem
          refine ⟨rfl, yes ?_⟩
          refine ⟨x2, rfl, .ref N, rfl, x2, u, N, _, oth us (0 + (i : Int)), rfl, hxu.keep (sameTup sm2), uo, by omega, by decide, by omega, sm2 _ _ hN, fun m hm => ?_, fun H3 y3 s3 hy3 => ?_⟩
          · rw [tab_val, if_pos (uu m hm)]
          refine ⟨zs', s3 _ _ hD3, ?_, zs' ++ [y3], ?_, upd_same, ?_⟩
          · rw [hyl, List.length_map, List.length_take]
            exact Nat.lt_of_le_of_lt (show min i2 ts.length ≤ 100 by omega) (by decide)
          · intro b' o e
            by_cases hb : b' = D3
            · rw [hb, nD3] at e
              cases e
            · rw [upd_ne hb]
              exact s3 _ _ (sm2 _ _ e)
          · have tu : Tup H3 (upd H3 D3 (.lst (zs' ++ [y3]))) := tup_upd (s3 _ _ hD3) fun _ => by intro z; cases z
            rw [List.take_add_one, hu, List.map_append]
            exact are_app (areKeep (fun a b z => tu a b (s3 _ _ z)) hzs) (.cons (hy3.keep tu) .nil)
        · obtain ⟨zs', sm2, hD3, hzs⟩ := h
          have hxl : ys.length = ts.length := Paired.length hA9
          rw [hxl, List.take_length] at hzs
          refine ⟨D3, zs', rfl, .inl ⟨.inl (.inl hD3), fun p3 np3 => ?_⟩⟩
          have s14 : Same H'' (upd H'' p3 (.tup zs')) := same_upd np3
          have hA14 := areKeep (sameTup s14) hzs
          have of' : ∀ t ∈ ts.map (Tm.ren (oth us (0 + (i : Int)))), t.ok ∧ t.depth ≤ 62 := fun t ht => by
            obtain ⟨u, hu, rfl⟩ := List.mem_map.mp ht
            exact ⟨ren_ok _ (fine u hu).1 fun n _ => oth_bound us _ n, by rw [ren_depth]; exact (fine u hu).2⟩
          have oz := sizes_map (oth us (0 + (i : Int))) ts
          have inj : rnm (ts.map (Tm.ren (oth us (0 + (i : Int))))) = rnm ts := rnm_ren fun x y hx hy h => by
            obtain ⟨t1, ht1, m1⟩ := flat_uks hx
            obtain ⟨t2, ht2, m2⟩ := flat_uks hy
            exact oth_inj u6 ((hf8 t1 ht1).2.2.2 x m1) ((hf8 t2 ht2).2.2.2 y m2) h
          refine ⟨.ref p3, rfl, p3, zs', _, rfl, .inl (.inl upd_same), hA14, fine2 of', by omega, fun H15 p15 y15 s15 np15 hp15 hA15 => ?_⟩
          rw [inj] at hA15
          have sC := smN.trans (sm2.trans (s14.trans s15))
          have hp10C := sC _ _ hp10''
          have hA10C := areKeep (sameTup (s12.trans sC)) hA10'
          refine ⟨.ref p10, rfl, _, _, .tup (.inl (.inl hp15)) (dpTms hA15), .tup (.inl (.inl hp10C)) (dpTms hA10C), shp, shp, _, rfl, ?_⟩
          rw [SeqAt.eqv_refl _ (SeqAt.canLay_of_shaped shp)]
          refine iteF ?_
          have sD := sA.trans sC
          have hpD := sD _ _ hp9
          have fr : ∀ t ∈ ts.reverse, t.ok ∧ t.depth ≤ 62 := fun t h => fine t (List.mem_reverse.mp h)
          have zr := sizes_rev ts
          have rfr := rnm_fine fr (by omega)
          have rzr : sizes (rnm ts.reverse) = sizes ts.reverse := sizes_map _ _
          obtain ⟨smr, _⟩ := sm_tms rfr (by omega)
          refine ⟨.ref p, rfl, p, ys, rfl, .inl (.inl hpD), fun p4 np4 => ?_⟩
          have s16 : Same H15 (upd H15 p4 (.tup ys.reverse)) := same_upd np4
          refine ⟨p4, ys.reverse, ts.reverse, rfl, .inl (.inl upd_same), are_rev (areKeep (sameTup (sD.trans s16)) hA9), fine2 fr, by omega, fun H17 p17 y17 s17 np17 hp17 hA17 => ?_⟩
          refine ⟨.ref p17, _, rfl, .tup (.inl (.inl hp17)) (dpTms hA17), smr.sh, smr.nd, smr.dp, smr.fit, ?_⟩
          have sE := sD.trans (s16.trans s17)
          refine ⟨.ref p, rfl, p, ys, rfl, .inl (.inl (sE _ _ hp9)), fun p5 np5 => ?_⟩
          have s18 : Same H17 (upd H17 p5 (.tup ys.reverse)) := same_upd np5
          refine ⟨p5, ys.reverse, ts.reverse, rfl, .inl (.inl upd_same), are_rev (areKeep (sameTup (sE.trans s18)) hA9), fr, by omega, fun H19 p19 y19 s19 np19 hp19 hA19 => ?_⟩
          refine ⟨.ref p19, _, rfl, .tup (.inl (.inl hp19)) (dpTms hA19), smr.sh, smr.nd, smr.dp, smr.fit, rfl, _, rfl, ?_⟩
          refine iteNS rfl ?_
          have sF := sE.trans (s18.trans s19)
          exact ⟨_, _, _, _, _, _, _, _, _, _, _, rfl, hD9.same sF, W9.same sF⟩
    · refine ⟨Nat.zero_le _, fun p np => ?_⟩
      refine ⟨p, [], [], rfl, .inl (.inl upd_same), .nil, fun t h => absurd h List.not_mem_nil, Nat.zero_le _, fun H' p' ys' s' np' hp' hA' => ?_⟩
      have hA2 : AreTm H' ys' [] := hA'
      cases hA2
      refine ⟨Nat.zero_le _, fun p5 np5 => ?_⟩
      refine ⟨.tuple [], .tuple [], .tup (.inl (.inl (same_upd np5 _ _ hp'))) .nil, .tup (.inl (.inl upd_same)) .nil, shp0, shp0, ?_⟩
      rw [eqv00]
      exact q _
end
end Ksec
set_option Elab.async false
set_option linter.all false
set_option maxRecDepth 100000
set_option maxHeartbeats 8000000
namespace Ksec
open PySem PySem.Spec PyProof.Rows L2
theorem all_mk {l : PySem.W.OpenLaw} {w : World} {K : PySem.W.Frag} {h : Heap} {mg : Str → Option Value} {fa : Addr} (X : K.In h) (G : h.Ns mainGlobals mg) (hfa : mg "law" = some (.ref fa))
    {f1 : Addr} {od1 an1 : Option Addr} {sl1 : Array (Option Value)} {oc1 kV1 dc1 pm1 cd1 ct1 : Value} (a1 : PySem.W.nsIn K mainGlobals "is_whole" = some (some (.ref f1)))
    (l1 : K.lookup f1 = some ⟨oc1, od1, .func (PySem.W.fnOf "is_whole" "is_whole" (defArgs sWhole) (defBody sWhole) (defScope sWhole) .none kV1 dc1 pm1 an1 cd1 ct1), sl1⟩) (c1 : PySem.W.codeIn K cd1 "is_whole" = true) (k1 : PySem.W.keepIn K (.ref f1) = true)
    {f2 : Addr} {od2 an2 : Option Addr} {sl2 : Array (Option Value)} {oc2 kV2 dc2 pm2 cd2 ct2 : Value} (a2 : PySem.W.nsIn K mainGlobals "is_unknown" = some (some (.ref f2)))
    (l2 : K.lookup f2 = some ⟨oc2, od2, .func (PySem.W.fnOf "is_unknown" "is_unknown" (defArgs sIsUnk) (defBody sIsUnk) (defScope sIsUnk) .none kV2 dc2 pm2 an2 cd2 ct2), sl2⟩) (c2 : PySem.W.codeIn K cd2 "is_unknown" = true) (k2 : PySem.W.keepIn K (.ref f2) = true)
    {f3 : Addr} {od3 an3 : Option Addr} {sl3 : Array (Option Value)} {oc3 kV3 dc3 pm3 cd3 ct3 : Value} (a3 : PySem.W.nsIn K mainGlobals "is_pair" = some (some (.ref f3)))
    (l3 : K.lookup f3 = some ⟨oc3, od3, .func (PySem.W.fnOf "is_pair" "is_pair" (defArgs sIsPair) (defBody sIsPair) (defScope sIsPair) .none kV3 dc3 pm3 an3 cd3 ct3), sl3⟩) (c3 : PySem.W.codeIn K cd3 "is_pair" = true) (k3 : PySem.W.keepIn K (.ref f3) = true)
    {f4 : Addr} {od4 an4 : Option Addr} {sl4 : Array (Option Value)} {oc4 kV4 dc4 pm4 cd4 ct4 : Value} (a4 : PySem.W.nsIn K mainGlobals "unknowns_of" = some (some (.ref f4)))
    (l4 : K.lookup f4 = some ⟨oc4, od4, .func (PySem.W.fnOf "unknowns_of" "unknowns_of" (defArgs sOf) (defBody sOf) (defScope sOf) .none kV4 dc4 pm4 an4 cd4 ct4), sl4⟩) (c4 : PySem.W.codeIn K cd4 "unknowns_of" = true) (k4 : PySem.W.keepIn K (.ref f4) = true)
    {f5 : Addr} {od5 an5 : Option Addr} {sl5 : Array (Option Value)} {oc5 kV5 dc5 pm5 cd5 ct5 : Value} (a5 : PySem.W.nsIn K mainGlobals "renamed" = some (some (.ref f5)))
    (l5 : K.lookup f5 = some ⟨oc5, od5, .func (PySem.W.fnOf "renamed" "renamed" (defArgs sRenamed) (defBody sRenamed) (defScope sRenamed) .none kV5 dc5 pm5 an5 cd5 ct5), sl5⟩) (c5 : PySem.W.codeIn K cd5 "renamed" = true) (k5 : PySem.W.keepIn K (.ref f5) = true)
    {f6 : Addr} {od6 an6 : Option Addr} {sl6 : Array (Option Value)} {oc6 kV6 dc6 pm6 cd6 ct6 : Value} (a6 : PySem.W.nsIn K mainGlobals "with_numbers" = some (some (.ref f6)))
    (l6 : K.lookup f6 = some ⟨oc6, od6, .func (PySem.W.fnOf "with_numbers" "with_numbers" (defArgs sNum) (defBody sNum) (defScope sNum) .none kV6 dc6 pm6 an6 cd6 ct6), sl6⟩) (c6 : PySem.W.codeIn K cd6 "with_numbers" = true) (k6 : PySem.W.keepIn K (.ref f6) = true)
    {f7 : Addr} {od7 an7 : Option Addr} {sl7 : Array (Option Value)} {oc7 kV7 dc7 pm7 cd7 ct7 : Value} (a7 : PySem.W.nsIn K mainGlobals "parted" = some (some (.ref f7)))
    (l7 : K.lookup f7 = some ⟨oc7, od7, .func (PySem.W.fnOf "parted" "parted" (defArgs sParted) (defBody sParted) (defScope sParted) .none kV7 dc7 pm7 an7 cd7 ct7), sl7⟩) (c7 : PySem.W.codeIn K cd7 "parted" = true) (k7 : PySem.W.keepIn K (.ref f7) = true)
    {f8 : Addr} {od8 an8 : Option Addr} {sl8 : Array (Option Value)} {oc8 kV8 dc8 pm8 cd8 ct8 : Value} (a8 : PySem.W.nsIn K mainGlobals "joined" = some (some (.ref f8)))
    (l8 : K.lookup f8 = some ⟨oc8, od8, .func (PySem.W.fnOf "joined" "joined" (defArgs sJoined) (defBody sJoined) (defScope sJoined) .none kV8 dc8 pm8 an8 cd8 ct8), sl8⟩) (c8 : PySem.W.codeIn K cd8 "joined" = true) (k8 : PySem.W.keepIn K (.ref f8) = true)
    {f9 : Addr} {od9 an9 : Option Addr} {sl9 : Array (Option Value)} {oc9 kV9 dc9 pm9 cd9 ct9 : Value} (a9 : PySem.W.nsIn K mainGlobals "_law_deck" = some (some (.ref f9)))
    (l9 : K.lookup f9 = some ⟨oc9, od9, .func (PySem.W.fnOf "_law_deck" "_law_deck" (defArgs sDeck) (defBody sDeck) (defScope sDeck) .none kV9 dc9 pm9 an9 cd9 ct9), sl9⟩) (c9 : PySem.W.codeIn K cd9 "_law_deck" = true) (k9 : PySem.W.keepIn K (.ref f9) = true)
    {f10 : Addr} {od10 an10 : Option Addr} {sl10 : Array (Option Value)} {oc10 kV10 dc10 pm10 cd10 ct10 : Value} (a10 : PySem.W.nsIn K mainGlobals "_law_draw" = some (some (.ref f10)))
    (l10 : K.lookup f10 = some ⟨oc10, od10, .func (PySem.W.fnOf "_law_draw" "_law_draw" (defArgs sDraw) (defBody sDraw) (defScope sDraw) .none kV10 dc10 pm10 an10 cd10 ct10), sl10⟩) (c10 : PySem.W.codeIn K cd10 "_law_draw" = true) (k10 : PySem.W.keepIn K (.ref f10) = true)
    {f11 : Addr} {od11 an11 : Option Addr} {sl11 : Array (Option Value)} {oc11 kV11 dc11 pm11 cd11 ct11 : Value} (a11 : PySem.W.nsIn K mainGlobals "_law_names" = some (some (.ref f11)))
    (l11 : K.lookup f11 = some ⟨oc11, od11, .func (PySem.W.fnOf "_law_names" "_law_names" (defArgs sNames) (defBody sNames) (defScope sNames) .none kV11 dc11 pm11 an11 cd11 ct11), sl11⟩) (c11 : PySem.W.codeIn K cd11 "_law_names" = true) (k11 : PySem.W.keepIn K (.ref f11) = true)
    {f12 : Addr} {od12 an12 : Option Addr} {sl12 : Array (Option Value)} {oc12 kV12 dc12 pm12 cd12 ct12 : Value} (a12 : PySem.W.nsIn K mainGlobals "_law_number" = some (some (.ref f12)))
    (l12 : K.lookup f12 = some ⟨oc12, od12, .func (PySem.W.fnOf "_law_number" "_law_number" (defArgs sNumber) (defBody sNumber) (defScope sNumber) .none kV12 dc12 pm12 an12 cd12 ct12), sl12⟩) (c12 : PySem.W.codeIn K cd12 "_law_number" = true) (k12 : PySem.W.keepIn K (.ref f12) = true)
    {f13 : Addr} {od13 an13 : Option Addr} {sl13 : Array (Option Value)} {oc13 kV13 dc13 pm13 cd13 ct13 : Value} (a13 : PySem.W.nsIn K mainGlobals "_law_tip" = some (some (.ref f13)))
    (l13 : K.lookup f13 = some ⟨oc13, od13, .func (PySem.W.fnOf "_law_tip" "_law_tip" (defArgs sTip) (defBody sTip) (defScope sTip) .none kV13 dc13 pm13 an13 cd13 ct13), sl13⟩) (c13 : PySem.W.codeIn K cd13 "_law_tip" = true) (k13 : PySem.W.keepIn K (.ref f13) = true)
    {f14 : Addr} {od14 an14 : Option Addr} {sl14 : Array (Option Value)} {oc14 kV14 dc14 pm14 cd14 ct14 : Value} (a14 : PySem.W.nsIn K mainGlobals "_law_term" = some (some (.ref f14)))
    (l14 : K.lookup f14 = some ⟨oc14, od14, .func (PySem.W.fnOf "_law_term" "_law_term" (defArgs sTerm) (defBody sTerm) (defScope sTerm) .none kV14 dc14 pm14 an14 cd14 ct14), sl14⟩) (c14 : PySem.W.codeIn K cd14 "_law_term" = true) (k14 : PySem.W.keepIn K (.ref f14) = true)
    {f15 : Addr} {od15 an15 : Option Addr} {sl15 : Array (Option Value)} {oc15 kV15 dc15 pm15 cd15 ct15 : Value} (a15 : PySem.W.nsIn K mainGlobals "_law_any_term" = some (some (.ref f15)))
    (l15 : K.lookup f15 = some ⟨oc15, od15, .func (PySem.W.fnOf "_law_any_term" "_law_any_term" (defArgs sAny) (defBody sAny) (defScope sAny) .none kV15 dc15 pm15 an15 cd15 ct15), sl15⟩) (c15 : PySem.W.codeIn K cd15 "_law_any_term" = true) (k15 : PySem.W.keepIn K (.ref f15) = true)
    {f16 : Addr} {od16 an16 : Option Addr} {sl16 : Array (Option Value)} {oc16 kV16 dc16 pm16 cd16 ct16 : Value} (a16 : PySem.W.nsIn K mainGlobals "_law_unknowns" = some (some (.ref f16)))
    (l16 : K.lookup f16 = some ⟨oc16, od16, .func (PySem.W.fnOf "_law_unknowns" "_law_unknowns" (defArgs sUnks) (defBody sUnks) (defScope sUnks) .none kV16 dc16 pm16 an16 cd16 ct16), sl16⟩) (c16 : PySem.W.codeIn K cd16 "_law_unknowns" = true) (k16 : PySem.W.keepIn K (.ref f16) = true)
    {f17 : Addr} {od17 an17 : Option Addr} {sl17 : Array (Option Value)} {oc17 kV17 dc17 pm17 cd17 ct17 : Value} (a17 : PySem.W.nsIn K mainGlobals "_law_numbered" = some (some (.ref f17)))
    (l17 : K.lookup f17 = some ⟨oc17, od17, .func (PySem.W.fnOf "_law_numbered" "_law_numbered" (defArgs sNumd) (defBody sNumd) (defScope sNumd) .none kV17 dc17 pm17 an17 cd17 ct17), sl17⟩) (c17 : PySem.W.codeIn K cd17 "_law_numbered" = true) (k17 : PySem.W.keepIn K (.ref f17) = true)
    {f18 : Addr} {od18 an18 : Option Addr} {sl18 : Array (Option Value)} {oc18 kV18 dc18 pm18 cd18 ct18 : Value} (a18 : PySem.W.nsIn K mainGlobals "_law_due" = some (some (.ref f18)))
    (l18 : K.lookup f18 = some ⟨oc18, od18, .func (PySem.W.fnOf "_law_due" "_law_due" (defArgs sDue) (defBody sDue) (defScope sDue) .none kV18 dc18 pm18 an18 cd18 ct18), sl18⟩) (c18 : PySem.W.codeIn K cd18 "_law_due" = true) (k18 : PySem.W.keepIn K (.ref f18) = true)
    {f19 : Addr} {od19 an19 : Option Addr} {sl19 : Array (Option Value)} {oc19 kV19 dc19 pm19 cd19 ct19 : Value} (a19 : PySem.W.nsIn K mainGlobals "law" = some (some (.ref f19)))
    (l19 : K.lookup f19 = some ⟨oc19, od19, .func (PySem.W.fnOf "law" "law" (defArgs sLaw) (defBody sLaw) (defScope sLaw) .none kV19 dc19 pm19 an19 cd19 ct19), sl19⟩) (c19 : PySem.W.codeIn K cd19 "law" = true) (k19 : PySem.W.keepIn K (.ref f19) = true)
    (z1 : PySem.W.nsIn K mainGlobals "isinstance" = some none)
    (z2 : PySem.W.nsIn K mainGlobals "int" = some none)
    (z3 : PySem.W.nsIn K mainGlobals "bool" = some none)
    (z4 : PySem.W.nsIn K mainGlobals "tuple" = some none)
    (z5 : PySem.W.nsIn K mainGlobals "len" = some none)
    (z6 : PySem.W.nsIn K mainGlobals "list" = some none)
    (z7 : PySem.W.nsIn K mainGlobals "reversed" = some none)
    (z8 : PySem.W.nsIn K mainGlobals "sum" = some none)
    (z9 : PySem.W.nsIn K mainGlobals "range" = some none)
    (z10 : PySem.W.nsIn K mainGlobals "repr" = some none)
    (z11 : PySem.W.nsIn K mainGlobals "enumerate" = some none) :
    ∃ fd : FuncData, (∀ (s : Shared) (v : Value), BindsTo s fd ⟨[v], []⟩ [("_law_script", v)]) ∧ ∀ base : Heap, K.In base → base.Ns mainGlobals mg → GOk l.prog w K mg base 72 fa fd ["_law_script"] (spLaw K) := by
  cases hfa.symm.trans (PySem.W.mg_of X G a19)
  have F1 := fun_mk (st := sWhole) l1 c1 k1
  have b1 := F1.binds (ps := ["thing"]) fun _ _ _ _ _ _ us hl => match us, hl with | [_], _ => rfl
  have g1 := PySem.W.mg_of X G a1
  have F2 := fun_mk (st := sIsUnk) l2 c2 k2
  have b2 := F2.binds (ps := ["thing"]) fun _ _ _ _ _ _ us hl => match us, hl with | [_], _ => rfl
  have g2 := PySem.W.mg_of X G a2
  have F3 := fun_mk (st := sIsPair) l3 c3 k3
  have b3 := F3.binds (ps := ["thing"]) fun _ _ _ _ _ _ us hl => match us, hl with | [_], _ => rfl
  have g3 := PySem.W.mg_of X G a3
  have F4 := fun_mk (st := sOf) l4 c4 k4
  have b4 := F4.binds (ps := ["terms"]) fun _ _ _ _ _ _ us hl => match us, hl with | [_], _ => rfl
  have g4 := PySem.W.mg_of X G a4
  have F5 := fun_mk (st := sRenamed) l5 c5 k5
  have b5 := F5.binds (ps := ["terms"]) fun _ _ _ _ _ _ us hl => match us, hl with | [_], _ => rfl
  have g5 := PySem.W.mg_of X G a5
  have F6 := fun_mk (st := sNum) l6 c6 k6
  have b6 := F6.binds (ps := ["term", "numbers"]) fun _ _ _ _ _ _ us hl => match us, hl with | [_, _], _ => rfl
  have g6 := PySem.W.mg_of X G a6
  have F7 := fun_mk (st := sParted) l7 c7 k7
  have b7 := F7.binds (ps := ["term"]) fun _ _ _ _ _ _ us hl => match us, hl with | [_], _ => rfl
  have g7 := PySem.W.mg_of X G a7
  have F8 := fun_mk (st := sJoined) l8 c8 k8
  have b8 := F8.binds (ps := ["heads", "end"]) fun _ _ _ _ _ _ us hl => match us, hl with | [_, _], _ => rfl
  have g8 := PySem.W.mg_of X G a8
  have F9 := fun_mk (st := sDeck) l9 c9 k9
  have b9 := F9.binds (ps := ["_law_script"]) fun _ _ _ _ _ _ us hl => match us, hl with | [_], _ => rfl
  have g9 := PySem.W.mg_of X G a9
  have F10 := fun_mk (st := sDraw) l10 c10 k10
  have b10 := F10.binds (ps := ["_law_deck_here", "_law_many"]) fun _ _ _ _ _ _ us hl => match us, hl with | [_, _], _ => rfl
  have g10 := PySem.W.mg_of X G a10
  have F11 := fun_mk (st := sNames) l11 c11 k11
  have b11 := F11.binds (ps := ["_law_deck_here", "_law_many"]) fun _ _ _ _ _ _ us hl => match us, hl with | [_, _], _ => rfl
  have g11 := PySem.W.mg_of X G a11
  have F12 := fun_mk (st := sNumber) l12 c12 k12
  have b12 := F12.binds (ps := ["_law_deck_here"]) fun _ _ _ _ _ _ us hl => match us, hl with | [_], _ => rfl
  have g12 := PySem.W.mg_of X G a12
  have F13 := fun_mk (st := sTip) l13 c13 k13
  have b13 := F13.binds (ps := ["_law_deck_here", "_law_words", "_law_unknowns_here"]) fun _ _ _ _ _ _ us hl => match us, hl with | [_, _, _], _ => rfl
  have g13 := PySem.W.mg_of X G a13
  have F14 := fun_mk (st := sTerm) l14 c14 k14
  have b14 := F14.binds (ps := ["_law_deck_here", "_law_words", "_law_unknowns_here", "_law_deep", "_law_left"]) fun _ _ _ _ _ _ us hl => match us, hl with | [_, _, _, _, _], _ => rfl
  have g14 := PySem.W.mg_of X G a14
  have F15 := fun_mk (st := sAny) l15 c15 k15
  have b15 := F15.binds (ps := ["_law_deck_here", "_law_words", "_law_unknowns_here"]) fun _ _ _ _ _ _ us hl => match us, hl with | [_, _, _], _ => rfl
  have g15 := PySem.W.mg_of X G a15
  have F16 := fun_mk (st := sUnks) l16 c16 k16
  have b16 := F16.binds (ps := ["_law_term_here"]) fun _ _ _ _ _ _ us hl => match us, hl with | [_], _ => rfl
  have g16 := PySem.W.mg_of X G a16
  have F17 := fun_mk (st := sNumd) l17 c17 k17
  have b17 := F17.binds (ps := ["_law_term_here", "_law_numbers"]) fun _ _ _ _ _ _ us hl => match us, hl with | [_, _], _ => rfl
  have g17 := PySem.W.mg_of X G a17
  have F18 := fun_mk (st := sDue) l18 c18 k18
  have b18 := F18.binds (ps := ["_law_terms"]) fun _ _ _ _ _ _ us hl => match us, hl with | [_], _ => rfl
  have g18 := PySem.W.mg_of X G a18
  have F19 := fun_mk (st := sLaw) l19 c19 k19
  have g19 := PySem.W.mg_of X G a19
  have m1 := PySem.W.mg_none_of X G z1
  have m2 := PySem.W.mg_none_of X G z2
  have m3 := PySem.W.mg_none_of X G z3
  have m4 := PySem.W.mg_none_of X G z4
  have m5 := PySem.W.mg_none_of X G z5
  have m6 := PySem.W.mg_none_of X G z6
  have m7 := PySem.W.mg_none_of X G z7
  have m8 := PySem.W.mg_none_of X G z8
  have m9 := PySem.W.mg_none_of X G z9
  have m10 := PySem.W.mg_none_of X G z10
  have m11 := PySem.W.mg_none_of X G z11
  refine ⟨PySem.W.fnOf "law" "law" (defArgs sLaw) (defBody sLaw) (defScope sLaw) .none kV19 dc19 pm19 an19 cd19 ct19, fun s v => .of_eq rfl, fun base _ _ => ?_⟩
  have hU : FnOk l.prog w K mg base CX0 2 f2 _ ["thing"] spIsUnk := ok_isunk (k := 0) F2 F1 b1 g1 m1 m2 m3 m4 m5
  have hP : FnOk l.prog w K mg base CX0 1 f3 _ ["thing"] spIsPair := ok_ispair (k := 0) F3 m1 m4 m5
  have hO : FnOk l.prog w K mg base CX0 3 f4 _ ["terms"] (spOf K) := ok_of (k := 0) F4 hU b2 g2 F2.kp (hP.mono (by decide)) b3 g3 F3.kp m6 m7 m4
  have hPt : FnOk l.prog w K mg base CX0 2 f7 _ ["term"] spParted := ok_parted (k := 0) F7 hP b3 g3 F3.kp
  have hJ : FnOk l.prog w K mg base CX0 1 f8 _ ["heads", "end"] (spJoined K) := ok_joined (k := 0) F8 m7
  have hNm : FnOk l.prog w K mg base CX0 67 f6 _ psNum (spNum 64) := ok_num (k := 0) F6 hPt b7 g7 F7.kp hU b2 g2 F2.kp (hJ.mono (by decide)) b8 g8 F8.kp b6 g6 64
  have hRn : FnOk l.prog w K mg base CX0 70 f5 _ ["terms"] (spRenamed K) := ok_renamed (k := 68) F5 (hO.mono (by decide)) b4 g4 F4.kp (hNm.mono (by decide)) b6 g6 F6.kp m11 m4
  have hDk : FnOk l.prog w K mg base CX0 1 f9 _ ["_law_script"] (spDeck K) := ok_deck (k := 0) F9 m6 m8
  have hD : FnOk l.prog w K mg base CX0 1 f10 _ ["_law_deck_here", "_law_many"] spDraw := ok_draw (k := 0) F10
  have hN : FnOk l.prog w K mg base CX0 2 f11 _ ["_law_deck_here", "_law_many"] spNames := ok_names (k := 0) F11 hD b10 g10 F10.kp m9
  have hNu : FnOk l.prog w K mg base CX0 2 f12 _ ["_law_deck_here"] spNumber := ok_number (k := 0) F12 hD b10 g10 F10.kp
  have hT : FnOk l.prog w K mg base CX0 3 f13 _ ["_law_deck_here", "_law_words", "_law_unknowns_here"] spTip := ok_tip (k := 0) F13 hD b10 g10 F10.kp hNu b12 g12 F12.kp m5
  have hR : ∀ n, FnOk l.prog w K mg base CX0 (0 + 4 + n) f14 _ psTerm (spTerm n) := ok_term (k := 0) F14 hD b10 g10 F10.kp hT b13 g13 F13.kp m2 b14 g14
  have hA : FnOk l.prog w K mg base CX0 34 f15 _ ["_law_deck_here", "_law_words", "_law_unknowns_here"] spAny := ok_any (k := 0) F15 hD b10 g10 F10.kp hT b13 g13 F13.kp hR b14 g14 F14.kp m9
  have hUk : FnOk l.prog w K mg base CX0 63 f16 _ ["_law_term_here"] (spUnks 62) := ok_unks (k := 0) F16 m1 m4 b16 g16 62
  have hNd : FnOk l.prog w K mg base CX0 65 f17 _ psNumd (spNum 64) := ok_numd (k := 0) F17 m1 m4 b17 g17 64
  have hDu : FnOk l.prog w K mg base CX0 70 f18 _ ["_law_terms"] (spDue K) := ok_due (k := 68) F18 (hUk.mono (by decide)) b16 g16 F16.kp (hNd.mono (by decide)) b17 g17 F17.kp m5 m4
  exact ok_law F19 (hDk.mono (by decide)) b9 g9 F9.kp (hN.mono (by decide)) b11 g11 F11.kp (hD.mono (by decide)) b10 g10 F10.kp (hA.mono (by decide)) b15 g15 F15.kp (hDu.mono (by decide)) b18 g18 F18.kp (hRn.mono (by decide)) b5 g5 F5.kp
    (hNd.mono (by decide)) b17 g17 F17.kp m9 m2 m4 m10 m11
end Ksec
open PySem PySem.W PyProof.Rows
set_option Elab.async false
set_option maxRecDepth 100000 in
set_option maxHeartbeats 0 in
theorem PySem.Challenge.cw_fairsearch_k03_renamed_holds : PySem.Challenge.rw_fairsearch_k03_renamed.Holds := by
  w_on; o_law; k_head; (case hw => w_witness2)
  k_fill
  refine Ksec.gwalk (l := PySem.Challenge.rw_fairsearch_k03_renamed) (n := 63) (k := 72) (x := "_law_script") (sp := Ksec.spLaw) rfl (by decide) rfl ⟨rfl, by decide, by decide⟩ (fun w h Y => PySem.W.kIn_of Y) ?F (fun _ _ a ns _ hS => ⟨a, ns, rfl, hS, fun _ => rfl⟩)
  case F =>
    intro w mg fa h KX G hmg
    refine' Ksec.all_mk KX G hmg ?a1 ?l1 ?c1 ?k1 ?a2 ?l2 ?c2 ?k2 ?a3 ?l3 ?c3 ?k3 ?a4 ?l4 ?c4 ?k4 ?a5 ?l5 ?c5 ?k5 ?a6 ?l6 ?c6 ?k6 ?a7 ?l7 ?c7 ?k7 ?a8 ?l8 ?c8 ?k8 ?a9 ?l9 ?c9 ?k9 ?a10 ?l10 ?c10 ?k10 ?a11 ?l11 ?c11 ?k11 ?a12 ?l12 ?c12 ?k12 ?a13 ?l13 ?c13 ?k13 ?a14 ?l14 ?c14 ?k14 ?a15 ?l15 ?c15 ?k15 ?a16 ?l16 ?c16 ?k16 ?a17 ?l17 ?c17 ?k17 ?a18 ?l18 ?c18 ?k18 ?a19 ?l19 ?c19 ?k19 ?z1 ?z2 ?z3 ?z4 ?z5 ?z6 ?z7 ?z8 ?z9 ?z10 ?z11
    (case a1 => k_is)
    (case l1 => k_is)
    (case c1 => k_is)
    (case k1 => k_is)
    (case a2 => k_is)
    (case l2 => k_is)
    (case c2 => k_is)
    (case k2 => k_is)
    (case a3 => k_is)
    (case l3 => k_is)
    (case c3 => k_is)
    (case k3 => k_is)
    (case a4 => k_is)
    (case l4 => k_is)
    (case c4 => k_is)
    (case k4 => k_is)
    (case a5 => k_is)
    (case l5 => k_is)
    (case c5 => k_is)
    (case k5 => k_is)
    (case a6 => k_is)
    (case l6 => k_is)
    (case c6 => k_is)
    (case k6 => k_is)
    (case a7 => k_is)
    (case l7 => k_is)
    (case c7 => k_is)
    (case k7 => k_is)
    (case a8 => k_is)
    (case l8 => k_is)
    (case c8 => k_is)
    (case k8 => k_is)
    (case a9 => k_is)
    (case l9 => k_is)
    (case c9 => k_is)
    (case k9 => k_is)
    (case a10 => k_is)
    (case l10 => k_is)
    (case c10 => k_is)
    (case k10 => k_is)
    (case a11 => k_is)
    (case l11 => k_is)
    (case c11 => k_is)
    (case k11 => k_is)
    (case a12 => k_is)
    (case l12 => k_is)
    (case c12 => k_is)
    (case k12 => k_is)
    (case a13 => k_is)
    (case l13 => k_is)
    (case c13 => k_is)
    (case k13 => k_is)
    (case a14 => k_is)
    (case l14 => k_is)
    (case c14 => k_is)
    (case k14 => k_is)
    (case a15 => k_is)
    (case l15 => k_is)
    (case c15 => k_is)
    (case k15 => k_is)
    (case a16 => k_is)
    (case l16 => k_is)
    (case c16 => k_is)
    (case k16 => k_is)
    (case a17 => k_is)
    (case l17 => k_is)
    (case c17 => k_is)
    (case k17 => k_is)
    (case a18 => k_is)
    (case l18 => k_is)
    (case c18 => k_is)
    (case k18 => k_is)
    (case a19 => k_is)
    (case l19 => k_is)
    (case c19 => k_is)
    (case k19 => k_is)
    (case z1 => k_is)
    (case z2 => k_is)
    (case z3 => k_is)
    (case z4 => k_is)
    (case z5 => k_is)
    (case z6 => k_is)
    (case z7 => k_is)
    (case z8 => k_is)
    (case z9 => k_is)
    (case z10 => k_is)
    (case z11 => k_is)
#print axioms PySem.Challenge.cw_fairsearch_k03_renamed_holds
