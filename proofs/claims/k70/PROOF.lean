import PyProof.Rows.All
import Wide.All
import OpenK.AllK
import Wide.FinOn
import HandS.ForMost
import HandS.ExcInit
import HandS.ExcIs
import HandS.ExcOwn
import HandS.ExcValue
import HandS.ExcCtx
import HandS.ExcField
import KE.KExcInit
import KE.KExcIs
import HandS.MakeKwOnly
import HandS.Wide
import HandS.Codes
import HandS.Star
import HandS.Property
import HandS.OwnIter
import HandS.IterVal
import HandS.IterNext
import HandS.Defaults
import HandS.Nested
import HandS.Lambda
import HandS.Finally
import PySem.Challenge.RW_trackedreads_k70_ladders_of_answers
import HandS.IsInst
import HandS.WordsExc
import HandS.SetKeys
import HandS.Walk
import HandS.Ends
import HandS.EndTab
set_option Elab.async false
set_option linter.all false
set_option maxRecDepth 100000
set_option maxHeartbeats 4000000
/-! X1: exceptions of own classes over ValueError or RuntimeError: their fields, as values. -/
namespace My
open PySem PySem.Spec PyProof.Rows L2
/-- what the written part says of an own exception class -/
structure XC (K : PySem.W.Frag) (C : Addr) : Prop where
  mks : ∃ (B newId initId : String) (bmB : List Value), ExcBaseFacts B newId initId bmB ∧ PySem.W.excInitIn K C bmB newId = true ∧ ∀ self : Value, refuseLoop self "__setattr__" bmB = pure ()
  sa : PySem.W.findIn K (.ref C) "__setattr__" = some (some (.builtin "object.__setattr__"))
  ty : PySem.W.typeIn K (.ref C) = some (.type "type")
  kC : PySem.W.keepIn K (.ref C) = true
  is : ExcC K C
theorem pass_tail {bmB : List Value} (hp : ∀ self : Value, refuseLoop self "__setattr__" bmB = pure ()) (self : Value) : ∀ l : List Value, PySem.W.excTail bmB l = true → refuseLoop self "__setattr__" l = pure ()
  | [], e => by
    rcases PySem.W.excTail_cases [] e with ⟨c, r, q, _⟩ | q
    · cases q
    · rw [q]; exact hp self
  | a :: r, e => by
    rcases PySem.W.excTail_cases (a :: r) e with ⟨c, r', q, h⟩ | q
    · cases q
      rw [refuseLoop_ref]
      exact pass_tail hp self r h
    · rw [q]; exact hp self
theorem XC.cd {K : PySem.W.Frag} {C : Addr} (T : XC K C) : ∃ cd : ClassData, PySem.W.clsIn K C = some cd ∧ cd.hasDict = true ∧ ∀ self : Value, refuseLoop self "__setattr__" cd.mro = pure () := by
  obtain ⟨B, newId, initId, bmB, F, hI, hp⟩ := T.mks
  obtain ⟨cd, hc, hd⟩ := PySem.W.any_some T.is.hd
  refine ⟨cd, hc, hd, fun self => ?_⟩
  unfold PySem.W.excInitIn at hI
  split at hI
  · rename_i dd cd' sl ho
    have hc' : PySem.W.clsIn K C = some cd' := by unfold PySem.W.clsIn; rw [ho]
    rw [hc'] at hc
    cases hc
    split at hI
    · rename_i C' bm k0 k1 k2 k3 n k5 hm hs
      simp only [Bool.and_eq_true, beq_iff_eq, Bool.not_eq_true'] at hI
      rw [hm, refuseLoop_ref]
      exact pass_tail hp self bm hI.2
    · cases hI
  · cases hI

/-! ### a field stored -/
section
open Builtin Builtin.ObjectAttr
variable {prog : Program} {w : World} {A : Around} {R : Result → Shared → Prop} {hp : Heap} {g : Array GenState} {d : Drawn} {t : Nat} {os : OsState} {K : PySem.W.Frag} {nm : Str} {tk : Tok} {v : Value} {x C dx : Addr} {fv : Array Value}
/-- object.__setattr__ up to the store in the own dict -/
theorem xs_walk {ox : Obj} {od : Option Obj} {cd : ClassData} (Y : K.In hp) (I : PySem.W.InstAt hp x ox C od) (T : XC K C) (hcd : PySem.W.clsIn K C = some cd) (hps : ∀ self : Value, refuseLoop self "__setattr__" cd.mro = pure ())
    (hno : PySem.W.findIn K (.ref C) nm = some none)
    (hq : wpAny (model prog w) A.in1 (storeInOwnDict (.ref x) (.ref C) (.str nm tk) nm v false) (fun fin s' => match fin with | .done f => R (.ok f) s' | .again c' => c'.quiet = true ∧ codeAny (model prog w) A c' R s') (fun e s' => R (.error e) s') ⟨hp, g, d, t, os⟩) :
    codeAny (model prog w) A (.call (.builtin "object.__setattr__") ⟨[.ref x, .str nm tk, v], []⟩) R ⟨hp, g, d, t, os⟩ := by
  have S0 := F.store_object; have isO : PySem.W.Looks (model prog w) hp (isInstance (.ref x) (.type "object")) true := I.type.andThen (PySem.W.looks_mroIn Y T.is.hm)
  refine codeAny_call_builtin S0.slot.plain S0.entry (@PySem.W.check_slot (model prog w) _ _ ⟨hp, g, d, t, os⟩ "object.__setattr__" "object" "__setattr__" (.ref x) [.str nm tk, v] [] _ S0.kind S0.split isO (S0.args _ _ _) ?_)
  have lm : PySem.W.Looks (model prog w) hp (mroOf (.ref C)) cd.mro := (PySem.W.looks_clsIn Y hcd).andThen .now
  have l3 : PySem.W.Looks (model prog w) hp (storeTaker? none) none := .now
  rw [PySem.W.osa_eq, refuse_eq]
  refine wpAny_bind (wpAny_bind (I.type.at (wpAny_bind (lm.at ?_)))); rw [hps]
  exact wpAny_pure (wpAny_bind (I.type.at (wpAny_bind ((PySem.W.looks_findIn Y hno).at (wpAny_bind (l3.at hq))))))
theorem xs_new (Y : K.In hp) (T : XC K C) (hx : hp.get? x = some { cls := .ref C, data := .fields fv }) (hno : PySem.W.findIn K (.ref C) nm = some none)
    (hq : ∀ h' tk' dx, (∀ b o, b ≠ x → hp.get? b = some o → h'.get? b = some o) → hp.objs.size ≤ dx → dx ≠ x → h'.get? x = some { cls := .ref C, dict := some dx, data := .fields fv } → h'.Ns1 dx (fun y => if y = nm then some v else none) → R (.ok (.ret .none)) ⟨h', g, d, tk', os⟩) :
    codeAny (model prog w) A (.call (.builtin "object.__setattr__") ⟨[.ref x, .str nm tk, v], []⟩) R ⟨hp, g, d, t, os⟩ := by
  obtain ⟨cd, hcd, hhd, hps⟩ := T.cd
  have hxs : x ≠ hp.objs.size := Nat.ne_of_lt (Heap.lt_size hx)
  refine xs_walk (ox := { cls := .ref C, data := .fields fv }) (od := none) Y ⟨hx, rfl, rfl, trivial⟩ T hcd hps hno ?_
  have lc : PySem.W.Looks (model prog w) hp (classData C) cd := PySem.W.looks_clsIn Y hcd
  obtain ⟨n0, bs, mro, ns, qn, hd, sn, sb, ab, col, del⟩ := cd
  dsimp only at hhd; subst hhd
  unfold storeInOwnDict ownDictForStores
  repeat (first | with_reducible refine HandSPX.store_in_new ?_ ?_ | with_reducible refine wpAny_loadPart_at hx ?_ | with_reducible refine lc.at ?_ | wp_step)
  · exact ⟨_, #[], _, (Heap.get?_update_ne _ _ _ _ hxs.symm).trans (Heap.get?_push_at rfl rfl), rfl, fun e he => absurd he (by simp), fun _ => rfl⟩
  · intro h' tk' hn' hs
    have hx1 : (hp.push { cls := .type "dict", data := .dict #[] }).get? x = some { cls := .ref C, data := .fields fv } := Heap.get?_push_of_some _ hx
    exact hq h' tk' hp.objs.size (fun b o hb ho => (hs.2 b (Nat.ne_of_lt (Heap.lt_size ho))).trans ((Heap.get?_update_ne _ _ _ _ hb).trans (Heap.get?_push_of_some _ ho))) (Nat.le_refl _) hxs.symm ((hs.2 x hxs).trans (Heap.get?_update_self _ hx1 rfl)) hn'
theorem xs_old {m0 : Str → Option Value} {nl : List Str} (Y : K.In hp) (T : XC K C) (hx : hp.get? x = some { cls := .ref C, dict := some dx, data := .fields fv }) (hns : hp.Ns1 dx m0) (hw : Within m0 nl) (hz : nl.length ≤ 1000) (hno : PySem.W.findIn K (.ref C) nm = some none)
    (hq : ∀ h' tk', (∀ b o, b ≠ dx → hp.get? b = some o → h'.get? b = some o) → h'.Ns1 dx (fun y => if y = nm then some v else m0 y) → R (.ok (.ret .none)) ⟨h', g, d, tk', os⟩) :
    codeAny (model prog w) A (.call (.builtin "object.__setattr__") ⟨[.ref x, .str nm tk, v], []⟩) R ⟨hp, g, d, t, os⟩ := by
  obtain ⟨cd, hcd, hhd, hps⟩ := T.cd
  obtain ⟨oD, esD, epD, hoD, _, _⟩ := hns.count hw
  refine xs_walk (ox := { cls := .ref C, dict := some dx, data := .fields fv }) (od := some oD) Y ⟨hx, rfl, rfl, hoD⟩ T hcd hps hno ?_
  have lc : PySem.W.Looks (model prog w) hp (classData C) cd := PySem.W.looks_clsIn Y hcd
  obtain ⟨n0, bs, mro, ns, qn, hd, sn, sb, ab, col, del⟩ := cd
  dsimp only at hhd; subst hhd
  unfold storeInOwnDict ownDictForStores
  repeat (first | with_reducible refine OEX.store_in_old hns hw hz ?_ | with_reducible refine wpAny_loadPart_at hx ?_ | with_reducible refine lc.at ?_ | wp_step)
  exact fun h' tk' hn' hs => hq h' tk' (fun b o hb ho => (hs.2 b hb).trans ho) hn'
end
section
variable {X : Cx} {pins : List (Addr × Obj)} {σ : L2.St} {H : Hp} {s : Shared} {a C dx : Addr} {f : Str} {y : V} {u : Value} {fs : List (Str × V)} {Q : Unit → Shared → Prop} {E : Value → Shared → Prop} {A : Around}
theorem xset_new (T : XC X.K C) (I : Inv X pins σ H s) (e : H a = some (exo a C none)) (hno : PySem.W.findIn X.K (.ref C) f = some none) (ry : RelV y u)
    (h : ∀ dx s', H dx = none → dx ≠ a → Inv X pins σ (upd (upd H dx (exd dx [(f, y)])) a (exo a C (some dx))) s' → Q () s') : wpAny (model X.prog X.w) A (setAttr (.ref a) f u) Q E s := by
  obtain ⟨t1, ho⟩ := exo_at I.hok e
  obtain ⟨hp, g, d, t, os⟩ := s
  refine PySem.W.set_plain I.kIn (ox := { cls := .ref C, dict := none, data := .fields #[.ref t1, .none, .none, .none, .bool false, .none] }) (od := none) ⟨ho, rfl, rfl, trivial⟩ T.sa (xs_new I.kIn T ho hno fun h' tk' dx k dn dne hx hn => ?_)
  have hnd : H dx = none := I.hok.fresh dn
  have nd : ∀ {b : Addr} {o : Obj}, hp.get? b = some o → b ≠ dx := fun {b o} q => Nat.ne_of_lt (Nat.lt_of_lt_of_le (Heap.lt_size q) dn)
  have na : ∀ {b : Addr}, H b = none → b ≠ a := fun {b} n z => by rw [z, e] at n; cases n
  have U : Un X.fs [] H (upd (upd H dx (exd dx [(f, y)])) a (exo a C (some dx))) hp h' := ⟨fun b o q n _ _ => k b o (na n) q, fun b o q n _ _ => ⟨o.slots, k b o (na n) q⟩, fun b o q n _ => by rw [upd_ne (na n), upd_ne (nd q)]; exact n,
    fun b o q _ => (Decidable.em (b = a)).elim (fun hb => by subst hb; exact ⟨_, hx⟩) fun hb => ⟨o, k b o hb q⟩, fun b xs q => by rw [upd_ne (at_ne e q exo_tup), upd_ne (ne_of_none q hnd)]; exact q,
    fun b o v q => by rw [upd_ne (at_ne e q exo_frz), upd_ne (ne_of_none q hnd)]; exact q, fun b ps q => ⟨#[], by rw [upd_ne (at_ne e q exo_tbl), upd_ne (ne_of_none q hnd), q]; simp⟩⟩
  refine h dx _ hnd dne (I.un (t' := tk') U fun b o q => ?_)
  by_cases hb : b = a
  · subst hb; rw [upd_same] at q; cases q
    exact exo_ok hx
  · by_cases hd : b = dx
    · subst hd; rw [upd_ne hb, upd_same] at q; cases q
      exact exd_ok hn (relO_put (fs := []) ry fun _ => True.intro)
    · rw [upd_ne hb, upd_ne hd] at q
      exact (I.hok b o q).stay (fun c v hc z => k c v (hc.elim (fun z => by rw [z]; exact hb) fun z => at_ne e z exo_own) z) (fun c hc => by rw [upd_ne (at_ne e hc exo_own), upd_ne (ne_of_none hc hnd)]; exact hc)
        (fun c xs hc => by rw [upd_ne (at_ne e hc exo_tup), upd_ne (ne_of_none hc hnd)]; exact hc)
theorem xset_old (T : XC X.K C) (I : Inv X pins σ H s) (e : H a = some (exo a C (some dx))) (ed : H dx = some (exd dx fs)) (hl : fs.length ≤ 900) (hno : PySem.W.findIn X.K (.ref C) f = some none) (ry : RelV y u)
    (h : ∀ s', Inv X pins σ (upd H dx (exd dx ((f, y) :: fs))) s' → Q () s') : wpAny (model X.prog X.w) A (setAttr (.ref a) f u) Q E s := by
  obtain ⟨t1, ho⟩ := exo_at I.hok e
  obtain ⟨mA, hns, rel⟩ := exd_at I.hok ed
  have hw := within_of rel
  obtain ⟨hp, g, d, t, os⟩ := s
  obtain ⟨oD, _, _, hoD, _, _⟩ := hns.count hw
  refine PySem.W.set_plain I.kIn (ox := { cls := .ref C, dict := some dx, data := .fields #[.ref t1, .none, .none, .none, .bool false, .none] }) (od := some oD) ⟨ho, rfl, rfl, hoD⟩ T.sa (xs_old I.kIn T ho hns hw (by rw [List.length_map]; omega) hno fun h' tk' k hn => ?_)
  have hd : ∃ o, h'.get? dx = some o := let ⟨o, _, _, e', _⟩ := hn; ⟨o, e'⟩
  exact h _ (I.write (t' := tk') (x := dx) (e := dx) (o := exd dx ((f, y) :: fs)) (by rw [ed]; exact True.intro) (.inl rfl) k hd (exd_ok hn (relO_put ry rel)))
end
/-- self.f = e in an own exception's __init__ -/
def tXst (K : PySem.W.Frag) (f : Str) (to te : TE) : TS := fun D σ H => te σ H fun y H1 => to σ H1 fun x H2 => ∃ a C : Addr, x = .ref a ∧ XC K C ∧ PySem.W.findIn K (.ref C) f = some none ∧
  ((H2 a = some (exo a C none) ∧ ∀ dx, H2 dx = none → dx ≠ a → D.nx σ (upd (upd H2 dx (exd dx [(f, y)])) a (exo a C (some dx)))) ∨
    ∃ (dx : Addr) (fs : List (Str × V)), H2 a = some (exo a C (some dx)) ∧ H2 dx = some (exd dx fs) ∧ fs.length ≤ 900 ∧ D.nx σ (upd H2 dx (exd dx ((f, y) :: fs))))
theorem ps_xst {X : Cx} {o e : Expr} {to te : TE} {f : Str} {p' pos : Pos} (ho : PE X o to) (he : PE X e te) (hs : swapsWith e (some (.Attribute o f p')) pos.line X.env = pure false := by rfl) : PS X (.Assign [.Attribute o f p'] e pos) (tXst X.K f to te) := by
  refine ⟨fun pins s σ H D I h => plainObj_wpAny_Assign_Attribute (thn (he.run pins s σ H _ I h) fun v s1 ⟨y, H1, I1, r1, q1⟩ => thn (ho.run pins s1 σ H1 _ I1 q1) fun u s2 ⟨x, H2, I2, r2, a, C, ex, T, hno, q⟩ => ?_) hs⟩
  subst ex
  obtain rfl : u = Value.ref a := r2
  rcases q with ⟨ea, q⟩ | ⟨dx, fs, ea, ed, hl, q⟩
  · exact xset_new T I2 ea hno r1 fun dx s' n ne J => ⟨σ, _, J, q dx n ne⟩
  · exact xset_old T I2 ea ed hl hno r1 fun s' J => ⟨σ, _, J, q⟩
end My

set_option Elab.async false
set_option linter.all false
set_option maxRecDepth 100000
set_option maxHeartbeats 4000000
/-! X2: an own exception class called, with keywords too. -/
namespace PySem.XKw
open PySem.HandSPX
open Builtin Builtin.ObjectAttr
section
variable {M : Model} {prog : Program} {w : World} {A : Around} {E : Value → Shared → Prop} {R : Result → Shared → Prop} {h : Heap} {g : Array GenState} {d : Drawn} {t : Nat} {os : OsState}
variable {nm q : Str} {C N : Addr} {bs bm bmB : List Value} {hdct : Bool} {sn : List Str} {sub : List Value} {ab : Bool} {col : Option Bool} {dd : Option Addr} {k0 k1 k2 k3 k5 : Option Value} {B newId initId : String} {kw : List (Str × Value)}
theorem kw_check_new (F : ExcBaseFacts B newId initId bmB) (hT : ∀ Y : String, bm.contains (.type Y) = bmB.contains (.type Y)) {rest : List Value} {Q : Unit → Shared → Prop}
    (hC : h.get? C = some (excClassObj nm q C N bs bm hdct sn sub ab col dd k0 k1 k2 k3 k5 newId)) (hq : Q () ⟨h, g, d, t, os⟩) : wpAny M A (checkBuiltinCall newId ⟨.ref C :: rest, kw⟩) Q E ⟨h, g, d, t, os⟩ := by
  have hB : (Value.ref C :: bm).contains (.type B) = true := by rw [List.contains_cons, hT, F.hasB, Bool.or_true]
  have hst := F.noStar
  simp only [checkBuiltinCall, F.newKind, F.newSplit, F.newRow]
  repeat (first | refine wpAny_loadPart_at hC ?_ | (refine wpAny_isSubtype_exc hC ?_; rw [hB]) | refine wpAny_staticBase_exc hC ?_ | refine wpAny_madeBy_exc hC ?_ | simp only [bne_self_eq_false, Bool.false_eq_true, if_false] | wp_step)
  first | exact hq | skip
theorem kw_new (F : ExcBaseFacts B newId initId bmB) (hT : ∀ Y : String, bm.contains (.type Y) = bmB.contains (.type Y)) {rest : List Value} (hC : h.get? C = some (excClassObj nm q C N bs bm hdct sn sub ab col dd k0 k1 k2 k3 k5 newId))
    (hq : R (.ok (.ret (.ref (h.objs.size + 1)))) ⟨(h.push { cls := .type "tuple", data := .seq rest.toArray }).push { cls := .ref C, data := .fields #[.ref h.objs.size, .none, .none, .none, .bool false, .none] }, g, d, t, os⟩) (hl : rest.length ≤ sizeLine) :
    codeAny (model prog w) A (.builtin newId ⟨.ref C :: rest, kw⟩) R ⟨h, g, d, t, os⟩ := by
  have hends := F.ends
  have hB : (Value.ref C :: bm).contains (.type B) = true := by rw [List.contains_cons, hT, F.hasB, Bool.or_true]
  have hA : (Value.ref C :: bm).contains (.type "AttributeError") = false := by rw [List.contains_cons, hT, F.noAttr]; rfl
  have hN : (Value.ref C :: bm).contains (.type "NameError") = false := by rw [List.contains_cons, hT, F.noName]; rfl
  refine codeAny_builtinAt F.entry ?_
  unfold Builtin.«BaseException.__new__»
  refine wpAt_bind ?_
  show wpAt _ _ _ (stack >>= _) _ _ _
  refine wpAt_bind (wpAt_stack fun p below => wpAt_of_wpAny ?_)
  wp_walk
  refine wpAt_of_wpAny ?_
  rw [F.owner]
  repeat (first | with_reducible refine wpAny_madeHere_exc F.canon hC ?_ | with_reducible refine wpAny_loadPart_at hC ?_ | (with_reducible refine wpAny_isSubtype_exc hC ?_; first | rw [hB] | rw [hA] | rw [hN]) | wp_step)
  show R _ _
  rw [Heap.size_push]; exact hq
theorem kw_type (F : ExcBaseFacts B newId initId bmB) (hT : ∀ Y : String, bm.contains (.type Y) = bmB.contains (.type Y)) {rest : List Value} {fI : Addr} {Q : Fin → Shared → Prop} (hC : h.get? C = some (excClassObj nm q C N bs bm hdct sn sub ab col dd k0 k1 k2 k3 k5 newId))
    (hi : W.Looks (model prog w) h (typeLookup (.ref C) "__init__") (some (.ref fI))) (hb : ∀ self, W.Looks (model prog w) h (bindSpecial (.ref fI) self) (.ref fI, [self])) (hl : rest.length ≤ sizeLine)
    (hq : codeAny (model prog w) A (.call (.ref fI) ⟨.ref (h.objs.size + 1) :: rest, kw⟩) (fun r s' => match r with | .ok (.ret v) => v = .none ∧ Q (.done (.ret (.ref (h.objs.size + 1)))) s' | .ok _ => False | .error e => E e s') ⟨(h.push (W.kdv_tup rest)).push (excO C h.objs.size), g, d, t, os⟩) :
    wpAny (model prog w) A (Builtin.«type.__call__» ⟨.ref C :: rest, kw⟩) Q E ⟨h, g, d, t, os⟩ := by
  repeat (first | with_reducible refine wpAny_loadPart_at hC ?_ | with_reducible refine wpAny_madeBy_exc hC ?_ | wp_step)
  refine codeAny_call_builtin_code (Code.quiet_builtin _ F.quiet) (kw_check_new F hT hC ?_)
  refine kw_new F hT hC ?_ hl
  show wpAny _ _ _ _ _ _
  have k : ∀ b o, h.get? b = some o → ((h.push (W.kdv_tup rest)).push (excO C h.objs.size)).get? b = some o := fun b o e => Heap.get?_push_of_some _ (Heap.get?_push_of_some _ e)
  have hC1 := k _ _ hC
  have hG : ((h.push (W.kdv_tup rest)).push (excO C h.objs.size)).get? (h.objs.size + 1) = some (excO C h.objs.size) := by heap_get
  have hcC : (Value.ref C :: bm).contains (.ref C) = true := by simp
  have i1 := hi.keeps k; have b1 := (hb (.ref (h.objs.size + 1))).keeps k
  unfold isInstance
  repeat (first | with_reducible refine wpAny_loadPart_at hG ?_ | (with_reducible refine wpAny_isSubtype_exc hC1 ?_; rw [hcC]) | wp_step)
  show wpAny _ _ (typeLookup (.ref C) _) _ _ _
  refine i1.at (wpAny_holding (wpAny_bind (b1.at (wpAny_bind (wpAny_call (codeAny_mono hq fun r s' z => ?_))))))
  rcases r with e | (v | _ | _ | _) <;> first | exact z | exact z.elim | skip
  obtain ⟨rfl, z⟩ := z
  first
    | exact wpAny_pure (wpAny_pure z)
    | (wp_walk; exact z)
theorem kw_check_type {rest : List Value} {Q : Unit → Shared → Prop} (hC : h.get? C = some (excClassObj nm q C N bs bm hdct sn sub ab col dd k0 k1 k2 k3 k5 newId)) (hq : Q () ⟨h, g, d, t, os⟩) :
    wpAny M A (checkBuiltinCall "type.__call__" ⟨.ref C :: rest, kw⟩) Q E ⟨h, g, d, t, os⟩ := by
  have s3 := tc_sub
  have isT : (⟨h, g, d, t, os⟩ : Shared).TypeIs (.ref C) "type" := ⟨_, hC, rfl⟩
  simp only [checkBuiltinCall, tc_kind, tc_split]
  repeat (any_goals (first | assumption | with_reducible refine wpAny_loadPart_at hC ?_ | with_reducible refine wpAny_onRaise ?_ | with_reducible refine wpAny_map ?_ | wp_step))
theorem kw_call (F : ExcBaseFacts B newId initId bmB) (hT : ∀ Y : String, bm.contains (.type Y) = bmB.contains (.type Y)) {rest : List Value} {fI : Addr} (hC : h.get? C = some (excClassObj nm q C N bs bm hdct sn sub ab col dd k0 k1 k2 k3 k5 newId))
    (hi : W.Looks (model prog w) h (typeLookup (.ref C) "__init__") (some (.ref fI))) (hb : ∀ self, W.Looks (model prog w) h (bindSpecial (.ref fI) self) (.ref fI, [self])) (hl : rest.length ≤ sizeLine)
    (hq : codeAny (model prog w) (A.under (.builtin "type.__call__" ⟨.ref C :: rest, kw⟩)) (.call (.ref fI) ⟨.ref (h.objs.size + 1) :: rest, kw⟩) (W.InitBack (h.objs.size + 1) R) ⟨(h.push (W.kdv_tup rest)).push (excO C h.objs.size), g, d, t, os⟩) :
    codeAny (model prog w) A (.call (.ref C) ⟨rest, kw⟩) R ⟨h, g, d, t, os⟩ := by
  have g1 := tc_lookup; have g2 := tc_bind (.ref C)
  have isT : (⟨h, g, d, t, os⟩ : Shared).TypeIs (.ref C) "type" := ⟨_, hC, rfl⟩
  refine codeAny_of_tree ?_
  show wpAny _ _ (callAny (.ref C) _) _ _ _
  repeat (any_goals (first | assumption | with_reducible refine wpAny_loadPart_at hC ?_ | wp_step))
  refine ⟨rfl, ?_⟩
  refine codeAny_call_builtin_at (Code.quiet_builtin _ (by decide +kernel)) entry_typeCall (kw_check_type hC (kw_type F hT hC hi hb hl (codeAny_mono hq fun r s' z => ?_)))
  rcases r with e | (v | _ | _ | _) <;> exact z
end
end PySem.XKw

set_option Elab.async false
set_option linter.all false
set_option maxRecDepth 100000
set_option maxHeartbeats 4000000
/-! X3: own exceptions as values: made, read, asked for their class, kept by an except suite. -/
namespace My
open PySem PySem.Spec PyProof.Rows L2
/-- an exception of the class cls with the dict d stands at a -/
def xv (a : Addr) (cls : Value) (d : Option Addr) : HO := .ext fun h => ∃ (oe : Obj) (vs : Array Value), h.get? a = some oe ∧ Zc cls d oe ∧ oe.data = .fields vs
/-- at dx: an exception's dict -/
inductive XD (H : Hp) (dx : Addr) (fs : List (Str × V)) : Prop where
  | a (e : H dx = some (exd dx fs))
  | b (e : H dx = some (.xd fs))
/-- at a: an exception of the class at C with the dict d -/
inductive XO (H : Hp) (a C : Addr) (d : Option Addr) : Prop where
  | a (e : H a = some (exo a C d))
  | b (e : H a = some (xv a (.ref C) d))
theorem xv_ok {P : Program} {w : World} {H : Hp} {h : Heap} {a : Addr} {cls : Value} {d : Option Addr} {oe : Obj} {vs : Array Value} (e : h.get? a = some oe) (z : Zc cls d oe) (hd : oe.data = .fields vs) : ObjOk P w H h a (xv a cls d) :=
  ⟨⟨oe, vs, e, z, hd⟩, ⟨oe, e⟩, fun _ _ ⟨o, v, q, r⟩ k => ⟨o, v, k o q, r⟩⟩
section
variable {X : Cx} {pins : List (Addr × Obj)} {σ : L2.St} {H : Hp} {s : Shared} {a C dx : Addr} {d : Option Addr} {fs : List (Str × V)}
theorem XO.get (h : XO H a C d) (k : HOk X.prog X.w H s.heap) : ∃ (oe : Obj) (vs : Array Value), s.heap.get? a = some oe ∧ Zc (.ref C) d oe ∧ oe.data = .fields vs := by
  rcases h with e | e
  · obtain ⟨t1, q⟩ := exo_at k e
    exact ⟨_, _, q, ⟨rfl, rfl⟩, rfl⟩
  · have x : ObjOk X.prog X.w H s.heap a (xv a (.ref C) d) := k a _ e
    exact x.1
theorem XD.get (h : XD H dx fs) (k : HOk X.prog X.w H s.heap) : ∃ mA, s.heap.Ns1 dx mA ∧ ∀ f, RelO (fs.lookup f) (mA f) := by
  rcases h with e | e
  · exact exd_at k e
  · have x : ObjOk X.prog X.w H s.heap dx (.xd fs) := k dx _ e
    exact x
end
/-- a dict, if there is one, is tracked -/
def XDo (H : Hp) (d : Option Addr) : Prop := ∀ dx, d = some dx → ∃ fs, XD H dx fs
/-- x.f, x an exception that stands there -/
def tXf (K : PySem.W.Frag) (f : Str) (te : TE) : TE := fun σ H Q => te σ H fun x H1 => ∃ (a C dx : Addr) (fs : List (Str × V)) (v : V), x = .ref a ∧ XO H1 a C (some dx) ∧ XD H1 dx fs ∧ XC K C ∧ PySem.W.findIn K (.ref C) f = some none ∧ fs.lookup f = some v ∧ Q v H1
theorem pe_xget {X : Cx} {e : Expr} {te : TE} {pos : Pos} {f : Str} (he : PE X e te) (hb : attributeBase e f X.env (eval e X.env) = eval e X.env := by rfl) : PE X (.Attribute e f pos) (tXf X.K f te) := by
  refine ⟨fun pins s σ H Q I h => attr_of hb (thn (he.run pins s σ H _ I h) fun u s1 ⟨x, H1, I1, rx, a, C, dx, fs, v, ex, hO, hD, T, hno, l, q⟩ => ?_)⟩
  subst ex
  obtain rfl : u = Value.ref a := rx
  obtain ⟨oe, vs, ha, hz, hdt⟩ := hO.get (X := X) I1.hok
  obtain ⟨mA, hns, hr⟩ := hD.get (X := X) I1.hok
  obtain ⟨od, ho, hl⟩ := lookIn_ns hns
  obtain ⟨u, hu, ru⟩ := RelO.some_of (v := v) (o := mA f) (by rw [← l]; exact hr f)
  have J : PySem.W.InstAt s1.heap a oe C (some od) := ⟨ha, hz.1, by unfold PySem.W.notCls; rw [hdt] <;> rfl, by rw [hz.2]; exact ho⟩
  exact HandSPX.exc_get I1.kIn J T.is.hg T.is.hk T.is.hs (PySem.W.findObj_own T.is.hd hno rfl (by rw [hl, hu])) (handed_of ru) ⟨v, H1, I1.tok _, ru, q⟩
/-- isinstance(x, c), x an exception that stands there -/
def rXis (K : PySem.W.Frag) : List V → Hp → VK → Prop := fun xs H Q => ∃ (a C : Addr) (d : Option Addr) (c : V) (cv : Value) (b : Bool), xs = [.ref a, c] ∧ XO H a C d ∧ XDo H d ∧ XC K C ∧ (∀ u, RelV c u → u = cv) ∧ PySem.W.kitOne K (.ref C) cv = some b ∧ Q (.bl b) H
theorem call_xis {X : Cx} : CallR X (.builtin "isinstance") (rXis X.K) := by
  intro pins s σ H xs us Q I r h
  obtain ⟨a, C, d, c, cv, b, rfl, hO, hD, T, hcv, e, q⟩ := h
  obtain ⟨u1, u2, rfl, r1, r2⟩ := vals2 r
  have ec := hcv _ r2
  subst ec
  obtain rfl : u1 = Value.ref a := r1
  obtain ⟨oe, vs, ha, hz, hdt⟩ := hO.get (X := X) I.hok
  obtain ⟨cd, hcd, _⟩ := T.cd
  have hcl : (PySem.W.clsIn X.K C).isSome = true := by rw [hcd]; rfl
  have go : ∀ od : Option Obj, PySem.W.InstAt s.heap a oe C od → wpAny (model X.prog X.w) X.A (call (.builtin "isinstance") [.ref a, u2]) (EP X pins σ Q) X.xe s := fun od J =>
    PySem.W.kia_one (PySem.W.kitx_exc hcl T.is.hg T.is.hk T.is.hs T.is.ha T.is.hn T.is.ht T.is.hm) I.kIn J e (fun z => nomatch z) fun tk => ⟨.bl b, H, I.tok tk, rfl, q⟩
  cases d with
  | none => exact go none ⟨ha, hz.1, by unfold PySem.W.notCls; rw [hdt] <;> rfl, by rw [hz.2]; exact True.intro⟩
  | some dx =>
    obtain ⟨fs, hd⟩ := hD dx rfl
    obtain ⟨mA, hns, _⟩ := hd.get (X := X) I.hok
    obtain ⟨od, ho, _⟩ := lookIn_ns hns
    exact go (some od) ⟨ha, hz.1, by unfold PySem.W.notCls; rw [hdt] <;> rfl, by rw [hz.2]; exact ho⟩
/-- C(e, .., k = v, ..), the new exception standing as a value -/
def tNew (C : Addr) (n m : Nat) (sp : Sp) (gV : List V → List V → List V) (t tk : TA) : TE := fun σ H Q => t σ H fun vs H1 => tk σ H1 fun zs H2 => vs.length = n ∧ zs.length = m ∧ n ≤ 1000 ∧ ∀ a, H2 a = none →
  sp (gV (.ref a :: vs) zs) (upd H2 a (exo a C none)) (fun v H3 => v = .non ∧ Q (.ref a) H3) (fun _ _ _ => False)
section
variable {X : Cx} {CX : CXT} {k n : Nat} {fI C : Addr} {fd : FuncData} {ps ks : List Str} {sp : Sp} {x : Str} {p pos : Pos} {e : Expr} {es : List Expr} {kws : List Keyword} {t tk : TA} {g : List Value → List Value → List Value} {gV : List V → List V → List V}
theorem run_new {pins : List (Addr × Obj)} {σ : L2.St} {H : Hp} {s : Shared} {Q : VK} {us ws : List Value} {vs zs : List V} (T : XC X.K C) (iC : PySem.W.findIn X.K (.ref C) "__init__" = some (some (.ref fI))) (tI : PySem.W.typeIn X.K (.ref fI) = some (.type "function"))
    (F1 : FnOk X.prog X.w X.K X.mg X.base CX k fI fd ps sp) (hr : Room (k + 1) X.A) (hb : KBn X.K fd ps (n + 1) ks g gV) (hx : Passes CX X (fun _ _ _ => False)) (I : Inv X pins σ H s) (r : Vals vs us) (rz : Vals zs ws) (l1 : vs.length = n) (l2 : zs.length = ks.length) (l3 : n ≤ 1000)
    (h : ∀ a, H a = none → sp (gV (.ref a :: vs) zs) (upd H a (exo a C none)) (fun v H2 => v = .non ∧ Q (.ref a) H2) (fun _ _ _ => False)) : wpAny (model X.prog X.w) X.A (call (.ref C) us (ks.zip ws)) (EP X pins σ Q) X.xe s := by
  obtain ⟨B, newId, initId, bmB, F, hI, _⟩ := T.mks
  obtain ⟨nm, N, q, bs, bm, hdct, sn, sub, ab, col, dd, k0, k1, k2, k3, k5, hC, hTT⟩ := PySem.W.excInit_of I.kIn hI
  obtain ⟨hp, g1, dr, tk1, os⟩ := s
  have hsz : hp.objs.size ≤ hp.objs.size + 1 := Nat.le_succ _
  have hn : H (hp.objs.size + 1) = none := I.hok.fresh hsz
  have hq := h (hp.objs.size + 1) hn
  have kk : ∀ b o, hp.get? b = some o → ((hp.push (PySem.W.kdv_tup us)).push (PySem.HandSPX.excO C hp.objs.size)).get? b = some o := fun b o e => Heap.get?_push_of_some _ (Heap.get?_push_of_some _ e)
  have hG : ((hp.push (PySem.W.kdv_tup us)).push (PySem.HandSPX.excO C hp.objs.size)).get? (hp.objs.size + 1) = some (PySem.HandSPX.excO C hp.objs.size) := by heap_get
  have I2 := I.laid (t' := tk1) (a := hp.objs.size + 1) (o := exo (hp.objs.size + 1) C none) (h' := (hp.push (PySem.W.kdv_tup us)).push (PySem.HandSPX.excO C hp.objs.size)) kk hsz (exo_ok hG)
  have r2 := hb.rel (.cons rfl r : Vals (V.ref (hp.objs.size + 1) :: vs) (Value.ref (hp.objs.size + 1) :: us)) rz
  have e1 : (Value.ref (hp.objs.size + 1) :: us).length = n + 1 := by rw [List.length_cons, ← r.length, l1]
  have e2 : us.length ≤ sizeLine := by rw [← r.length, l1, sizeLine_eq]; omega
  refine wpAny_call (PySem.XKw.kw_call F hTT hC (PySem.W.looks_findIn I.kIn iC) (fun self => PySem.W.bind_fn I.kIn self tI) e2 (codeAny_mono (F1.run _ X.stack _ _ ⟨Value.ref (hp.objs.size + 1) :: us, ks.zip ws⟩ (g (Value.ref (hp.objs.size + 1) :: us) ws) _ _ _ (hr.make C us (ks.zip ws))
    (I2.env0.make C us (ks.zip ws)) (hb.to _ _ ws I2.kIn e1 (rz.length.symm.trans l2)) r2 hq) fun r s' hq' => ?_))
  cases r with
  | error er => exact hx pins σ _ _ er s' I2 hq'
  | ok fl =>
    cases fl with
    | ret u =>
      obtain ⟨v, H', I3, rv, ev, q3⟩ := I2.after hq'
      subst ev
      exact ⟨rv, ⟨V.ref (hp.objs.size + 1), H', I3, rfl, q3⟩⟩
    | next => exact False.elim hq'
    | brk => exact False.elim hq'
    | cont => exact False.elim hq'
theorem pe_newk (T : XC X.K C) (iC : PySem.W.findIn X.K (.ref C) "__init__" = some (some (.ref fI))) (tI : PySem.W.typeIn X.K (.ref fI) = some (.type "function")) (F1 : FnOk X.prog X.w X.K X.mg X.base CX k fI fd ps sp) (hr : Room (k + 1) X.A) (hg : Gl X x) (hm : X.mg x = some (.ref C))
    (hb : KBn X.K fd ps 1 ks g gV) (hx : Passes CX X (fun _ _ _ => False)) (hkw : PK X kws tk) (hall : (backToKw pos (keywordEach kws X.env)).all (·.1.isSome) = true := by rfl) (hks : (backToKw pos (keywordEach kws X.env)).filterMap (·.1) = ks := by rfl) (hdb : (x == ("__debug__" : Str)) = false := by decide)
    (hpl : ((backTo pos (starEach [] X.env)).any (·.1) || (backToKw pos (keywordEach kws X.env)).any (·.1.isNone)) = false := by rfl) : PE X (.Call (.Name x p) [] kws pos) (tNew C 0 ks.length sp gV tNil tk) := by
  refine ⟨fun pins s σ H Q I h => wpAny_Call_Name_kw (ld_glob I hg hm (PySem.W.callWith_KW0 (h₀ := X.base) I.ok.mod.kin T.kC hall ?_ hpl) hdb)⟩
  refine thn (hkw.run pos pins s σ H _ I h) fun ws s2 ⟨zs, H2, I2, rz, l1, l2, l3, q2⟩ => ⟨I2.kIn, ?_⟩
  rw [hks]
  exact run_new (us := []) (vs := []) T iC tI F1 hr hb hx I2 .nil rz rfl l2 l3 q2
theorem pe_new (T : XC X.K C) (iC : PySem.W.findIn X.K (.ref C) "__init__" = some (some (.ref fI))) (tI : PySem.W.typeIn X.K (.ref fI) = some (.type "function")) (F1 : FnOk X.prog X.w X.K X.mg X.base CX k fI fd ps sp) (hr : Room (k + 1) X.A) (hg : Gl X x) (hm : X.mg x = some (.ref C))
    (hb : KBn X.K fd ps (n + 1) [] g gV) (hx : Passes CX X (fun _ _ _ => False)) (ha : PA X (e :: es) t) (hdb : (x == ("__debug__" : Str)) = false := by decide) (he : starEach (e :: es) X.env = (false, eval e X.env) :: starEach es X.env := by rfl)
    (hpl : (backTo pos (starEach es X.env)).any (·.1) = false := by rfl) : PE X (.Call (.Name x p) (e :: es) [] pos) (tNew C n 0 sp gV t tNil) := by
  refine ⟨fun pins s σ H Q I h => wpAny_Call_Name_kw (ld_glob I hg hm ?_ hdb)⟩
  refine PySem.W.callWith_K (h₀ := X.base) I.ok.mod.kin T.kC (thn (ha.run pos pins s σ H _ I h) fun us s1 ⟨vs, H1, I1, r, l1, l2, l3, q⟩ => ⟨I1.kIn, ?_⟩) he hpl
  exact run_new (ws := []) (zs := []) T iC tI F1 hr hb hx I1 r .nil l1 rfl l3 q
end
end My

set_option Elab.async false
set_option linter.all false
set_option maxRecDepth 100000
set_option maxHeartbeats 4000000
/-! X4: an exception without arguments made; one raised; one kept behind its suite. -/
namespace My
open PySem PySem.Spec PyProof.Rows L2
section
variable {X : Cx} {C : Addr} {bmB : List Value} {B newId initId : String} {x : Str} {p pos : Pos}
/-- C(), C without an own __init__ -/
theorem pe_new0 (F : ExcBaseFacts B newId initId bmB) (q : PySem.W.excIn X.K C bmB newId = true) (gC : X.mg x = some (.ref C)) (kC : PySem.W.keepIn X.K (.ref C) = true) (hg : Gl X x) (hdb : (x == ("__debug__" : Str)) = false := by decide) :
    PE X (.Call (.Name x p) [] [] pos) (fun _ H Q => ∀ a, H a = none → Q (.ref a) (upd H a (exo a C none))) := by
  refine ⟨fun pins s σ H Q I h => wpAny_Call_Name_kw (ld_glob I hg gC (PySem.W.callWith_K0 I.kIn kC ?_) hdb)⟩
  show wpAny _ _ (call (.ref C) []) _ _ _
  obtain ⟨bm, N, nm, qn, bs, hdct, sn, sub, ab, col, dd, k0, k1, k2, k3, k5, mN, hC, hN, hni, T⟩ := exc_obj I.kIn q
  refine wpAny_call_exc_subT F T hC hN hni (fun h' a hm => ?_) (by rw [sizeLine_eq]; exact Nat.zero_le _)
  have hn : H a = none := I.hok.gone hm.new
  obtain ⟨t, ht, _, _⟩ := hm.there
  exact ⟨.ref a, upd H a (exo a C none), I.laidN hm.keeps hm.new hn (exo_ok ht), rfl, h a hn⟩
end
/-- C(e, ..) to be raised -/
def tRz (C : Addr) (n : Nat) (sp : Sp) (gV : List V → List V → List V) (t : TA) : L2.St → Hp → XK → Prop := fun σ H Q => t σ H fun vs H1 => vs.length = n ∧ n ≤ 1000 ∧ ∀ a, H1 a = none → sp (gV (.ref a :: vs) []) (upd H1 a (exo a C none))
  (fun v H2 => v = .non ∧ ∃ (d : Addr) (fs : List (Str × V)), H2 a = some (exo a C (some d)) ∧ H2 d = some (exd d fs) ∧ H1 d = none ∧ Q (.ref C) (some d) (upd (del H2 a) d (.xd fs))) (fun _ _ _ => False)
section
variable {X : Cx} {CX : CXT} {k n : Nat} {fI C : Addr} {fd : FuncData} {ps : List Str} {sp : Sp} {x : Str} {p pos : Pos} {e : Expr} {es : List Expr} {t : TA} {g : List Value → List Value → List Value} {gV : List V → List V → List V}
theorem pmk_new (T : XC X.K C) (iC : PySem.W.findIn X.K (.ref C) "__init__" = some (some (.ref fI))) (tI : PySem.W.typeIn X.K (.ref fI) = some (.type "function")) (F1 : FnOk X.prog X.w X.K X.mg X.base CX k fI fd ps sp) (hr : Room (k + 1) X.A) (hg : Gl X x) (hm : X.mg x = some (.ref C))
    (hb : KBn X.K fd ps (n + 1) [] g gV) (hx : Passes CX X (fun _ _ _ => False)) (ha : PA X (e :: es) t) (hdb : (x == ("__debug__" : Str)) = false := by decide) (he : starEach (e :: es) X.env = (false, eval e X.env) :: starEach es X.env := by rfl)
    (hpl : (backTo pos (starEach es X.env)).any (·.1) = false := by rfl) : PMk X (.Call (.Name x p) (e :: es) [] pos) (tRz C n sp gV t) := by
  intro pins s σ H Q I h
  refine wpAny_Call_Name_kw (ld_glob I hg hm ?_ hdb)
  refine PySem.W.callWith_K (h₀ := X.base) I.ok.mod.kin T.kC (thn (ha.run pos pins s σ H _ I h) fun us s1 ⟨vs, H1, I1, r, l1, l3, q⟩ => ⟨I1.kIn, ?_⟩) he hpl
  show wpAny _ _ (call (.ref C) us) _ _ _
  obtain ⟨B, newId, initId, bmB, F, hI, _⟩ := T.mks
  obtain ⟨nm, N, qn, bs, bm, hdct, sn, sub, ab, col, dd, k0, k1, k2, k3, k5, hC, hTT⟩ := PySem.W.excInit_of I1.kIn hI
  obtain ⟨hp, g1, dr, tk1, os⟩ := s1
  have hsz : hp.objs.size ≤ hp.objs.size + 1 := Nat.le_succ _
  have hq := q (hp.objs.size + 1) (I1.hok.fresh hsz)
  have kk : ∀ b o, hp.get? b = some o → ((hp.push (PySem.W.kdv_tup us)).push (PySem.HandSPX.excO C hp.objs.size)).get? b = some o := fun b o e => Heap.get?_push_of_some _ (Heap.get?_push_of_some _ e)
  have hG : ((hp.push (PySem.W.kdv_tup us)).push (PySem.HandSPX.excO C hp.objs.size)).get? (hp.objs.size + 1) = some (PySem.HandSPX.excO C hp.objs.size) := by heap_get
  have I2 := I1.laid (t' := tk1) (a := hp.objs.size + 1) (o := exo (hp.objs.size + 1) C none) (h' := (hp.push (PySem.W.kdv_tup us)).push (PySem.HandSPX.excO C hp.objs.size)) kk hsz (exo_ok hG)
  have r2 := hb.rel (.cons rfl r : Vals (V.ref (hp.objs.size + 1) :: vs) (Value.ref (hp.objs.size + 1) :: us)) (.nil : Vals [] [])
  have e1 : (Value.ref (hp.objs.size + 1) :: us).length = n + 1 := by rw [List.length_cons, ← r.length, l1]
  have e2 : us.length ≤ sizeLine := by rw [← r.length, l1, sizeLine_eq]; omega
  refine wpAny_call (PySem.XKw.kw_call (kw := []) F hTT hC (PySem.W.looks_findIn I1.kIn iC) (fun self => PySem.W.bind_fn I1.kIn self tI) e2 (codeAny_mono (F1.run _ X.stack _ _ ⟨Value.ref (hp.objs.size + 1) :: us, []⟩ (g (Value.ref (hp.objs.size + 1) :: us) []) _ _ _ (hr.make C us [])
    (I2.env0.make C us []) (hb.to _ _ [] I2.kIn e1 rfl) r2 hq) fun r s' hq' => ?_))
  cases r with
  | error er => exact hx pins σ _ _ er s' I2 hq'
  | ok fl =>
    cases fl with
    | ret u =>
      obtain ⟨v, H2, os2, bare2, un2, hok2, rv, ev, d, fs, ea, ed, hd1, q2⟩ := hq'
      subst ev
      obtain ⟨h2, g2, d2, t2, os'⟩ := s'
      exact ⟨rv, mk_end (raises_own T.is.hs T.ty) I1 hsz kk un2 hok2 os2 bare2 ea ed hd1 q2⟩
    | next => exact False.elim hq'
    | brk => exact False.elim hq'
    | cont => exact False.elim hq'
end
section
variable {X : Cx} {pins : List (Addr × Obj)} {σ : L2.St} {H : Hp} {s : Shared} {a : Addr} {o : HO}
/-- an object that came in the meantime is tracked from now on -/
theorem track (I : Inv X pins σ H s) (na : H a = none) (nL : a ≠ X.env.locals) (nC : ∀ x c, X.env.cells.lookup x = some c → c ≠ a) (nP : ∀ p ∈ X.pn ++ pins, p.1 ≠ a) (n0 : X.s_0.heap.get? a = none) (new : ObjOk X.prog X.w (upd H a o) s.heap a o) : Inv X pins σ (upd H a o) s := by
  have n1 : ∀ b u, X.s_0.heap.get? b = some u → b ≠ a := fun b u e z => by rw [z, n0] at e; cases e
  refine ⟨I.ok, I.os, I.bare, ⟨I.base.keep, I.base.slot, fun b u e n hq => ?_, I.base.there, fun b xs e => ?_, fun b u v e => ?_, fun b ps e => ?_⟩, I.loc, I.cell, ?_, fun x c e => ?_, fun p hp => ?_, fun b u e => ?_, I.len⟩
  · rw [upd_ne (n1 b u e)]; exact I.base.free b u e n hq
  · have q := I.base.tups b xs e
    rw [upd_ne (ne_of_none q na)]; exact q
  · have q := I.base.frzs b u v e
    rw [upd_ne (ne_of_none q na)]; exact q
  · obtain ⟨m, q⟩ := I.base.tbls b ps e
    exact ⟨m, by rw [upd_ne (ne_of_none q na)]; exact q⟩
  · rw [upd_ne (Ne.symm nL)]; exact I.free
  · rw [upd_ne (nC x c e)]; exact I.freeC x c e
  · obtain ⟨e, n, r⟩ := I.pin p hp
    exact ⟨e, by rw [upd_ne (nP p hp)]; exact n, r⟩
  · by_cases hb : b = a
    · subst hb; rw [upd_same] at e; cases e
      exact new
    · rw [upd_ne hb] at e
      exact (I.hok b u e).stay (fun c v _ q => q) (fun c q => by rw [upd_ne (ne_of_none q na)]; exact q) fun c xs q => by rw [upd_ne (ne_of_none q na)]; exact q
end
/-- what the clause 'except x as n' wishes whose suite lets the exception stand behind it (at a, tracked) -/
def wKp (K : PySem.W.Frag) (c : Value) (i : Nat) (ts : Addr → Value → Option Addr → TS) (D : Ends) : WX := fun cls d σ H =>
  PySem.W.exmOne K cls c = some true ∧ (∀ a, H a = none → ts a cls d { nx := fun σ' H' => H' a = none → D.nx (σ'.set i none) (upd H' a (xv a cls d)), rt := fun _ _ => False, bk := fun _ _ => False, ct := fun _ _ => False } (σ.set i (some (.ref a))) H)
section
variable {X : Cx} {x n : Str} {c : Value} {i : Nat} {body suite : List Stmt} {b₀ : Stmt} {np pos pos' : Pos} {tb : WX → TS} {ts : Addr → Value → Option Addr → TS}
theorem ps_try_keep (hs : X.stack = X.env :: X.outer) (hf : X.env.frame = some X.env.locals) (hE : X.ex = []) (hcl : X.env.cells = []) (hN : X.N.Nodup) (hi : X.N[i]? = some n) (hln : X.env.kindOf n = some .local) (hc : Names X x c)
    (hb : ∀ (W : WX) (pn : List (Addr × Obj)) (xe : Value → Shared → Prop), Takes (X.tr pn xe) W → PassesOwn (model X.prog X.w) X.A X.env xe → PSs (X.tr pn xe) body (tb W))
    (hsu : ∀ (a : Addr) (oe : Obj) (cls : Value) (d : Option Addr) (pn : List (Addr × Obj)), Zc cls d oe → (∃ vs, oe.data = .fields vs) → PSs (X.suite a ((a, oe) :: pn)) (b₀ :: suite) (ts a cls d)) :
    PS X (.Try body [.ExceptHandler (some (.Name x np)) (some n) (b₀ :: suite) pos'] [] [] pos) (fun D σ H => tb (wKp X.K c i ts D) D σ H) := by
  refine ⟨fun pins s σ H D I h => ?_⟩
  have ok := I.ok; have hfr : X.A.frames = some (X.env :: X.outer) := by rw [ok.frames, hs]
  have hvis : Loc X.env.scope n := .inl hln
  refine wpAny_Try_except (wpAny_mono ((hb (wKp X.K c i ts D) (X.pn ++ pins) (fun e s₁ => wpAny (model X.prog X.w) X.A (noteFrame e X.env) (fun _ s₂ => wpAny (model X.prog X.w) X.A (setFlight e none) (fun _ s₃ => wpAny (model X.prog X.w) X.A (handleBy e X.env [.ExceptHandler (some (.Name x np)) (some n) (b₀ :: suite) pos']) (SP X pins D) X.xe s₃) X.xe s₂) X.xe s₁)
    (fun u s' xx => ?_) PassesOwn.looking).run [] s σ H D (I.toTry _) h) (fun f s1 hsp => ?_) (fun e s1 he => he))
  · obtain ⟨a, B, sI, pins', σ', H', cls, d, rfl, J', nb, up, sky, na, os, ag, hb1, hyes⟩ := xx
    have J : Inv X pins σ' H' sI := J'.ofTry ok
    have sky2 : Sky B (X.env :: X.outer) a (Zc cls d) X.env.locals s'.heap := by rw [← hs]; exact sky
    show wpAny (model X.prog X.w) X.A (noteFrame (.ref a) X.env) _ _ _
    refine Sky.land Zc.steady hfr hf sky2 fun h3 fl3 up3 => ?_
    have J3 : Inv X pins σ' H' { s' with heap := h3 } := J.landed nb fl3.1 (up.trans up3) os ag
    obtain ⟨oe3, vs3, he3, hz3, hd3⟩ := fl3.there
    have noFr : a ∉ frs (X.env :: X.outer) := fun hm => by
      obtain ⟨_, o', e', hnf⟩ := fl3.2.2.1.mem hm
      rw [he3] at e'; cases e'
      exact hnf _ hd3
    have noB : ∀ {o : Obj}, sI.heap.get? a = some o → False := fun {o} e => by
      have z := nb a o e (by rw [hs]; exact noFr)
      rw [fl3.2.1] at z; cases z
    have nL : a ≠ X.env.locals := fun z => noFr (List.mem_filterMap.mpr ⟨X.env, List.mem_cons_self, by rw [hf, z]⟩)
    have nF : a ∉ X.fs := fun hm => let ⟨e, he, q⟩ := List.mem_filterMap.mp hm; noFr (List.mem_filterMap.mpr ⟨e, List.mem_cons_of_mem _ he, q⟩)
    have n0 : X.s_0.heap.get? a = none := by
      cases e : X.s_0.heap.get? a with
      | none => rfl
      | some o =>
        obtain ⟨o', q⟩ := J.base.there a o e (by rw [hE]; exact fun z => nomatch z)
        exact (noB q).elim
    have nP : ∀ p ∈ X.pn ++ pins, p.1 ≠ a := fun p hp z => noB (z ▸ (J.pin p hp).1)
    have S3 := J3.suite he3 hd3 na nL nF
    refine wpAny_handleBy_cons (codeAny_handlers_test ?_) (by intro q; cases q)
    have LT : PySem.W.Looks (model X.prog X.w) h3 (typeOf (.ref a)) cls := fun A Q E s k q => wpAny_typeOf_ref (k _ _ he3) (by rw [hz3.1]; exact q)
    have LM := PySem.W.exm_one (M := model X.prog X.w) (J3.kIn) LT hb1
    have ask : ∀ {Q : Value → Shared → Prop} {E : Value → Shared → Prop}, Q c { s' with heap := h3 } → wpAny (model X.prog X.w) (X.A.mark (some (.ref a))) (eval (.Name x np) X.env) Q E { s' with heap := h3 } := fun {Q E} q => by
      obtain ⟨hg, hdbg, hm | ⟨hm, hv, hnn⟩⟩ := hc
      · exact ld_glob (X := X.suite a ((a, oe3) :: (X.pn ++ pins))) S3 hg hm q hdbg
      · exact ld_blt (X := X.suite a ((a, oe3) :: (X.pn ++ pins))) S3 hg hm hv q hnn hdbg
    refine ask (LM.here ?_)
    refine codeAny_handlers_suite_as (HandSPX.lands_againZ fl3 fun h4 fl4 up4 => ?_)
    have J4 : Inv X pins σ' H' { s' with heap := h4 } := J.landed nb fl4.1 ((up.trans up3).trans up4) os ag
    obtain ⟨oe4, vs4, he4, hz4, hd4⟩ := fl4.there
    have S4 := J4.suite he4 hd4 na nL nF
    refine store_ok (X := X.suite a ((a, oe4) :: (X.pn ++ pins))) (v := .ref a) S4 hN hi hvis rfl (fun s5 S5 => ?_) (.inr hln)
    refine wpAny_mono ((hsu a oe4 cls d (X.pn ++ pins) hz4 ⟨_, hd4⟩).run [] s5 _ H' _ S5 (hyes a na)) (fun f s6 hsp => ?_) (fun _ _ z => False.elim z)
    cases f with
    | next =>
      obtain ⟨σ6, H6, S6, q6⟩ := hsp
      obtain ⟨p1, p2, _⟩ := S6.pin (a, oe4) (List.mem_append_left _ List.mem_cons_self)
      have S7 : Inv X pins σ6 (upd H6 a (xv a cls d)) s6 := track (S6.unsuite ok) p2 nL (fun x c e => by rw [hcl] at e; cases e) nP n0 (xv_ok p1 hz4 hd4)
      exact gone_ok S7 hN hi hln fun s7 J7 => ⟨_, _, J7, q6 p2⟩
    | brk =>
      obtain ⟨σ6, H6, S6, q6⟩ := hsp
      exact False.elim q6
    | cont =>
      obtain ⟨σ6, H6, S6, q6⟩ := hsp
      exact False.elim q6
    | ret u =>
      obtain ⟨v6, σ6, H6, S6, r6, q6⟩ := hsp
      exact False.elim q6
  · cases f with
    | next => exact let ⟨σ', H', J', q⟩ := hsp; wpAny_execs_nil ⟨σ', H', J'.ofTry ok, q⟩
    | brk => exact let ⟨σ', H', J', q⟩ := hsp; ⟨σ', H', J'.ofTry ok, q⟩
    | cont => exact let ⟨σ', H', J', q⟩ := hsp; ⟨σ', H', J'.ofTry ok, q⟩
    | ret u => exact let ⟨v, σ', H', J', r, q⟩ := hsp; ⟨v, σ', H', J'.ofTry ok, r, q⟩
end
end My

set_option Elab.async false
set_option linter.all false
set_option maxRecDepth 100000
set_option maxHeartbeats 4000000
/-! S1: what an own class says of [], in, len, += and (). -/
namespace My
open PySem PySem.Spec PyProof.Rows L2
/-- the class has a def of this special name -/
structure Spc (K : PySem.W.Frag) (C : Addr) (nm : Str) (f : Addr) : Prop where
  at_ : PySem.W.findIn K (.ref C) nm = some (some (.ref f))
  fn : PySem.W.isFn K (.ref f) = true
section
variable {X : Cx} {CX : CXT} {k : Nat} {f C : Addr} {fd : FuncData} {ps : List Str} {sp : Sp} {E : XK} {a b e : Expr} {ta tb te : TE} {pos : Pos}
theorem inst_of {pins : List (Addr × Obj)} {σ : L2.St} {H : Hp} {s : Shared} {x C dx : Addr} {fs : List (Str × V)} (I : Inv X pins σ H s) (h : H x = some (.ins C dx fs)) : ∃ ox od, PySem.W.InstAt s.heap x ox C od ∧ ox.data = .plain := by
  obtain ⟨mA, O, _⟩ := ins_get I.hok h
  obtain ⟨od, J, _⟩ := O.look
  exact ⟨_, _, J, rfl⟩
def rOne (C : Addr) (sp : Sp) (E : XK) : V → V → Hp → VK → Prop := fun x y H Q => ∃ (p dx : Addr) (fs : List (Str × V)), x = .ref p ∧ H p = some (.ins C dx fs) ∧ sp [.ref p, y] H Q E
theorem get_own (m : Spc X.K C "__getitem__" f) (hq : PySem.W.noSeq X.K C = true) (F : FnOk X.prog X.w X.K X.mg X.base CX k f fd ps sp) (hr : Room k X.A) (hb : Binds X.K fd ps []) (hx : Passes CX X E) : PGet X (rOne C sp E) := by
  intro pins s σ H o i ov iv Q I ro ri h
  obtain ⟨p, dx, fs, rfl, hp, q⟩ := h
  obtain rfl : ov = Value.ref p := ro
  obtain ⟨ox, od, J, _⟩ := inst_of I hp
  obtain ⟨m0, hF⟩ := I.fr
  exact PySem.W.getItem_K hF I.ok.mod.kin J hq m.at_ m.fn (run_fn (ds := []) (dvs := []) (us := [.ref p, iv]) (vs := [.ref p, i]) F hr hb .nil hx I (.cons rfl (.cons ri .nil)) q)
def rSetO (C : Addr) (sp : Sp) (E : XK) : V → V → V → Hp → (Hp → Prop) → Prop := fun x y v H Q => ∃ (p dx : Addr) (fs : List (Str × V)), x = .ref p ∧ H p = some (.ins C dx fs) ∧ sp [.ref p, y, v] H (fun _ H' => Q H') E
theorem seqkey_own {M : Model} {A : Around} {E' : Value → Shared → Prop} {s : Shared} {K : PySem.W.Frag} {x : Addr} {k : Value} {nm : Str} {ox : Obj} {od : Option Obj} {Q : Value → Shared → Prop} (hK : K.In s.heap) (J : PySem.W.InstAt s.heap x ox C od) (hq : PySem.W.noSeq K C = true) (h : Q k s) :
    wpAny M A (sequenceKey (.ref x) k nm) Q E' s := by
  unfold sequenceKey
  refine wpAny_bind (J.type.here (wpAny_bind ((PySem.W.anyM_none hK hq).here ?_)))
  rw [if_pos (by rfl)]
  exact wpAny_pure h
theorem setItem_own (m : Spc X.K C "__setitem__" f) (hq : PySem.W.noSeq X.K C = true) {pins : List (Addr × Obj)} {σ : L2.St} {H : Hp} {s : Shared} {p dx : Addr} {fs : List (Str × V)} {iv u : Value} {Q : Unit → Shared → Prop} {E' : Value → Shared → Prop} (I : Inv X pins σ H s) (hp : H p = some (.ins C dx fs))
    (h : wpAny (model X.prog X.w) X.A (call (.ref f) [.ref p, iv, u]) (fun _ s' => Q () s') E' s) : wpAny (model X.prog X.w) X.A (setItem (.ref p) iv u) Q E' s := by
  obtain ⟨ox, od, J, _⟩ := inst_of I hp
  unfold setItem
  refine wpAny_holding (wpAny_bind (seqkey_own I.kIn J hq ?_))
  exact wpAny_bind (PySem.W.special_fn I.kIn J m.at_ (beq_iff_eq.mp m.fn) (wpAny_mono h (fun _ _ z => wpAny_pure z) fun _ _ z => z))
theorem set_own (m : Spc X.K C "__setitem__" f) (hq : PySem.W.noSeq X.K C = true) (F : FnOk X.prog X.w X.K X.mg X.base CX k f fd ps sp) (hr : Room k X.A) (hb : Binds X.K fd ps []) (hx : Passes CX X E) : PSet X (rSetO C sp E) := by
  intro pins s σ H o i v ov iv u Q I ro ri rv h
  obtain ⟨p, dx, fs, rfl, hp, q⟩ := h
  obtain rfl : ov = Value.ref p := ro
  refine setItem_own m hq I hp (wpAny_mono (run_fn (ds := []) (dvs := []) (us := [.ref p, iv, u]) (vs := [.ref p, i, v]) F hr hb .nil hx I (.cons rfl (.cons ri (.cons rv .nil))) q) (fun _ s' z => ?_) fun _ _ z => z)
  obtain ⟨v', H', I', _, q'⟩ := z
  exact ⟨H', I', q'⟩
/-- o[i] = .., where the store may raise -/
def gSubS (C : Addr) (sp : Sp) (E : L2.St → XK) (to ti : TE) : TG := fun v σ H Q => to σ H fun x H1 => ti σ H1 fun y H2 => ∃ (p dx : Addr) (fs : List (Str × V)), x = .ref p ∧ H2 p = some (.ins C dx fs) ∧ sp [.ref p, y, v] H2 (fun _ H' => Q σ H') (E σ)
theorem pg_subS {E : L2.St → XK} {o i : Expr} {to ti : TE} (ho : PE X o to) (hi : PE X i ti) (m : Spc X.K C "__setitem__" f) (hq : PySem.W.noSeq X.K C = true) (F : FnOk X.prog X.w X.K X.mg X.base CX k f fd ps sp) (hr : Room k X.A) (hb : Binds X.K fd ps []) (hx : ∀ σ, PassesAt CX X σ (E σ))
    (ha : ∀ v, assign (.Subscript o i pos) X.env v = (do
      let ov ← holding [v] (eval o X.env)
      let iv ← holding [v, ov] (eval i X.env)
      standAt pos
      holding [v, ov, iv] (setItem ov iv v)
      release [v, ov, iv] []) := by intro _; rfl) : PG X (.Subscript o i pos) (gSubS C sp E to ti) := by
  refine ⟨fun pins s σ H v u Q I r h => ?_⟩
  rw [ha]
  refine wpAny_bind (wpAny_holding (thn (ho.run pins s σ H _ I h) fun ov s1 ⟨x, H1, I1, r1, q1⟩ => ?_))
  refine wpAny_bind (wpAny_holding (thn (hi.run pins s1 σ H1 _ I1 q1) fun iv s2 ⟨y, H2, I2, r2, p, dx, fs, ex, hp, q2⟩ => ?_))
  subst ex
  obtain rfl : ov = Value.ref p := r1
  refine wpAny_bind (wpAny_standAt (wpAny_bind (wpAny_holding (setItem_own m hq I2 hp (wpAny_mono (run_fnS (us := [.ref p, iv, u]) (vs := [.ref p, y, v]) F hr hb (hx σ) I2 (.cons rfl (.cons r2 (.cons r .nil))) q2) (fun _ s3 z => ?_) fun _ _ z => z)))))
  obtain ⟨v', H', I', _, q'⟩ := z
  exact wpAny_release ⟨σ, H', I', q'⟩
/-- a[b], an own class's def -/
def tSubO (C : Addr) (sp : Sp) (E : L2.St → XK) (ta tb : TE) : TE := fun σ H Q => ta σ H fun x H1 => tb σ H1 fun y H2 => ∃ (p dx : Addr) (fs : List (Str × V)), x = .ref p ∧ H2 p = some (.ins C dx fs) ∧ sp [.ref p, y] H2 Q (E σ)
theorem pe_subO {E : L2.St → XK} (ha : PE X a ta) (hb' : PE X b tb) (m : Spc X.K C "__getitem__" f) (hfi : PySem.W.fnIn X.K f = true) (F : FnOk X.prog X.w X.K X.mg X.base CX k f fd ps sp) (hr : Room (k + 1) X.A) (hb : Binds X.K fd ps []) (hx : ∀ σ, PassesAt CX X σ (E σ))
    (hsl : ∀ (p : Addr) (i : Value), subscripted b true (.ref p) i = runValue (.builtin "lifetime.subscript" ⟨[.ref p, i], []⟩) := by intro _ _; with_unfolding_all rfl) : PE X (.Subscript a b pos) (tSubO C sp E ta tb) := by
  refine ⟨fun pins s σ H Q I h => ?_⟩
  refine Subscript_ (binT (X := X) ha hb' I h fun v u s2 x y H2 I2 rx ry q => ?_)
  obtain ⟨p, dx, fs, rfl, hp, q⟩ := q
  obtain rfl : v = Value.ref p := rx
  obtain ⟨ox, od, J, _⟩ := inst_of I2 hp
  obtain ⟨m0, hF⟩ := I2.fr
  refine PySem.W.sub_K hF I2.ok.mod.kin J m.at_ hfi m.fn ?_ (hsl p u)
  refine wpAny_call (codeAny_mono (F.run X.A.in1 X.stack s2 H2 ⟨[.ref p, u], []⟩ [.ref p, u] [.ref p, y] Q (E σ) hr.in1 I2.env0.in1 ?_ (.cons rfl (.cons ry .nil)) q) fun r s' hq => ?_)
  · have hl : ([.ref p, u] : List Value).length = ps.length := F.len _ _ _ _ q
    have b := hb s2 [.ref p, u] I2.kIn (by rw [List.append_nil]; exact hl)
    rw [List.append_nil] at b
    exact b
  · cases r with
    | error er => exact hx σ pins H2 s2 er s' I2 hq
    | ok fl =>
      cases fl with
      | ret w => exact I2.after hq
      | next => exact False.elim hq
      | brk => exact False.elim hq
      | cont => exact False.elim hq
/-- x in o, o of an own class -/
def rInO (C : Addr) (sp : Sp) (E : XK) (g : Bool → Bool) : R2 := fun y x H Q => ∃ (p dx : Addr) (fs : List (Str × V)), x = .ref p ∧ H p = some (.ins C dx fs) ∧ sp [.ref p, y] H (fun v H' => ∃ b, v = .bl b ∧ Q (.bl (g b)) H') E
theorem in_own (m : Spc X.K C "__contains__" f) (F : FnOk X.prog X.w X.K X.mg X.base CX k f fd ps sp) (hr : Room k X.A) (hb : Binds X.K fd ps []) (hx : Passes CX X E) : OpR X (compareOp .In) (rInO C sp E id) := by
  intro pins s σ H y x uy ux Q I ry rx h
  obtain ⟨p, dx, fs, rfl, hp, q⟩ := h
  obtain rfl : ux = Value.ref p := rx
  obtain ⟨ox, od, J, _⟩ := inst_of I hp
  obtain ⟨m0, hF⟩ := I.fr
  refine PySem.W.in_K hF I.ok.mod.kin J m.at_ m.fn (wpAny_mono (run_fn (ds := []) (dvs := []) (us := [.ref p, uy]) (vs := [.ref p, y]) F hr hb .nil hx I (.cons rfl (.cons ry .nil)) q) (fun r s' z => ?_) fun _ _ z => z)
  obtain ⟨v, H', I', rv, b, rfl, q'⟩ := z
  obtain rfl : r = Value.bool b := rv
  exact wpAny_truthy_bool ⟨.bl b, H', I', rfl, q'⟩
theorem notin_own (m : Spc X.K C "__contains__" f) (F : FnOk X.prog X.w X.K X.mg X.base CX k f fd ps sp) (hr : Room k X.A) (hb : Binds X.K fd ps []) (hx : Passes CX X E) : OpR X (compareOp .NotIn) (rInO C sp E not) := by
  intro pins s σ H y x uy ux Q I ry rx h
  obtain ⟨p, dx, fs, rfl, hp, q⟩ := h
  obtain rfl : ux = Value.ref p := rx
  obtain ⟨ox, od, J, _⟩ := inst_of I hp
  obtain ⟨m0, hF⟩ := I.fr
  refine PySem.W.notIn_K hF I.ok.mod.kin J m.at_ m.fn (wpAny_mono (run_fn (ds := []) (dvs := []) (us := [.ref p, uy]) (vs := [.ref p, y]) F hr hb .nil hx I (.cons rfl (.cons ry .nil)) q) (fun r s' z => ?_) fun _ _ z => z)
  obtain ⟨v, H', I', rv, b, rfl, q'⟩ := z
  obtain rfl : r = Value.bool b := rv
  exact wpAny_truthy_bool ⟨.bl (!b), H', I', rfl, q'⟩
/-- len(o) -/
def rLenO (C : Addr) (sp : Sp) (E : XK) : List V → Hp → VK → Prop := fun xs H Q => ∃ (p dx : Addr) (fs : List (Str × V)), xs = [.ref p] ∧ H p = some (.ins C dx fs) ∧ sp [.ref p] H (fun v H' => ∃ n : Int, v = .int n ∧ 0 ≤ n ∧ n < 2 ^ 63 ∧ Q (.int n) H') E
theorem len_own (m : Spc X.K C "__len__" f) (F : FnOk X.prog X.w X.K X.mg X.base CX k f fd ps sp) (hr : Room (k + 1) X.A) (hb : Binds X.K fd ps []) (hx : ∀ pins σ H s e s', Inv X pins σ H s → CX X.stack H s E e s' → X.xe e s') : CallR X (.builtin "len") (rLenO C sp E) := by
  intro pins s σ H xs us Q I rv h
  obtain ⟨p, dx, fs, rfl, hp, q⟩ := h
  obtain ⟨u, rfl, ru⟩ := rv.one
  obtain rfl : u = Value.ref p := ru
  obtain ⟨ox, od, J, _⟩ := inst_of I hp
  obtain ⟨m0, hF⟩ := I.fr
  refine PySem.W.len_K hF I.ok.mod.kin J m.at_ m.fn ?_
  refine wpAny_call (codeAny_mono (F.run X.A.in1 X.stack s H ⟨[.ref p], []⟩ [.ref p] [.ref p] _ E hr.in1 I.env0.in1 ?_ (.cons rfl .nil) q) fun r s' hq => ?_)
  · have hl : ([.ref p] : List Value).length = ps.length := F.len _ _ _ _ q
    have b := hb s [.ref p] I.kIn (by rw [List.append_nil]; exact hl)
    rw [List.append_nil] at b
    exact b
  · cases r with
    | error er => exact hx pins σ H s er s' I hq
    | ok fl =>
      cases fl with
      | ret w =>
        obtain ⟨v, H', I', rv', n, rfl, n0, n1, q'⟩ := I.after hq
        obtain ⟨t, rfl⟩ := rv'
        exact ⟨⟨n0, n1⟩, .int n, H', I'.tok _, ⟨_, rfl⟩, q'⟩
      | next => exact False.elim hq
      | brk => exact False.elim hq
      | cont => exact False.elim hq
/-- a += b, a of an own class -/
def ipO (C : Addr) (sp : Sp) (E : XK) : TIp := fun x y H Q => ∃ (p dx : Addr) (fs : List (Str × V)), x = .ref p ∧ H p = some (.ins C dx fs) ∧ sp [.ref p, y] H (fun v H' => (∃ r, v = .ref r) ∧ Q v H') E
theorem fillsI_own {M : Model} {h : Heap} {K : PySem.W.Frag} {cd : ClassData} {rest : List Value} {b : Bool} (hK : K.In h) (hc : PySem.W.clsIn K C = some cd) (hm : cd.mro = .ref C :: rest) (hs : PySem.W.findIn K (.ref C) "__iadd__" = some (some (.ref f))) :
    PySem.W.Looks M h (fillsInplaceSlot (.ref C) "add" b) true := by
  intro A Q E' s k q
  unfold fillsInplaceSlot
  refine wpAny_bind ((PySem.W.looks_clsIn hK hc).andThen (f := fun cd => pure cd.mro) .now A _ E' s k ?_)
  rw [hm, List.anyM_cons]
  refine wpAny_bind (wpAny_bind (PySem.W.looks_findIn hK hs A _ E' s k ?_))
  show wpAny M A (if (!ownNameWrapper (.ref f) _) = true then _ else _) _ _ _
  rw [if_pos (show (!ownNameWrapper (.ref f) (dunderI "add")) = true from rfl)]
  exact wpAny_pure (by rw [if_pos rfl]; exact wpAny_pure q)
theorem ip_own (m : Spc X.K C "__iadd__" f) (hc : PySem.W.selfFirst X.K C = true) (F : FnOk X.prog X.w X.K X.mg X.base CX k f fd ps sp) (hr : Room k X.A) (hb : Binds X.K fd ps []) (hx : Passes CX X E) : PIp X .Add (ipO C sp E) := by
  intro pins s σ H x y v u Q I rx ry h
  obtain ⟨p, dx, fs, rfl, hp, q⟩ := h
  obtain rfl : v = Value.ref p := rx
  obtain ⟨ox, od, J, _⟩ := inst_of I hp
  obtain ⟨cd, hcd, hm⟩ := PySem.W.any_some hc
  obtain ⟨rest, hm⟩ : ∃ rest, cd.mro = .ref C :: rest := by
    cases q : cd.mro with
    | nil => rw [q] at hm; cases hm
    | cons a r => rw [q] at hm; exact ⟨r, by rw [List.head?_cons] at hm; cases (beq_iff_eq.mp hm); rfl⟩
  unfold inplaceOp
  refine wpAny_holding (wpAny_bind (J.type.here (wpAny_bind ((fillsI_own I.kIn hcd hm m.at_).here ?_))))
  rw [if_pos rfl]
  refine wpAny_bind (m := tryMethod (.ref p) _ u) ?_
  unfold tryMethod
  refine wpAny_bind (PySem.W.special_fn I.kIn J m.at_ (beq_iff_eq.mp m.fn) (wpAny_mono (run_fn (ds := []) (dvs := []) (us := [.ref p, u]) (vs := [.ref p, y]) F hr hb .nil hx I (.cons rfl (.cons ry .nil)) q) (fun r s' z => ?_) fun _ _ e => e))
  obtain ⟨v', H', I', rv, ⟨r0, rfl⟩, q'⟩ := z
  obtain rfl : r = Value.ref r0 := rv
  exact wpAny_pure (wpAny_bind (wpAny_rule (wpAny_pure ⟨.ref r0, H', I', rfl, q'⟩)))
/-- o(), o of an own class -/
def tCallO0 (C : Addr) (sp : Sp) (E : XK) (tf : TE) : TE := fun σ H Q => tf σ H fun y H1 => ∃ (p dx : Addr) (fs : List (Str × V)), y = .ref p ∧ H1 p = some (.ins C dx fs) ∧ sp [.ref p] H1 Q E
theorem pe_callO0 {fe : Expr} {tf : TE} (hf : PE X fe tf) (m : Spc X.K C "__call__" f) (hfi : PySem.W.fnIn X.K f = true) (F : FnOk X.prog X.w X.K X.mg X.base CX k f fd ps sp) (hr : Room k X.A) (hb : Binds X.K fd ps []) (hx : Passes CX X E)
    (ht : eval (.Call fe [] [] pos) X.env = (do callWith pos (← eval fe X.env) [] (backTo pos (starEach [] X.env)) (backToKw pos (keywordEach [] X.env))) := by rfl) : PE X (.Call fe [] [] pos) (tCallO0 C sp E tf) := by
  refine ⟨fun pins s σ H Q I h => ?_⟩
  refine Call_ (thn (hf.run pins s σ H _ I h) fun u s1 ⟨y, H1, I1, ry, p, dx, fs, ey, hp, q⟩ => ?_) ht
  subst ey
  obtain rfl : u = Value.ref p := ry
  obtain ⟨ox, od, J, hd⟩ := inst_of I1 hp
  refine StX.callO_of rfl (evalArgs_nil3 ⟨⟨C, ox, od, J, hd⟩, ?_⟩)
  refine wpAny_call (PySem.W.kco_code I1.kIn J hd m.at_ m.fn hfi (codeAny_mono (F.run X.A X.stack s1 H1 ⟨[.ref p], []⟩ [.ref p] [.ref p] Q E hr I1.env0 ?_ (.cons rfl .nil) q) fun r s' hq => ?_))
  · have hl : ([.ref p] : List Value).length = ps.length := F.len _ _ _ _ q
    have b := hb s1 [.ref p] I1.kIn (by rw [List.append_nil]; exact hl)
    rw [List.append_nil] at b
    exact b
  · cases r with
    | error er => exact hx pins σ H1 s1 er s' I1 hq
    | ok fl =>
      cases fl with
      | ret w => exact I1.after hq
      | next => exact False.elim hq
      | brk => exact False.elim hq
      | cont => exact False.elim hq
end
end My

set_option Elab.async false
set_option linter.all false
set_option maxRecDepth 100000
set_option maxHeartbeats 4000000
/-! S2: list(o) of an own class with __iter__ and __len__; isinstance of a caught exception with fields. -/
namespace My
open PySem PySem.Spec PyProof.Rows L2
section
variable {prog : Program} {w : World} {A : Around} {E : Value → Shared → Prop} {s : Shared} {it l : Addr} {i : Nat} {items : Array Value}
theorem pnx_item {x : Value} {Q : Option Value → Shared → Prop} (ho : s.heap.get? it = some (GNX.itObj l i)) (hl : s.heap.IsList l items) (hx : items[i]? = some x)
    (hQ : ∀ h', h'.get? it = some (GNX.itObj l (i + 1)) → Heap.SameBut it s.heap h' → Q (some x) { s with heap := h' }) : wpAny (model prog w) A (pyNext (.ref it)) Q E s := by
  have hT : s.TypeIs (.ref it) "list_iterator" := ⟨_, ho, rfl⟩
  unfold pyNext
  refine wpAny_bind (wpAny_attempt (wpAny_callSpecial?_slot (name := Str.ofString "__next__") hT slot_listiter_next (wpAny_call_entry slot_listiter_next hT entry_listiter_next (wpAny_mono (GNX.next_item (Q := fun v s' => Q (some v) s') ho hl hx hQ) (fun fin s' hq => ?_) fun _ _ z => z) (args_listiter_next _))))
  obtain ⟨v, e, q⟩ := hq
  exact ⟨v, e, wpAny_pure q⟩
theorem pnx_end {Q : Option Value → Shared → Prop} (hh : A.handled = none) (ho : s.heap.get? it = some (GNX.itObj l i)) (hl : s.heap.IsList l items) (hx : items[i]? = none)
    (hQ : ∀ h1 h', h1.get? it = some (GNX.itEnd i) → Heap.SameBut it s.heap h1 → (∀ b o, h1.get? b = some o → h'.get? b = some o) → Q none { s with heap := h' }) : wpAny (model prog w) A (pyNext (.ref it)) Q E s := by
  have hT : s.TypeIs (.ref it) "list_iterator" := ⟨_, ho, rfl⟩
  unfold pyNext
  refine wpAny_bind (wpAny_attempt (wpAny_callSpecial?_slot (name := Str.ofString "__next__") hT slot_listiter_next (wpAny_call_entry slot_listiter_next hT entry_listiter_next (wpAny_mono (GNX.next_end (A := A) (Q := fun _ _ => False) hh ho hl hx (fun h1 h' e vs e1 sb k ne he hv => ?_)) (fun fin s' hq => ?_) fun _ _ z => z) (args_listiter_next _))))
  · have hT2 : ({ s with heap := h' } : Shared).TypeIs (.ref e) "StopIteration" := ⟨_, he, rfl⟩
    refine wpAny_bind (wpAny_isInstance hT2 PySem.isSubtype_stop ?_)
    rw [if_pos rfl]
    exact wpAny_pure (hQ h1 h' e1 sb k)
  · obtain ⟨v, e, q⟩ := hq
    exact q.elim
end
section
variable {X : Cx} {CI : CXT} {n : Nat} {C fi fl : Addr} {fdI fdL : FuncData} {psI psL : List Str} {spI spL : Sp} {EI EL : XK} {pins : List (Addr × Obj)} {σ : L2.St}
/-- the list at q is filled from the iterator at it -/
theorem fill_loop {A1 : Around} {Rs : Result → Shared → Prop} {H1 : Hp} {l it q : Addr} {zs : List V} (hh : A1.in1.handled = none) (nq : q ≠ it) (nl : l ≠ q) (nli : l ≠ it) (hl1 : H1 l = some (.lst zs)) (hlen : zs.length < sizeLine)
    (hdone : ∀ H s, Inv X pins σ H s → H q = some (.lst zs) → (∀ b, b ≠ q → b ≠ it → H b = H1 b) → Rs (.ok (.ret .none)) s) :
    ∀ (m i : Nat) (H : Hp) (s : Shared), m + i = zs.length → Inv X pins σ H s → H q = some (.lst (zs.take i)) → H it = some (ItO l it i) → (∀ b, b ≠ q → b ≠ it → H b = H1 b) →
      codeAny (model X.prog X.w) A1 (.builtin "list.extend.loop" ⟨[.ref q, .ref it, .none], []⟩) Rs s := by
  intro m
  induction m with
  | zero =>
    intro i H s hm I hq hit oth
    obtain rfl : i = zs.length := by omega
    refine codeAny_builtin PySem.F.entry_extend_loop ?_
    rw [Around.under_plainId PySem.F.plain_extend_loop _]
    show wpAny _ A1.in1 (pyNext (.ref it) >>= _) _ _ s
    obtain ⟨its, rv, pl, hz⟩ := I.list (SqL.of (K := X.K) ((oth l nl nli).trans hl1))
    have mu : Mut (H it) := by rw [hit]; exact True.intro
    refine wpAny_bind (pnx_end hh (itO_get I hit) pl.isList (by rw [List.getElem?_toArray]; exact rv.none_of (by simp)) fun h1 h' e1 sb k => ?_)
    have I2 : Inv X pins σ (upd H it (ItE it zs.length)) { s with heap := h1 } := I.write (x := it) (e := it) (t' := s.toks) mu (.inl rfl) (fun b o nb z => (sb.2 b nb).trans z) ⟨_, e1⟩ (itE_ok e1)
    have I3 : Inv X pins σ (upd H it (ItE it zs.length)) { s with heap := h' } := I2.kept (t' := s.toks) k
    refine wpAny_pure (hdone _ _ I3 ?_ fun b b1 b2 => ?_)
    · rw [upd_ne nq, hq, List.take_length]
    · rw [upd_ne b2]; exact oth b b1 b2
  | succ m ih =>
    intro i H s hm I hq hit oth
    have hi : i < zs.length := by omega
    refine codeAny_builtin PySem.F.entry_extend_loop ?_
    rw [Around.under_plainId PySem.F.plain_extend_loop _]
    show wpAny _ A1.in1 (pyNext (.ref it) >>= _) _ _ s
    obtain ⟨its, rv, pl, hz⟩ := I.list (SqL.of (K := X.K) ((oth l nl nli).trans hl1))
    have mu : Mut (H it) := by rw [hit]; exact True.intro
    obtain ⟨u, hu, ru⟩ := rv.get (List.getElem?_eq_getElem hi)
    refine wpAny_bind (pnx_item (itO_get I hit) pl.isList (x := u) (by rw [List.getElem?_toArray]; exact hu) fun h' e1 sb => ?_)
    have I2 : Inv X pins σ (upd H it (ItO l it (i + 1))) { s with heap := h' } := I.write (x := it) (e := it) (t' := s.toks) mu (.inl rfl) (fun b o nb z => (sb.2 b nb).trans z) ⟨_, e1⟩ (itO_ok e1)
    have hq2 : upd H it (ItO l it (i + 1)) q = some (.lst (zs.take i)) := by rw [upd_ne nq]; exact hq
    show wpAny _ A1.in1 (updateSeq q (·.push u) >>= _) _ _ _
    obtain ⟨z, its2, k, r2, hl2, e⟩ := I2.lstM hq2
    have tl : (zs.take i).length = i := by rw [List.length_take]; omega
    have tk : zs.take (i + 1) = zs.take i ++ [zs[i]] := by rw [List.take_succ, List.getElem?_eq_getElem hi]; rfl
    refine wpAny_bind (wpAny_updateSeq e rfl (wpAny_pure ⟨plainId_quiet PySem.F.plain_extend_loop _, ?_⟩) (by rw [List.size_toArray]; omega) (by show (its2.toArray.push u).size ≤ sizeLine + 1; rw [Array.size_push, List.size_toArray]; omega))
    refine ih (i + 1) _ _ (by omega) (I2.lset (its' := its2 ++ [u]) (t' := s.toks) hq2 e (by simp) (r2.append (.cons ru .nil)) (by rw [List.length_append, List.length_singleton]; omega)) ?_ ?_ fun b b1 b2 => ?_
    · rw [upd_same, tk]
    · rw [upd_ne nq.symm]; exact upd_same
    · rw [upd_ne b1, upd_ne b2]; exact oth b b1 b2
/-- list(o) -/
def rListIt (C : Addr) (spI spL : Sp) (EI EL : XK) : List V → Hp → VK → Prop := fun xs H Q => ∃ (a dx : Addr) (fs : List (Str × V)), xs = [.ref a] ∧ H a = some (.ins C dx fs) ∧ ∀ q, H q = none →
  spI [.ref a] (upd H q (.lst [])) (fun v H1 => ∃ (it l dx' : Addr) (fs' : List (Str × V)) (zs : List V), v = .ref it ∧ H1 it = some (ItO l it 0) ∧ H1 l = some (.lst zs) ∧ zs.length < 1000000 ∧ l ≠ q ∧ H1 q = some (.lst []) ∧ H1 a = some (.ins C dx' fs') ∧
    spL [.ref a] H1 (fun v2 H2 => H2 = H1 ∧ v2 = .int zs.length ∧ ∀ H3, H3 q = some (.lst zs) → (∀ b, b ≠ q → b ≠ it → H3 b = H1 b) → Q (.ref q) H3) EL) EI
theorem call_listIt (hc : X.calm = true) (mi : Spc X.K C "__iter__" fi) (ml : Spc X.K C "__len__" fl) (FI : FnOk X.prog X.w X.K X.mg X.base CI n fi fdI psI spI) (bI : Binds X.K fdI psI []) (xI : Passes CI X EI)
    (FL : FnOk X.prog X.w X.K X.mg X.base CX0 n fl fdL psL spL) (bL : Binds X.K fdL psL []) (hr : Room (n + 3) X.A) : CallR X (.type "list") (rListIt C spI spL EI EL) := by
  intro pins s σ H xs us Q I rv h
  obtain ⟨a, dx, fs, rfl, ha, hq⟩ := h
  obtain ⟨u, rfl, ru⟩ := rv.one
  cases ru
  have sb : Sub X (n + 1) X.A.in1.in1 := Sub.in1 (Sub.in1 (⟨hr, rfl⟩ : Sub X (n + 3) X.A))
  refine callType_codes (Q₁ := fun obj s₁ => obj = .ref s.heap.objs.size ∧ s₁ = { s with heap := s.heap.push { cls := .type "list", data := .seq #[] } }) PySem.F.called_list (PySem.F.typeCall_list_1 _) PySem.F.entry_list_init (code_list_new _ ⟨rfl, rfl⟩) fun obj s₁ h₁ => ?_
  obtain ⟨rfl, rfl⟩ := h₁
  have hS : (s.heap.push { cls := .type "list", data := .seq #[] }).get? s.heap.objs.size = some { cls := .type "list", data := .seq #[] } := Heap.get?_push_size _ rfl
  refine ⟨⟨_, hS, rfl⟩, PySem.F.args_list_init_2 _ _, ?_⟩
  have fr : H s.heap.objs.size = none := I.hok.fresh (Nat.le_refl _)
  have hsp := hq _ fr
  have I1 : Inv X pins σ (upd H s.heap.objs.size (.lst [])) { s with heap := s.heap.push { cls := .type "list", data := .seq #[] } } := I.lnew (its := []) (t' := s.toks) .nil (Nat.zero_le _)
  obtain ⟨q, hqq⟩ : ∃ q, s.heap.objs.size = q := ⟨_, rfl⟩
  show wpAny _ _ (do let old ← Builtin.List.listItems (.ref s.heap.objs.size); Builtin.List.listUpdate (.ref s.heap.objs.size) (fun _ => #[]); letGo old.toList.reverse; Builtin.List.listExtendWith (.ref s.heap.objs.size) (.ref a) .none) _ _ _
  refine wpAny_bind ?_
  unfold Builtin.List.listItems
  refine wpAny_bind (wpAny_seqItems hS rfl (wpAny_pure ?_))
  show wpAny _ _ (updateSeq s.heap.objs.size (fun _ => #[]) >>= fun _ => letGo (#[] : Array Value).toList.reverse >>= fun _ => Builtin.List.listExtendWith (.ref s.heap.objs.size) (.ref a) .none) _ _ _
  refine wpAny_bind (wpAny_updateSeq hS rfl ?_)
  have I2 := I1.lset (f := fun _ => #[]) (its := []) (its' := []) (ys := []) (t' := s.toks) upd_same hS rfl .nil (Nat.zero_le _)
  rw [upd_upd] at I2
  refine wpAny_bind (wpAny_letGo ?_)
  rw [hqq] at I2 hsp fr ⊢
  generalize hs2 : ({ s with heap := (s.heap.push { cls := .type "list", data := .seq #[] }).update q (Obj.mapSeq fun _ => #[]) } : Shared) = s2 at *
  have ha2 : upd H q (.lst []) a = some (.ins C dx fs) := by rw [upd_ne (ne_of_none ha fr)]; exact ha
  have hne : q ≠ a := (ne_of_none ha fr).symm
  obtain ⟨mA, J, _⟩ := ins_get I2.hok ha2
  obtain ⟨od, J, _⟩ := J.look
  obtain ⟨m0, hF⟩ := I2.fr
  unfold Builtin.List.listExtendWith
  refine wpAny_bind (J.type.here ?_)
  have h1 : Builtin.List.listSameRef (.ref q) (.ref a) = false := by simp [Builtin.List.listSameRef, hne]
  have h2 : (Value.ref C == Value.type "list") = false := rfl
  have h3 : (Value.ref C == Value.type "tuple") = false := rfl
  simp only [h1, h2, h3, Bool.or_false, Bool.false_eq_true, if_false]
  refine wpAny_bind (PySem.W.owit_iter hF I2.ok.mod.kin J mi.at_ mi.fn ?_)
  have e0 : ∀ {s' : Shared} {H' : Hp}, Inv X pins σ H' s' → Env0 X.prog X.w X.K X.mg X.base X.A.in1.in1 X.stack s' H' := fun I' => by
    have e := I'.env0
    exact ⟨by rw [sb.fr]; exact e.frames, e.mod, e.bs, e.bsz, e.funs, e.frf, e.hok, e.bare⟩
  have one : ∀ {ps : List Str} {fd : FuncData} {s' : Shared}, Binds X.K fd ps [] → ([Value.ref a] : List Value).length = ps.length → X.K.In s'.heap → BindsTo s' fd ⟨[.ref a], []⟩ (ps.zip [.ref a]) := fun {ps fd s'} b hl kI => by
    have q := b s' [.ref a] kI (by rw [List.append_nil]; exact hl)
    rw [List.append_nil] at q
    exact q
  refine wpAny_call (codeAny_mono (FI.run X.A.in1.in1 X.stack s2 _ ⟨[.ref a], []⟩ [.ref a] [.ref a] _ EI (sb.room.mono (Nat.le_succ _)) (e0 I2) (one bI (FI.len _ _ _ _ hsp) I2.kIn) (.cons rfl .nil) hsp) fun r s' hq' => ?_)
  cases r with
  | error e => exact xI pins σ _ s2 e s' I2 hq'
  | ok fl2 =>
    cases fl2 with
    | next => exact False.elim hq'
    | brk => exact False.elim hq'
    | cont => exact False.elim hq'
    | ret u =>
      obtain ⟨v, H1, I3, rv, it, l, dx', fs', zs, ev, hit, hl, hlen, nlq, hq1, ha1, hspL⟩ := I2.after hq'
      subst ev
      obtain rfl : u = Value.ref it := rv
      have hT : s'.TypeIs (.ref it) "list_iterator" := ⟨_, itO_get I3 hit, rfl⟩
      unfold PySem.W.OwitIt
      refine wpAny_specialOf (name := Str.ofString "__next__") hT slot_listiter_next.lookup ?_
      refine wpAny_bind (wpAny_holding ?_)
      obtain ⟨mA', J', _⟩ := ins_get I3.hok ha1
      obtain ⟨od', J', _⟩ := J'.look
      obtain ⟨m1, hF'⟩ := I3.fr
      unfold Builtin.List.listLengthHint
      refine wpAny_bind (wpAny_bind (J'.type.here ((PySem.W.looks_findIn I3.kIn ml.at_).here ?_)))
      refine PySem.W.KFB.if_not rfl ?_
      rw [if_pos (by rfl)]
      refine wpAny_bind (wpAny_rule (wpAny_bind (wpAny_attempt (PySem.W.len_K hF' I3.ok.mod.kin J' ml.at_ ml.fn ?_))))
      refine wpAny_call (codeAny_mono (FL.run X.A.in1.in1.in1 X.stack s' _ ⟨[.ref a], []⟩ [.ref a] [.ref a] _ EL sb.room.in1 ((e0 I3).in1) (one bL (FL.len _ _ _ _ hspL) I3.kIn) (.cons rfl .nil) hspL) fun r s3 hq3 => ?_)
      cases r with
      | error e => exact (show False from hq3).elim
      | ok fl3 =>
        cases fl3 with
        | next => exact False.elim hq3
        | brk => exact False.elim hq3
        | cont => exact False.elim hq3
        | ret u2 =>
          obtain ⟨v2, H2, I4, rv2, eH, ev2, kQ⟩ := I3.after hq3
          subst ev2
          rw [eH] at I4
          obtain ⟨t2, rfl⟩ := rv2
          refine ⟨⟨by omega, by omega⟩, ?_⟩
          have I5 := I4.tok (s3.toks + 1)
          generalize hs5 : ({ s3 with toks := s3.toks + 1 } : Shared) = s5 at *
          refine wpAny_bind (wpAny_pure ?_)
          refine PySem.W.KFB.if_not (show Builtin.List.listTooLong ((zs.length : Int)).toNat = false from notLongL (by rw [sizeLine_eq]; simp; omega)) ?_
          refine wpAny_pure ?_
          have loop : ∀ s6 : Shared, Inv X pins σ H1 s6 → codeAny (model X.prog X.w) X.A.in1 (.builtin "list.extend.loop" ⟨[.ref q, .ref it, .none], []⟩) (wants (fun r s₂ => r = .none ∧ EP X pins σ Q (.ref q) s₂) X.xe) s6 := fun s6 I6 =>
            fill_loop (A1 := X.A.in1) (l := l) (q := q) (zs := zs) (I6.ok.hd hc) (ne_of hq1 hit (fun z => nomatch z)) nlq (ne_of hl hit (fun z => nomatch z)) hl (by rw [sizeLine_eq]; omega) (fun H s I h1 h2 => ⟨rfl, .ref q, H, I, rfl, kQ H h1 h2⟩) zs.length 0 H1 s6 (by omega) I6 (by rw [List.take_zero]; exact hq1) hit (fun _ _ _ => rfl)
          obtain ⟨z, its, kk, r3, hl3, e3⟩ := I5.lstM hq1
          cases r3
          refine wpAny_ite_split (fun _ => ?_) (fun _ => wpAny_pure ⟨plainId_quiet PySem.F.plain_extend_loop _, loop _ I5⟩)
          refine wpAny_bind (wpAny_rule ?_)
          refine wpAny_bind ?_
          show wpAny _ _ (updateSeq q (·.push .none) >>= fun _ => updateSeq q (·.pop)) _ _ _
          refine wpAny_bind (wpAny_updateSeq e3 rfl ?_)
          have I6 := I5.lset (f := (·.push Value.none)) (its' := [Value.none]) (ys := [.non]) (t' := s5.toks) hq1 e3 (by simp) (.cons rfl .nil) (by rw [List.length_singleton, sizeLine_eq]; decide)
          obtain ⟨z4, its4, k4, r4, hl4, e4⟩ := I6.lstM upd_same
          obtain ⟨u4, rfl, ru4⟩ := r4.one
          refine wpAny_updateSeq e4 rfl ?_ (by show 1 ≤ sizeLine; rw [sizeLine_eq]; decide) (by show 0 ≤ sizeLine + 1; exact Nat.zero_le _)
          refine wpAny_pure ⟨plainId_quiet PySem.F.plain_extend_loop _, loop _ ?_⟩
          have I7 := I6.lset (f := (·.pop)) (its := [u4]) (its' := []) (ys := []) (t' := s5.toks) upd_same e4 (by rfl) .nil (Nat.zero_le _)
          rw [upd_upd] at I7
          have hH : upd H1 q (.lst []) = H1 := by
            funext b
            by_cases hb : b = q
            · rw [hb, upd_same, hq1]
            · rw [upd_ne hb]
          rw [hH] at I7
          exact I7
end
/-- isinstance(e, c), e the exception that the suite holds, with fields -/
def rIsP (C a : Addr) (cls : Value) (d : Option Addr) (K : PySem.W.Frag) : List V → Hp → VK → Prop := fun xs H Q => ∃ (c : V) (cv : Value) (b : Bool) (dd : Addr) (fs : List (Str × V)), xs = [.ref a, c] ∧ cls = .ref C ∧ d = some dd ∧ H dd = some (.xd fs) ∧ (∀ u, RelV c u → u = cv) ∧ PySem.W.kitOne K (.ref C) cv = some b ∧ Q (.bl b) H
theorem call_isP {X : Cx} {a C : Addr} {cls : Value} {d : Option Addr} {oe : Obj} {pn : List (Addr × Obj)} (T : XC X.K C) (hz : Zc cls d oe) (hf : ∃ vs, oe.data = .fields vs) : CallR (X.suite a ((a, oe) :: pn)) (.builtin "isinstance") (rIsP C a cls d X.K) := by
  intro pins s σ H xs us Q I r h
  obtain ⟨c, cv, b, dd, fs, rfl, rfl, rfl, hd, hcv, e, q⟩ := h
  obtain ⟨u1, u2, rfl, r1, r2⟩ := vals2 r
  have ec := hcv _ r2
  subst ec
  obtain rfl : u1 = Value.ref a := r1
  obtain ⟨ha, _⟩ := I.pin (a, oe) (List.mem_append_left _ List.mem_cons_self)
  obtain ⟨vs, hdt⟩ := hf
  obtain ⟨cd, hcd, _⟩ := T.cd
  have hcl : (PySem.W.clsIn X.K C).isSome = true := by rw [hcd]; rfl
  have hx : ObjOk X.prog X.w H s.heap dd (.xd fs) := I.hok dd _ hd
  obtain ⟨mA, hns, _⟩ := hx
  obtain ⟨od, ho, _⟩ := lookIn_ns hns
  have J : PySem.W.InstAt s.heap a oe C (some od) := ⟨ha, hz.1, by unfold PySem.W.notCls; rw [hdt] <;> rfl, by rw [hz.2]; exact ho⟩
  exact PySem.W.kia_one (PySem.W.kitx_exc hcl T.is.hg T.is.hk T.is.hs T.is.ha T.is.hn T.is.ht T.is.hm) I.kIn J e (fun z => nomatch z) fun tk => ⟨.bl b, H, I.tok tk, rfl, q⟩
end My

set_option Elab.async false
set_option linter.all false
set_option maxRecDepth 100000
set_option maxHeartbeats 4000000
/-! S3: o.m(k = e). -/
namespace My
open PySem PySem.Spec PyProof.Rows L2
/-- o.m(k = e, ..), keywords alone -/
def tMethK (C : Addr) (m : Str) (n : Nat) (sp : Sp) (gV : List V → List V → List V) (E : XK) (ta : TE) (tk : TA) : TE := fun σ H Q => ta σ H fun x H1 => ∃ (p dx : Addr) (fs : List (Str × V)), x = .ref p ∧ H1 p = some (.ins C dx fs) ∧ fs.lookup m = none ∧
  tk σ H1 fun zs H2 => zs.length = n ∧ sp (gV [.ref p] zs) H2 Q E
section
variable {X : Cx} {CX : CXT} {k : Nat} {f C : Addr} {fd : FuncData} {ps ks : List Str} {sp : Sp} {E : XK} {m : Str} {pos apos : Pos} {o : Expr} {ta : TE} {tk : TA} {kws : List Keyword} {g : List Value → List Value → List Value} {gV : List V → List V → List V}
theorem pe_methK {pl : Sem Bool} (he : PE X o ta) (c : Cls X.K C) (hm : Meth X.K C m f) (F : FnOk X.prog X.w X.K X.mg X.base CX k f fd ps sp) (hr : Room k X.A) (hb : KBn X.K fd ps 1 ks g gV) (hx : Passes CX X E) (hkw : PK X kws tk)
    (hall : (backToKw pos (keywordEach kws X.env)).all (·.1.isSome) = true := by rfl) (hks : (backToKw pos (keywordEach kws X.env)).filterMap (·.1) = ks := by rfl)
    (hpl : ((backTo pos (starEach [] X.env)).any (·.1) || (backToKw pos (keywordEach kws X.env)).any (·.1.isNone)) = false := by rfl)
    (ht : eval (.Call (.Attribute o m apos) [] kws pos) X.env = (do
      let ov ← eval o X.env
      standAt apos.atName
      let (f, first) ← holding [ov] (getMethod ov m pl)
      callWith pos f first (backTo pos (starEach [] X.env)) (backToKw pos (keywordEach kws X.env))) := by rfl) : PE X (.Call (.Attribute o m apos) [] kws pos) (tMethK C m ks.length sp gV E ta tk) := by
  refine ⟨fun pins s σ H Q I h => ?_⟩
  refine PySem.W.methodCall_KW (pl := pl) (thn (he.run pins s σ H _ I h) fun u s1 ⟨x, H1, I1, rx, p, dx, fs, ex, ea, l, q⟩ => ?_) ht
  subst ex
  obtain rfl : u = Value.ref p := rx
  refine getmeth_ok I1 ea c hm l (PySem.W.callWith_KW0 (first := [.ref p]) (h₀ := X.base) I.ok.mod.kin hm.kp hall ?_ hpl)
  refine thn (hkw.run pos pins s1 σ H1 _ I1 q) fun ws s2 ⟨zs, H2, I2, rz, l2, q2⟩ => ⟨I2.kIn, ?_⟩
  rw [hks]
  exact run_fnN (us := [.ref p]) (vs := [.ref p]) F hr hb hx I2 (.cons rfl .nil) rz rfl l2 q2
end
end My

set_option Elab.async false
set_option linter.all false
set_option maxRecDepth 100000
set_option maxHeartbeats 4000000
/-! S4: functions that are handed on: a call by promise; captured cells tracked while others run. -/
namespace My
open PySem PySem.Spec PyProof.Rows L2
/-- calling the function at f without arguments in the heap H does what Q wants -/
def WorkCall (P : Program) (w : World) (K : PySem.W.Frag) (mg : Str → Option Value) (base : Heap) (k : Nat) (f : Addr) (H : Hp) (Q : VK) : Prop :=
  ∀ (A : Around) (outer : List Env) (s : Shared), Room k A → Env0 P w K mg base A outer s H → codeAny (model P w) A (.call (.ref f) ⟨[], []⟩) (CR CX0 outer P w H s Q E0) s
/-- a function stands at f -/
def IsFnO (H : Hp) (f : Addr) : Prop := ∃ φ, H f = some (.ext φ) ∧ ∀ h : Heap, φ h → PySem.W.FnAt f h
theorem IsFnO.at_ {P : Program} {w : World} {H : Hp} {h : Heap} {f : Addr} (x : IsFnO H f) (ok : HOk P w H h) : PySem.W.FnAt f h := by
  obtain ⟨φ, e, q⟩ := x
  obtain ⟨p, _, _⟩ := ok f _ e
  exact q h p
section
variable {X : Cx} {i k : Nat} {x : Str} {p pos : Pos}
/-- x(), x a name that holds a function -/
def tWork (P : Program) (w : World) (K : PySem.W.Frag) (mg : Str → Option Value) (base : Heap) (k i : Nat) : TE := fun σ H Q => ∃ f, σ[i]? = some (some (.ref f)) ∧ IsFnO H f ∧ WorkCall P w K mg base k f H Q
theorem pe_work (hr : Room k X.A) (hN : X.N[i]? = some x) (hv : Vis X.env.scope x) (hd : (x == ("__debug__" : Str)) = false := by decide) (hcd : (x == ("__classdict__" : Str)) = false := by decide) : PE X (.Call (.Name x p) [] [] pos) (tWork X.prog X.w X.K X.mg X.base k i) := by
  refine ⟨fun pins s σ H Q I ⟨f, hs, hf, hw⟩ => ?_⟩
  refine wpAny_Call_Name_kw (thn ((pe_var (pos := p) hN hv hd hcd).run pins s σ H (fun v H1 => v = .ref f ∧ H1 = H) I ⟨.ref f, hs, rfl, rfl⟩) fun u s1 ⟨v, H1, I1, r1, ev, eH⟩ => ?_)
  subst ev
  rw [eH] at I1
  obtain rfl : u = Value.ref f := r1
  refine PySem.W.callWith_F0 (first := []) (hf.at_ I1.hok) ?_
  show wpAny _ _ (call (.ref f) []) _ _ _
  refine wpAny_call (codeAny_mono (hw X.A X.stack s1 hr I1.env0) fun r s' hq => ?_)
  cases r with
  | error e => exact (show False from hq).elim
  | ok fl =>
    cases fl with
    | ret u => exact I1.after hq
    | next => exact False.elim hq
    | brk => exact False.elim hq
    | cont => exact False.elim hq
end
/-! ### cells tracked and let go -/
abbrev Cells := List (Addr × Obj)
/-- the very object at c -/
def CO (c : Addr) (o : Obj) : HO := .ext fun h => h.get? c = some o
theorem co_ok {P : Program} {w : World} {H : Hp} {h : Heap} {c : Addr} {o : Obj} (e : h.get? c = some o) : ObjOk P w H h c (CO c o) := ⟨e, ⟨_, e⟩, fun h1 h2 q k => k _ q⟩
theorem co_at {P : Program} {w : World} {H : Hp} {h : Heap} {c : Addr} {o : Obj} (ok : HOk P w H h) (e : H c = some (CO c o)) : h.get? c = some o := (ok c _ e).1
def upC (cs : Cells) (H : Hp) : Hp := fun b => match cs.lookup b with | some o => some (CO b o) | none => H b
def dnC (cs : Cells) (H : Hp) : Hp := fun b => match cs.lookup b with | some _ => none | none => H b
theorem upC_in {cs : Cells} {H : Hp} {b : Addr} {o : Obj} (h : cs.lookup b = some o) : upC cs H b = some (CO b o) := by unfold upC; rw [h]
theorem upC_out {cs : Cells} {H : Hp} {b : Addr} (h : cs.lookup b = none) : upC cs H b = H b := by unfold upC; rw [h]
theorem dnC_in {cs : Cells} {H : Hp} {b : Addr} {o : Obj} (h : cs.lookup b = some o) : dnC cs H b = none := by unfold dnC; rw [h]
theorem dnC_out {cs : Cells} {H : Hp} {b : Addr} (h : cs.lookup b = none) : dnC cs H b = H b := by unfold dnC; rw [h]
theorem co_ne {c : Addr} {o : Obj} {u : HO} (n : ∀ φ, u ≠ .ext φ) : CO c o ≠ u := fun e => n _ e.symm
/-- untracked cells that hold these objects -/
def Loose (cs : Cells) (fs : List Addr) (H : Hp) (h : Heap) : Prop := ∀ c o, cs.lookup c = some o → H c = none ∧ h.get? c = some o ∧ c ∉ fs
theorem hok_up {P : Program} {w : World} {cs : Cells} {fs : List Addr} {H : Hp} {h : Heap} (L : Loose cs fs H h) (ok : HOk P w H h) : HOk P w (upC cs H) h := by
  intro b u e
  cases hl : cs.lookup b with
  | some o =>
    rw [upC_in hl] at e
    cases e
    exact co_ok (L b o hl).2.1
  | none =>
    rw [upC_out hl] at e
    have nn : ∀ {c : Addr} {v : HO}, H c = some v → upC cs H c = some v := fun {c v} q => by
      cases hc : cs.lookup c with
      | some o => rw [(L c o hc).1] at q; cases q
      | none => rw [upC_out hc]; exact q
    exact (ok b u e).stay (fun _ _ _ q => q) (fun _ q => nn q) fun _ _ q => nn q
theorem hok_dn {P : Program} {w : World} {cs : Cells} {H : Hp} {h : Heap} (hc : ∀ c o, cs.lookup c = some o → H c = some (CO c o)) (ok : HOk P w H h) : HOk P w (dnC cs H) h := by
  intro b u e
  cases hl : cs.lookup b with
  | some o => rw [dnC_in hl] at e; cases e
  | none =>
    rw [dnC_out hl] at e
    have nn : ∀ {c : Addr} {v : HO}, (∀ φ, v ≠ .ext φ) → H c = some v → dnC cs H c = some v := fun {c v} n q => by
      cases hcc : cs.lookup c with
      | some o => rw [hc c o hcc] at q; exact absurd (Option.some.inj q) (co_ne n)
      | none => rw [dnC_out hcc]; exact q
    exact (ok b u e).stay (fun _ _ _ q => q) (fun _ q => nn (fun φ z => by cases z) q) fun _ _ q => nn (fun φ z => by cases z) q
/-- what ran with the cells tracked, told without them -/
theorem un_dn {P : Program} {w : World} {fs : List Addr} {cs : Cells} {H H2 : Hp} {h h' : Heap} (L : Loose cs fs H h) (u : Un fs [] (upC cs H) H2 h h') (ok2 : HOk P w H2 h') (h2 : ∀ c o, cs.lookup c = some o → H2 c = some (CO c o)) : Un fs [] H (dnC cs H2) h h' := by
  have out : ∀ {b : Addr} {v : HO}, H b = some v → cs.lookup b = none := fun {b v} e => by
    cases hl : cs.lookup b with
    | none => rfl
    | some o => rw [(L b o hl).1] at e; cases e
  refine ⟨fun b o e n hb hx => ?_, fun b o e n hb hx => ?_, fun b o e n hx => ?_, u.there, fun b xs e => ?_, fun b o v e => ?_, fun b ps e => ?_⟩
  · cases hl : cs.lookup b with
    | some o' =>
      have h1 := (L b o' hl).2.1
      rw [e] at h1
      cases h1
      exact co_at ok2 (h2 b _ hl)
    | none => exact u.keep b o e (by rw [upC_out hl]; exact n) hb hx
  · cases hl : cs.lookup b with
    | some o' => exact absurd hb (L b o' hl).2.2
    | none => exact u.slot b o e (by rw [upC_out hl]; exact n) hb hx
  · cases hl : cs.lookup b with
    | some o' => exact dnC_in hl
    | none => rw [dnC_out hl]; exact u.free b o e (by rw [upC_out hl]; exact n) hx
  · have hl := out e
    rw [dnC_out hl]; exact u.tups b xs (by rw [upC_out hl]; exact e)
  · have hl := out e
    rw [dnC_out hl]; exact u.frzs b o v (by rw [upC_out hl]; exact e)
  · have hl := out e
    obtain ⟨m, q⟩ := u.tbls b ps (by rw [upC_out hl]; exact e)
    exact ⟨m, by rw [dnC_out hl]; exact q⟩
/-- what ran without the cells, told with them -/
theorem un_up {P : Program} {w : World} {fs : List Addr} {cs : Cells} {H H2 : Hp} {h h' : Heap} (hc : ∀ c o, cs.lookup c = some o → H c = some (CO c o) ∧ c ∉ fs) (ok : HOk P w H h) (u : Un fs [] (dnC cs H) H2 h h') : Un fs [] H (upC cs H2) h h' := by
  have out : ∀ {b : Addr} {v : HO}, (∀ φ, v ≠ .ext φ) → H b = some v → cs.lookup b = none := fun {b v} n e => by
    cases hl : cs.lookup b with
    | none => rfl
    | some o => rw [(hc b o hl).1] at e; exact absurd (Option.some.inj e) (co_ne n)
  have out0 : ∀ {b : Addr}, H b = none → cs.lookup b = none := fun {b} e => by
    cases hl : cs.lookup b with
    | none => rfl
    | some o => rw [(hc b o hl).1] at e; cases e
  refine ⟨fun b o e n hb hx => ?_, fun b o e n hb hx => ?_, fun b o e n hx => ?_, u.there, fun b xs e => ?_, fun b o v e => ?_, fun b ps e => ?_⟩
  · exact u.keep b o e (by rw [dnC_out (out0 n)]; exact n) hb hx
  · exact u.slot b o e (by rw [dnC_out (out0 n)]; exact n) hb hx
  · rw [upC_out (out0 n)]; exact u.free b o e (by rw [dnC_out (out0 n)]; exact n) hx
  · have hl := out (fun φ z => by cases z) e
    rw [upC_out hl]; exact u.tups b xs (by rw [dnC_out hl]; exact e)
  · have hl := out (fun φ z => by cases z) e
    rw [upC_out hl]; exact u.frzs b o v (by rw [dnC_out hl]; exact e)
  · have hl := out (fun φ z => by cases z) e
    obtain ⟨m, q⟩ := u.tbls b ps (by rw [dnC_out hl]; exact e)
    exact ⟨m, by rw [upC_out hl]; exact q⟩
/-- behind it the cells stand as they did -/
theorem loose_after {fs : List Addr} {cs : Cells} {H H2 : Hp} {h h' : Heap} (hc : ∀ c o, cs.lookup c = some o → h.get? c = some o ∧ c ∉ fs) (u : Un fs [] (dnC cs H) H2 h h') : Loose cs fs H2 h' := fun c o hl => by
  obtain ⟨e, n⟩ := hc c o hl
  exact ⟨u.free c o e (dnC_in hl) (by simp), u.keep c o e (dnC_in hl) n (by simp), n⟩
end My

set_option Elab.async false
set_option linter.all false
set_option maxRecDepth 100000
set_option maxHeartbeats 4000000
/-! S5: a lambda called by whoever holds it; calls out of the def whose names it captured. -/
namespace My
open PySem PySem.Spec PyProof.Rows L2 LamX NdefX
theorem env0_up {P : Program} {w : World} {K : PySem.W.Frag} {mg : Str → Option Value} {base : Heap} {A : Around} {outer : List PySem.Env} {s : Shared} {H : Hp} {cs : Cells} (L : Loose cs (frs outer) H s.heap) (nb : ∀ c o, cs.lookup c = some o → base.get? c = none) (e : Env0 P w K mg base A outer s H) :
    Env0 P w K mg base A outer s (upC cs H) := by
  refine ⟨e.frames, e.mod, fun b o q => ⟨(e.bs b o q).1, ?_⟩, e.bsz, e.funs, fun b hb => ?_, hok_up L e.hok, e.bare⟩
  · cases hl : cs.lookup b with
    | some o' => rw [nb b o' hl] at q; cases q
    | none => rw [upC_out hl]; exact (e.bs b o q).2
  · cases hl : cs.lookup b with
    | some o' => exact absurd hb (L b o' hl).2.2
    | none => rw [upC_out hl]; exact e.frf b hb
theorem env0_dn {P : Program} {w : World} {K : PySem.W.Frag} {mg : Str → Option Value} {base : Heap} {A : Around} {outer : List PySem.Env} {s : Shared} {H : Hp} {cs : Cells} (hc : ∀ c o, cs.lookup c = some o → H c = some (CO c o)) (e : Env0 P w K mg base A outer s H) : Env0 P w K mg base A outer s (dnC cs H) := by
  have nn : ∀ {b : Addr}, H b = none → dnC cs H b = none := fun {b} n => by
    cases hl : cs.lookup b with
    | some o' => exact dnC_in hl
    | none => rw [dnC_out hl]; exact n
  exact ⟨e.frames, e.mod, fun b o q => ⟨(e.bs b o q).1, nn (e.bs b o q).2⟩, e.bsz, e.funs, fun b hb => nn (e.frf b hb), hok_dn hc e.hok, e.bare⟩
/-- what the cells that a function captured hold -/
structure CsAt (cl : List (Str × Addr)) (fr : List Str) (ws : List (Option V)) (cs : Cells) : Prop where
  len : ws.length = fr.length
  all : ∀ y c, cl.lookup y = some c → ∃ o v, cs.lookup c = some o ∧ o.data = .cell v
  inj : ∀ x y c, cl.lookup x = some c → cl.lookup y = some c → x = y
  has : ∀ (i : Nat) (y : Str), fr[i]? = some y → ∃ c o, cl.lookup y = some c ∧ cs.lookup c = some o ∧ ∀ v, ws[i]? = some (some v) → ∃ u, L2.RelV v u ∧ o.data = .cell (some u)
theorem CsAt.cells {cl : List (Str × Addr)} {fr : List Str} {ws : List (Option V)} {cs : Cells} {H : Hp} {h : Heap} (x : CsAt cl fr ws cs) (hc : ∀ c o, cs.lookup c = some o → H c = none ∧ h.get? c = some o) : CellsAt cl fr ws h H := by
  refine ⟨x.len, fun y c e => ?_, x.inj, fun i y e => ?_⟩
  · obtain ⟨o, v, h1, h2⟩ := x.all y c e
    obtain ⟨n, g⟩ := hc c o h1
    exact ⟨n, v, o, g, h2⟩
  · obtain ⟨c, o, h1, h2, h3⟩ := x.has i y e
    obtain ⟨n, g⟩ := hc c o h2
    refine ⟨c, h1, fun v ev => ?_⟩
    obtain ⟨u, r, d⟩ := h3 v ev
    exact ⟨u, r, o, g, d⟩
/-- a lambda: its words, the cells that it captured, its code object -/
def LamO (f : Addr) (F : NF) (body : Expr) : HO := .ext fun h => ∃ pm ctv : Value, h.get? f = some (PySem.W.kla_obj F.name F.qual F.params body F.scope F.cl pm F.c ctv)
theorem lamO_ok {P : Program} {w : World} {H : Hp} {h : Heap} {f : Addr} {F : NF} {body : Expr} {pm ctv : Value} (e : h.get? f = some (PySem.W.kla_obj F.name F.qual F.params body F.scope F.cl pm F.c ctv)) : ObjOk P w H h f (LamO f F body) :=
  ⟨⟨pm, ctv, e⟩, ⟨_, e⟩, fun h1 h2 ⟨pm, ctv, q⟩ k => ⟨pm, ctv, k _ q⟩⟩
theorem lamO_fn {H : Hp} {f : Addr} {F : NF} {body : Expr} (e : H f = some (LamO f F body)) : IsFnO H f := ⟨_, e, fun h ⟨pm, ctv, q⟩ => ⟨_, _, _, _, q⟩⟩
section
variable {P : Program} {w : World} {K : PySem.W.Frag} {mg : Str → Option Value} {base : Heap} {N fr : List Str} {F : NF} {f : Addr} {k : Nat} {body : Expr} {H : Hp} {Q : VK} {ws : List (Option V)} {cs : Cells} {tb : TE}
/-- THE RULE: a lambda without parameters, called where its cells are tracked -/
theorem work_lam (S : NScope N [] fr F.scope) (hb : ∀ pm ctv : Value, bindArgs (PySem.W.kla_fn F.name F.qual F.params body F.scope F.cl pm (.ref F.c) ctv) ⟨[], []⟩ = pure []) (hf : H f = some (LamO f F body)) (hco : H F.c = some (CodeO F.c F.qual)) (C : CsAt F.cl fr ws cs) (hc : ∀ c o, cs.lookup c = some o → H c = some (CO c o))
    (hbody : ∀ (A : Around) (outer : List PySem.Env) (s : Shared), Room k (A.deeper (envF F f s.heap.objs.size)) → PE (ncx CX0 P w K mg base N F f A outer s (dnC cs H) E0).nox body tb) (hq : tb (startF N [] ws) (dnC cs H) fun v H2 => (∀ c o, cs.lookup c = some o → H2 c = none) → Q v (upC cs H2)) : WorkCall P w K mg base (k + 1) f H Q := by
  intro A outer s hr e0
  obtain ⟨⟨pm, ctv, ho⟩, _, _⟩ := e0.hok f _ hf
  have lim : s.heap.NoLimit := e0.mod.nolimit.keeps fun b o e => (e0.bs b o e).1
  have nfr : ∀ c o, cs.lookup c = some o → c ∉ frs outer := fun c o e hm => by
    have := e0.frf c hm
    rw [hc c o e] at this; cases this
  have e1 := env0_dn hc e0
  have Ca : CellsAt F.cl fr ws s.heap (dnC cs H) := C.cells fun c o e => ⟨dnC_in e, co_at e0.hok (hc c o e)⟩
  refine PySem.W.kla_callFunE hr.depth ho rfl S.co S.gen rfl (codeO_at e0.hok hco) ?_
  rw [hb pm ctv]
  refine wpAny_pure (wpAny_newFunctionEnv S.nocell (fun y hy => absurd hy (by simp)) (fun h₁ hns hsb => ⟨lim.fresh _ hsb, ?_⟩) S.kind)
  show codeAny _ _ (.expr body (envF F f s.heap.objs.size)) _ _
  have kp : ∀ b o, s.heap.get? b = some o → h₁.get? b = some o := fun b o e => hsb.extBut b o (Nat.ne_of_lt (Heap.lt_size e)) (Heap.get?_push_of_some _ e)
  have J : Inv (ncx CX0 P w K mg base N F f A outer s (dnC cs H) E0) [] (startF N [] ws) (dnC cs H) { s with heap := h₁, toks := s.toks + ([] : List (Str × Value)).length } := inv_startN S hr.hd e1 rfl .nil Ca hns kp
  refine PySem.W.kla_codeExpr (wpAny_mono ((hbody A outer s (hr.deeper _)).run [] _ _ _ _ (J.wish _) hq) (fun v s' hv => ?_) fun _ _ z => False.elim z)
  obtain ⟨v', H', J', rv, q⟩ := hv
  have un : Un (frs outer) [] (dnC cs H) H' s.heap s'.heap := J'.base
  have lo := loose_after (fun c o e => ⟨co_at e0.hok (hc c o e), nfr c o e⟩) un
  exact ⟨v', upC cs H', J'.os, J'.bare, un_up (fun c o e => ⟨hc c o e, nfr c o e⟩) e0.hok un, hok_up lo J'.hok, rv, q fun c o e => (lo c o e).1⟩
end
/-! ### calls out of the def -/
/-- the objects of the cells of a list of names -/
def csOf (h : Heap) (cl : List (Str × Addr)) : Cells := (cl.map (·.1)).filterMap fun y => (cl.lookup y).bind fun c => (h.get? c).map fun o => (c, o)
theorem lookup_mem {α : Type} : ∀ {l : List (Addr × α)} {a : Addr} {b : α}, l.lookup a = some b → (a, b) ∈ l
  | [], _, _, h => by cases h
  | (x, y) :: r, a, b, h => by
    by_cases e : a = x
    · subst e
      simp [List.lookup] at h
      rw [h]; simp
    · have e2 : (a == x) = false := by simpa using e
      simp only [List.lookup, e2] at h
      exact List.mem_cons_of_mem _ (lookup_mem h)
theorem mem_lookup' {α : Type} : ∀ {l : List (Addr × α)} {a : Addr} {b : α}, (a, b) ∈ l → ∃ c, l.lookup a = some c
  | (x, y) :: r, a, b, h => by
    by_cases e : a = x
    · subst e
      exact ⟨y, by simp [List.lookup]⟩
    · have e2 : (a == x) = false := by simpa using e
      rcases List.mem_cons.mp h with h | h
      · cases h; exact absurd rfl e
      · obtain ⟨c, q⟩ := mem_lookup' h
        exact ⟨c, by simp only [List.lookup, e2]; exact q⟩
theorem cs_get {h : Heap} {cl : List (Str × Addr)} {c : Addr} {o : Obj} (e : (csOf h cl).lookup c = some o) : h.get? c = some o ∧ ∃ y, cl.lookup y = some c := by
  have m := lookup_mem e
  unfold csOf at m
  obtain ⟨y, hy, q⟩ := List.mem_filterMap.mp m
  cases e1 : cl.lookup y with
  | none => rw [e1] at q; cases q
  | some c' =>
    rw [e1] at q
    cases e2 : h.get? c' with
    | none => simp [e2] at q
    | some o' =>
      simp [e2] at q
      obtain ⟨rfl, rfl⟩ := q
      exact ⟨e2, y, e1⟩
theorem cs_has {h : Heap} {cl : List (Str × Addr)} {y : Str} {c : Addr} {o : Obj} (e : cl.lookup y = some c) (g : h.get? c = some o) : (csOf h cl).lookup c = some o := by
  have hy : y ∈ cl.map (·.1) := by
    have := PySem.mem_of_lookup e
    exact List.mem_map_of_mem (f := (·.1)) this
  have m : (c, o) ∈ csOf h cl := List.mem_filterMap.mpr ⟨y, hy, by simp [e, g]⟩
  obtain ⟨o', q⟩ := mem_lookup' m
  obtain ⟨g', _⟩ := cs_get q
  rw [g] at g'
  cases g'
  exact q
theorem cs_at {cl : List (Str × Addr)} {fr : List Str} {ws : List (Option V)} {H : Hp} {h : Heap} (C : CellsAt cl fr ws h H) : CsAt cl fr ws (csOf h cl) := by
  refine ⟨C.len, fun y c e => ?_, C.inj, fun i y e => ?_⟩
  · obtain ⟨_, v, o, g, d⟩ := C.all y c e
    exact ⟨o, v, cs_has e g, d⟩
  · obtain ⟨c, h1, h2⟩ := C.has i y e
    obtain ⟨_, v, o, g, d⟩ := C.all y c h1
    refine ⟨c, o, h1, cs_has h1 g, fun v' ev => ?_⟩
    obtain ⟨u, r, o', g', d'⟩ := h2 v' ev
    rw [g] at g'
    cases g'
    exact ⟨u, r, d'⟩
section
variable {X : Cx} {k : Nat} {f : Addr} {fd : FuncData} {ps : List Str} {sp : Sp} {pins : List (Addr × Obj)} {σ : L2.St} {H : Hp} {s : Shared} {Q : VK} {us : List Value} {vs : List V} {cs : Cells} {cl : List (Str × Addr)} {fr : List Str} {js : List Nat}
theorem loose_of (hex : X.ex = []) (hfn : ∀ y, X.fn y = true) (I : Inv X pins σ H s) (cp : Caps X cl fr js) : Loose (csOf s.heap cl) (frs X.stack) H s.heap ∧ (∀ c o, (csOf s.heap cl).lookup c = some o → X.base.get? c = none) ∧ CsAt cl fr (js.map (slotAt σ)) (csOf s.heap cl) := by
  have C := cells_of I cp
  have young : ∀ c o, (csOf s.heap cl).lookup c = some o → X.s_0.heap.objs.size ≤ c := fun c o e => by
    obtain ⟨_, y, hy⟩ := cs_get e
    exact I.ok.cab y c (hfn y) (cp.sub y c hy)
  refine ⟨fun c o e => ?_, fun c o e => ?_, cs_at C⟩
  · obtain ⟨g, y, hy⟩ := cs_get e
    obtain ⟨n, v, o', g', d⟩ := C.all y c hy
    rw [g] at g'
    cases g'
    refine ⟨n, g, fun hm => ?_⟩
    rcases List.mem_cons.mp (I.stkSub c hm) with e1 | e1
    · obtain ⟨m, hn, _⟩ := I.loc
      obtain ⟨ob, es, ep, h1, h2, _⟩ := hn
      rw [← e1, g] at h1
      cases h1
      rw [d] at h2; cases h2
    · obtain ⟨_, ob, h1, _⟩ := I.ok.funs.mem e1
      exact absurd (Heap.lt_size h1) (Nat.not_lt.mpr (young c _ e))
  · cases e1 : X.base.get? c with
    | none => rfl
    | some ob => exact absurd (Nat.lt_of_lt_of_le (Heap.lt_size e1) I.ok.bsz) (Nat.not_lt.mpr (young c o e))
/-- a def runs while the cells are tracked -/
theorem run_up (F : FnOk X.prog X.w X.K X.mg X.base CX0 k f fd ps sp) (hr : Room k X.A) (hb : Binds X.K fd ps []) (I : Inv X pins σ H s) (L : Loose cs (frs X.stack) H s.heap) (nb : ∀ c o, cs.lookup c = some o → X.base.get? c = none) (r : Vals vs us)
    (h : sp vs (upC cs H) (fun v H2 => (∀ c o, cs.lookup c = some o → H2 c = some (CO c o)) ∧ Q v (dnC cs H2)) E0) : codeAny (model X.prog X.w) X.A (.call (.ref f) ⟨us, []⟩) (CR CX0 X.stack X.prog X.w H s Q E0) s := by
  have hl : us.length = ps.length := by rw [← r.length]; exact F.len _ _ _ _ h
  have b := hb s us I.kIn (by rw [List.append_nil]; exact hl)
  rw [List.append_nil] at b
  refine codeAny_mono (F.run X.A X.stack s _ ⟨us, []⟩ us vs _ E0 hr (env0_up L nb I.env0) b r h) fun r s' hq => ?_
  cases r with
  | error e => exact hq
  | ok fl =>
    cases fl with
    | ret u =>
      obtain ⟨v, H2, os, bare, un, hok, rv, hc2, q⟩ := hq
      exact ⟨v, dnC cs H2, os, bare, un_dn L un hok hc2, hok_dn hc2 hok, rv, q⟩
    | next => exact hq
    | brk => exact hq
    | cont => exact hq
/-- behind it the cells stand as they did, and Q holds of what is known without them -/
def UpQ (cs : Cells) (Q : VK) : VK := fun v H2 => (∀ c o, cs.lookup c = some o → H2 c = some (CO c o)) ∧ Q v (dnC cs H2)
/-- o(), o of an own class, called where the def's cells may be asked for -/
def tCallO0Up (X : Cx) (cl : List (Str × Addr)) (fr : List Str) (js : List Nat) (C : Addr) (sp : Sp) (tf : TE) : TE := fun σ H Q => tf σ H fun y H1 => ∃ (p dx : Addr) (fs : List (Str × V)), y = .ref p ∧ H1 p = some (.ins C dx fs) ∧
  ∀ cs : Cells, CsAt cl fr (js.map (slotAt σ)) cs → (∀ c o, cs.lookup c = some o → H1 c = none) → sp [.ref p] (upC cs H1) (UpQ cs Q) E0
theorem pe_callO0Up {C : Addr} {fe : Expr} {tf : TE} {pos : Pos} (hex : X.ex = []) (hfn : ∀ y, X.fn y = true) (cp : X.Ok → Caps X cl fr js) (hf : PE X fe tf) (m : Spc X.K C "__call__" f) (hfi : PySem.W.fnIn X.K f = true) (F : FnOk X.prog X.w X.K X.mg X.base CX0 k f fd ps sp) (hr : Room k X.A) (hb : Binds X.K fd ps [])
    (ht : eval (.Call fe [] [] pos) X.env = (do callWith pos (← eval fe X.env) [] (backTo pos (starEach [] X.env)) (backToKw pos (keywordEach [] X.env))) := by rfl) : PE X (.Call fe [] [] pos) (tCallO0Up X cl fr js C sp tf) := by
  refine ⟨fun pins s σ H Q I h => ?_⟩
  refine Call_ (thn (hf.run pins s σ H _ I h) fun u s1 ⟨y, H1, I1, ry, p, dx, fs, ey, hp, q⟩ => ?_) ht
  subst ey
  obtain rfl : u = Value.ref p := ry
  obtain ⟨ox, od, J, hd⟩ := inst_of I1 hp
  obtain ⟨L, nb, C1⟩ := loose_of hex hfn I1 (cp I1.ok)
  refine StX.callO_of rfl (evalArgs_nil3 ⟨⟨C, ox, od, J, hd⟩, ?_⟩)
  refine wpAny_call (PySem.W.kco_code I1.kIn J hd m.at_ m.fn hfi (codeAny_mono (run_up (us := [.ref p]) (vs := [.ref p]) F hr hb I1 L nb (.cons rfl .nil) (q _ C1 fun c o e => (L c o e).1)) fun r s' hq => ?_))
  cases r with
  | error er => exact (show False from hq).elim
  | ok fl =>
    cases fl with
    | ret w => exact I1.after hq
    | next => exact False.elim hq
    | brk => exact False.elim hq
    | cont => exact False.elim hq
end
end My

set_option Elab.async false
set_option linter.all false
set_option maxRecDepth 100000
set_option maxHeartbeats 4000000
/-! S6: a lambda made, and tracked. -/
namespace My
open PySem PySem.Spec PyProof.Rows L2 LamX NdefX
section
variable {X : Cx} {pins : List (Addr × Obj)} {σ : L2.St} {H : Hp} {s : Shared}
/-- the lambda's words, made in the def X -/
def lamF (X : Cx) (params : Arguments) (scope : Scope) (c : Addr) : NF := ⟨"<lambda>", X.env.qual ++ "<lambda>", params, [], scope, cloFrom X.env.cells scope.names [], c⟩
/-- lambda: e, as a value -/
def tLamE (X : Cx) (P : Addr) (params : Arguments) (scope : Scope) (body : Expr) : TE := fun _ H Q => TabS H P (X.env.qual ++ "<lambda>") ∧ ∀ (f c' : Addr) (H1 : Hp), (∀ b o, b ≠ P → H b = some o → H1 b = some o) → (∀ b, H1 b = none → H b = none) → TabS H1 P (X.env.qual ++ "<lambda>") → H f = none →
  H1 f = some (LamO f (lamF X params scope c') body) → H1 c' = some (CodeO c' (X.env.qual ++ "<lambda>")) → Q (.ref f) H1
theorem pe_lamE {c P : Addr} {params : Arguments} {body : Expr} {scope : Scope} {pos : Pos} (TB : TabB X.base X.mg c P) (hcode : X.env.code = .ref c) (hdef : defaultsOf params X.env = ([], [])) (hfree : X.Ok → ∀ y ∈ scope.names, y.2 = .free → ∃ c, X.env.cells.lookup y.1 = some c) : PE X (.Lambda params body scope pos) (tLamE X P params scope body) := by
  refine ⟨fun pins s σ H Q I ⟨⟨ps, hP, ht, ha⟩, k⟩ => PySem.W.kla_eval hdef ?_⟩
  have bP : s.heap.BuiltinsAt X.mg P := TB.bm.keeps I.bk
  have hP' : s.heap.get? P = some { cls := .none, data := .fields ps } := I.hok P _ hP
  have put : ∀ {h' : Heap} {tk : Nat} {H' : Hp} {c' : Addr} {pm ctv : Value}, Inv X pins σ H' { s with heap := h', toks := tk } → Inv X pins σ (upd H' h'.objs.size (LamO h'.objs.size (lamF X params scope c') body)) { s with heap := h'.push (PySem.W.kla_obj "<lambda>" (X.env.qual ++ "<lambda>") params body scope (cloFrom X.env.cells scope.names []) pm c' ctv), toks := tk } := fun {h' tk H' c' pm ctv} I' =>
    I'.laid (t' := tk) (fun b o e => Heap.get?_push_of_some _ e) (Nat.le_refl _) (lamO_ok (F := lamF X params scope c') (Heap.get?_push_size _ rfl))
  cases hc : codeAmong pos ps.toList with
  | none =>
    refine PySem.W.kla_makeFunction (mg := X.mg) (c := c) (P := P) (ps := ps) (closure_ok (hfree I.ok)) I.ok.glob (I.mod.glob.keeps I.bk) hcode (TB.code.keeps I.bk) hP' ht hc TB.gP bP fun c' ctv h' tk hx hge hlt hrec htb => ?_
    obtain ⟨c2, oc, vs, t, e2, hoc, hd, hv⟩ := hrec
    cases e2
    have nC : H c' = none := I.hok.fresh hge
    have nF : H h'.objs.size = none := I.hok.fresh (Nat.le_trans hge (Nat.le_of_lt hlt))
    have nPC : P ≠ c' := ne_of_none hP nC
    have I1 := inv_table (q := X.env.qual ++ "<lambda>") (t' := tk) (more := #[rawInt pos.line, rawInt pos.col, .ref c']) (h' := h') I hP (fun b o hb e => hx b o hb e) htb hge ⟨oc, vs, t, hoc, hd, hv⟩
    have nfc : c' ≠ h'.objs.size := Nat.ne_of_lt hlt
    have nfP : P ≠ h'.objs.size := ne_of_none hP nF
    have eL : (ps ++ #[rawInt pos.line, rawInt pos.col, .ref c']).toList = ps.toList ++ [rawInt pos.line, rawInt pos.col, .ref c'] := by simp
    have cO : ∀ {c0 : Addr}, H c0 = some (CodeO c0 (X.env.qual ++ "<lambda>")) → c0 ≠ P ∧ c0 ≠ c' ∧ c0 ≠ h'.objs.size := fun {c0} e => ⟨fun z => by rw [z, hP] at e; exact absurd (Option.some.inj e).symm (codeO_ne ps), ne_of_none e nC, ne_of_none e nF⟩
    refine ⟨.ref h'.objs.size, _, put I1, rfl, k h'.objs.size c' _ (fun b o nb e => ?_) (fun b e => ?_) ⟨_, ?_, by rw [eL]; exact PySem.TriplesOk_snoc _ _ _ _ ht, fun p' cv hcv => ?_⟩ nF upd_same ?_⟩
    · rw [upd_ne (ne_of_none e nF), upd_ne (ne_of_none e nC), upd_ne nb]
      exact e
    · have n1 : b ≠ h'.objs.size := fun z => by rw [z, upd_same] at e; cases e
      rw [upd_ne n1] at e
      have n2 : b ≠ c' := fun z => by rw [z, upd_same] at e; cases e
      rw [upd_ne n2] at e
      have n3 : b ≠ P := fun z => by rw [z, upd_same] at e; cases e
      rw [upd_ne n3] at e
      exact e
    · rw [upd_ne nfP, upd_ne nPC, upd_same]
    · rw [eL] at hcv
      rcases among_app _ ht hcv with z | z
      · obtain ⟨c0, e1, e2⟩ := ha p' cv z
        obtain ⟨m1, m2, m3⟩ := cO e2
        exact ⟨c0, e1, by rw [upd_ne m3, upd_ne m2, upd_ne m1]; exact e2⟩
      · exact ⟨c', z, by rw [upd_ne nfc]; exact upd_same⟩
    · rw [upd_ne nfc]; exact upd_same
  | some cv =>
    obtain ⟨c', e, hco⟩ := ha pos cv hc
    subst e
    refine PySem.W.kla_makeFunctionHit (mg := X.mg) (c := c) (P := P) (ps := ps) (closure_ok (hfree I.ok)) I.ok.glob (I.mod.glob.keeps I.bk) hcode (TB.code.keeps I.bk) hP' ht hc bP fun ctv h' tk hx hsz => ?_
    have I1 : Inv X pins σ H { s with heap := h', toks := tk } := I.kept (t' := tk) hx
    have nF : H h'.objs.size = none := I.hok.fresh hsz
    refine ⟨.ref h'.objs.size, _, put I1, rfl, k h'.objs.size c' _ (fun b o nb e => ?_) (fun b e => ?_) ⟨ps, ?_, ht, fun p' cv hcv => ?_⟩ nF upd_same ?_⟩
    · rw [upd_ne (ne_of_none e nF)]; exact e
    · have n1 : b ≠ h'.objs.size := fun z => by rw [z, upd_same] at e; cases e
      rw [upd_ne n1] at e; exact e
    · rw [upd_ne (ne_of_none hP nF)]; exact hP
    · obtain ⟨c0, e1, e2⟩ := ha p' cv hcv
      exact ⟨c0, e1, by rw [upd_ne (ne_of_none e2 nF)]; exact e2⟩
    · rw [upd_ne (ne_of_none hco nF)]; exact hco
end
end My

set_option Elab.async false
set_option linter.all false
set_option maxRecDepth 100000
set_option maxHeartbeats 4000000
/-! S7: a def that returns what holds its own names: behind it their cells are tracked. -/
namespace My
open PySem PySem.Spec PyProof.Rows L2 LamX NdefX
/-- what grew with new cells tracked -/
theorem un_new {fs : List Addr} {cs : Cells} {H H2 : Hp} {h h' : Heap} (u : Un fs [] H H2 h h') (nw : ∀ c o, cs.lookup c = some o → h.get? c = none ∧ H2 c = none) : Un fs [] H (upC cs H2) h h' := by
  have out : ∀ {b : Addr} {o : Obj}, h.get? b = some o → cs.lookup b = none := fun {b o} e => by
    cases hl : cs.lookup b with
    | none => rfl
    | some o' => rw [(nw b o' hl).1] at e; cases e
  have out2 : ∀ {b : Addr} {v : HO}, H2 b = some v → cs.lookup b = none := fun {b v} e => by
    cases hl : cs.lookup b with
    | none => rfl
    | some o' => rw [(nw b o' hl).2] at e; cases e
  refine ⟨u.keep, u.slot, fun b o e n hx => ?_, u.there, fun b xs e => ?_, fun b o v e => ?_, fun b ps e => ?_⟩
  · rw [upC_out (out e)]; exact u.free b o e n hx
  · have := u.tups b xs e
    rw [upC_out (out2 this)]; exact this
  · have := u.frzs b o v e
    rw [upC_out (out2 this)]; exact this
  · obtain ⟨m, q⟩ := u.tbls b ps e
    exact ⟨m, by rw [upC_out (out2 q)]; exact q⟩
section
variable {CX : CXT} {P : Program} {w : World} {K : PySem.W.Frag} {mg : Str → Option Value} {base : Heap} {k : Nat} {f : Addr} {name qual : Str} {params : Arguments} {e : Expr} {rp : Pos} {scope : Scope} {dV kV doc pm cdv ct oc : Value} {an od : Option Addr} {osl : Array (Option Value)} {N ps : List Str} {sp : Sp} {fr : List Str} {js : List Nat} {te : List V → TE}
/-- THE RULE: def f(..): return e -/
theorem fn_ret1 (lk : K.lookup f = some ⟨oc, od, .func (PySem.W.fnOf name qual params [.Return (some e) rp] scope dV kV doc pm an cdv ct), osl⟩) (hcd : PySem.W.codeIn K cdv qual = true) (S : FnScope N ps scope)
    (len : ∀ vs H Q E, sp vs H Q E → vs.length = ps.length) {lsc : Scope} (hfree : ∀ y ∈ lsc.names, y.2 = .free → scope.names.lookup y.1 = some .cell ∨ scope.names.lookup y.1 = some .free) (hfr : ∀ y ∈ fr, (y, NameKind.free) ∈ lsc.names) (hjs : js.map (fun j => N[j]?) = fr.map some)
    (hbody : ∀ (A : Around) (outer : List PySem.Env) (s : Shared) (H : Hp) (vs : List V) (Q : VK) (E : XK), Room k (A.deeper (envOfC qual scope s.heap.objs.size f cdv)) → sp vs H Q E →
      ∃ te, PE (cxOf CX P w K mg base N qual scope f cdv A outer s H E).nox e te ∧ te (L2.start N vs) H fun v H' => ∀ cs : Cells, CsAt (cloFrom (envOfC qual scope s.heap.objs.size f cdv).cells lsc.names []) fr (js.map (slotAt (L2.start N vs))) cs → (∀ c o, cs.lookup c = some o → H c = none ∧ H' c = none ∧ ∃ x, o.data = .cell x) → Q v (upC cs H')) :
    FnOk P w K mg base CX (k + 1) f (PySem.W.fnOf name qual params [.Return (some e) rp] scope dV kV doc pm an cdv ct) ps sp := by
  refine ⟨len, fun A outer s H args us vs Q E hr e0 hb r hsp => ?_⟩
  have hl := len _ _ _ _ hsp
  have KX : K.In s.heap := e0.mod.kin.keeps fun b o e => (e0.bs b o e).1
  have lim : s.heap.NoLimit := e0.mod.nolimit.keeps fun b o e => (e0.bs b o e).1
  have hkind : ∀ y ∈ ps.zip us, scope.names.lookup y.1 = some .local ∨ (scope.names.lookup y.1 = some .cell ∧ ((cellsFrom (s.heap.objs.size + 1) scope.names []).lookup y.1).isSome = true) := fun ⟨n, v⟩ hy => by
    rcases S.par n (List.of_mem_zip hy).1 with q | q
    · exact .inl q
    · exact .inr ⟨q, PySem.W.cellsFrom_some _ _ _ (.inl q)⟩
  refine codeAny_call_function hr.depth (KX _ _ lk) rfl S.co S.gen rfl (PySem.W.codeRec_of KX hcd) (hb _ _ _ _ ?_)
  refine wpAny_newFunctionEnv_cells S.kind hkind fun env he s1 x => ?_
  subst he
  refine ⟨lim.keeps x.toInCall.keep, codeAny_func ?_⟩
  obtain ⟨te, ht, hq⟩ := hbody A outer s H vs Q E (hr.deeper _) hsp
  have I : Inv (cxOf CX P w K mg base N qual scope f cdv A outer s H E) [] (L2.start N vs) H s1 := inv_start S hr.hd e0 hl r x
  refine wpAny_execs_cons (wpAny_Return_some (wpAny_mono (ht.run [] s1 (L2.start N vs) H _ (I.wish _) hq) (fun u s2 z => ?_) fun _ _ z => False.elim z))
  obtain ⟨v, H', J, rv, q⟩ := z
  have J' : Inv (cxOf CX P w K mg base N qual scope f cdv A outer s H E) [] (L2.start N vs) H' s2 := J.unwish
  have cp : Caps (cxOf CX P w K mg base N qual scope f cdv A outer s H E) (cloFrom (envOfC qual scope s.heap.objs.size f cdv).cells lsc.names []) fr js := Caps.made J'.ok hfree hfr hjs
  obtain ⟨Lo, nb, C1⟩ := loose_of rfl (fun _ => rfl) J' cp
  have un : Un (frs outer) [] H H' s.heap s2.heap := J'.base
  have young : ∀ c o, (csOf s2.heap (cloFrom (envOfC qual scope s.heap.objs.size f cdv).cells lsc.names [])).lookup c = some o → s.heap.objs.size ≤ c := fun c o e => by
    obtain ⟨_, y, hy⟩ := cs_get e
    exact J'.ok.cab y c rfl (cp.sub y c hy)
  have new0 : ∀ c o, (csOf s2.heap (cloFrom (envOfC qual scope s.heap.objs.size f cdv).cells lsc.names [])).lookup c = some o → s.heap.get? c = none := fun c o e => by
    cases g : s.heap.get? c with
    | none => rfl
    | some ob => exact absurd (Heap.lt_size g) (Nat.not_lt.mpr (young c o e))
  have newH : ∀ c o, (csOf s2.heap (cloFrom (envOfC qual scope s.heap.objs.size f cdv).cells lsc.names [])).lookup c = some o → H c = none := fun c o e => e0.hok.fresh (young c o e)
  have Lo' : Loose (csOf s2.heap (cloFrom (envOfC qual scope s.heap.objs.size f cdv).cells lsc.names [])) (frs (cxOf CX P w K mg base N qual scope f cdv A outer s H E).stack) H' s2.heap := Lo
  exact ⟨v, upC _ H', J'.os, J'.bare, un_new un (fun c o e => ⟨new0 c o e, (Lo' c o e).1⟩), hok_up Lo' J'.hok, rv, q _ C1 fun c o e => ⟨newH c o e, (Lo' c o e).1, by
    obtain ⟨_, y, hy⟩ := cs_get e
    obtain ⟨o', x, e', hd⟩ := C1.all y c hy
    rw [e] at e'
    cases e'
    exact ⟨x, hd⟩⟩⟩
end
end My

set_option Elab.async false
set_option linter.all false
set_option maxRecDepth 100000
set_option maxHeartbeats 4000000
/-! Q1: short words, and the draws of a law over desks. -/
namespace My
open PySem PySem.Spec PyProof.Rows L2
def top (i : Nat) : Stmt := PySem.Challenge.pw_trackedreads_k70_ladders_of_answers.main.body.getD i (.Pass ⟨0, 0, 0, 0⟩)
/-- what stands outside S is as it was -/
def Kp (S : List Addr) (H H' : Hp) : Prop := ∀ q o, q ∉ S → H q = some o → H' q = some o
theorem Kp.refl {S : List Addr} (H : Hp) : Kp S H H := fun _ _ _ h => h
theorem Kp.trans {S : List Addr} {H H1 H2 : Hp} (a : Kp S H H1) (b : Kp S H1 H2) : Kp S H H2 := fun q o n h => b q o n (a q o n h)
theorem Kp.mono {S T : List Addr} {H H1 : Hp} (a : Kp S H H1) (h : ∀ x, x ∈ S → x ∈ T) : Kp T H H1 := fun q o n e => a q o (fun z => n (h q z)) e
theorem Kp.new {S : List Addr} {H : Hp} {p : Addr} {o : HO} (h : H p = none) : Kp S H (upd H p o) := fun q u _ e => by
  rw [upd_ne (ne_of_none e h)]
  exact e
theorem Kp.put {S : List Addr} {H : Hp} {p : Addr} {o : HO} (h : p ∈ S) : Kp S H (upd H p o) := fun q u n e => by
  rw [upd_ne (fun z => n (by rw [z]; exact h))]
  exact e
theorem Kp.same {H H1 : Hp} (a : Kp [] H H1) : Same H H1 := fun q o e => a q o (by simp) e
theorem Kp.of_same {S : List Addr} {H H1 : Hp} (a : Same H H1) : Kp S H H1 := fun q o _ e => a q o e
section
variable {X : Cx} {a b : Expr} {ta tb : TE} {pos : Pos}
theorem ixl (ha : PE X a ta) (hb : PE X b tb) (hs : PlainIx b := by exact fun _ _ => rfl) : PE X (.Subscript a b pos) (tOp (rIxL X.K) ta tb) := pe_ix ix_list ha hb hs
theorem ixt (ha : PE X a ta) (hb : PE X b tb) (hs : PlainIx b := by exact fun _ _ => rfl) : PE X (.Subscript a b pos) (tOp (rIxT X.K) ta tb) := pe_ix ix_tup ha hb hs
def rGetL (K : PySem.W.Frag) : V → V → Hp → VK → Prop := fun x y H Q => ∃ (p : Addr) (xs : List V) (i : Nat) (v : V), x = .ref p ∧ y = .int i ∧ SqL K H p xs ∧ xs[i]? = some v ∧ Q v H
theorem get_list : PGet X (rGetL X.K) := by
  intro pins s σ H o i ov iv Q I ro ri h
  obtain ⟨p, xs, j, v, rfl, rfl, hq, he, q⟩ := h
  cases ro
  obtain ⟨t, rfl⟩ := ri
  obtain ⟨its, r, pl, hz⟩ := I.list hq
  obtain ⟨w, ew, rw'⟩ := r.get he
  have hl := r.length
  have hn := line63
  have hj : j < its.length := (List.getElem?_eq_some_iff.mp ew).1
  exact wpAny_getItem_list pl.isList (by omega) (by omega) (by simpa using ew) ⟨v, H, I, rw', q⟩
end
/-- the built-ins that the module leaves as they are -/
structure Bt (mg : Str → Option Value) : Prop where
  int : mg "int" = none
  len : mg "len" = none
  abs : mg "abs" = none
  list : mg "list" = none
  str : mg "str" = none
  range : mg "range" = none
  enumerate : mg "enumerate" = none
  isinstance : mg "isinstance" = none
  tuple : mg "tuple" = none
  set : mg "set" = none
  all : mg "all" = none
  any : mg "any" = none
  max : mg "max" = none
  min : mg "min" = none
  sorted : mg "sorted" = none
  bool : mg "bool" = none
theorem str_int_none : bootBuiltins "int" = some (.type "int") := by decide +kernel
theorem boot_abs' : bootBuiltins "abs" = some (.builtin "abs") := by decide +kernel
theorem boot_list' : bootBuiltins "list" = some (.type "list") := by decide +kernel

/-! ### the bag -/
def BagAt (H : Hp) (b : Addr) (n : Int) : Prop := ∃ d x c : Int, H b = some (.lst [.int d, .int x, .int c]) ∧ 0 ≤ d ∧ 0 ≤ x ∧ x < 4611686018427387904 ∧ 0 ≤ c ∧ c ≤ n
theorem BagAt.kp {S : List Addr} {H H' : Hp} {b : Addr} {n : Int} (h : BagAt H b n) (k : Kp S H H') (hb : b ∉ S) : BagAt H' b n := by
  obtain ⟨d, x, c, h1, h2⟩ := h
  exact ⟨d, x, c, k _ _ hb h1, h2⟩
theorem BagAt.up {H : Hp} {b : Addr} {n m : Int} (h : BagAt H b n) (k : n ≤ m) : BagAt H b m := by
  obtain ⟨d, x, c, h1, h2, h3, h4, h5, h6⟩ := h
  exact ⟨d, x, c, h1, h2, h3, h4, h5, by omega⟩
def spBag (K : PySem.W.Frag) : Sp := fun vs H Q _ => ∃ (a : Addr) (ns : List Int) (i : Int), vs = [.ref a, .int i] ∧ SqL K H a (ns.map V.int) ∧ 0 ≤ i ∧ i ≤ 3 ∧ ∀ (H' : Hp) (b : Addr), Kp [] H H' → H b = none → BagAt H' b 0 → Q (.ref b) H'
def spTake : Sp := fun vs H Q _ => ∃ (b : Addr) (m n : Int), vs = [.ref b, .int m] ∧ BagAt H b n ∧ n < 1000000 ∧ 0 < m ∧ m < 2 ^ 200 ∧ ∀ (H' : Hp) (r : Int), Kp [b] H H' → BagAt H' b (n + 1) → 0 ≤ r → r < m → Q (.int r) H'
def spOf (K : PySem.W.Frag) : Sp := fun vs H Q _ => ∃ (b l : Addr) (n : Int) (xs : List V), vs = [.ref b, .ref l] ∧ BagAt H b n ∧ n < 1000000 ∧ H l = some (.lst xs) ∧ 0 < xs.length ∧ xs.length < 1000 ∧ l ≠ b ∧ ∀ (H' : Hp) (i : Nat) (x : V), Kp [b] H H' → BagAt H' b (n + 1) → xs[i]? = some x → Q x H'
def spWorth : Sp := fun vs H Q _ => ∃ (b : Addr) (n : Int), vs = [.ref b] ∧ BagAt H b n ∧ n < 999998 ∧ ∀ (H' : Hp) (r : Int), Kp [b] H H' → BagAt H' b (n + 2) → -10 ^ 29 ≤ r → r ≤ 10 ^ 29 → Q (.int r) H'
section
variable {P : Program} {w : World} {K : PySem.W.Frag} {mg : Str → Option Value} {base : Heap}
abbrev sBag : Stmt := (top 19)
abbrev sTake : Stmt := (top 20)
abbrev sOf : Stmt := (top 21)
abbrev sWorth : Stmt := (top 22)
theorem scBag : FnScope ["_law_script", "_law_at", "_law_cell", "_law_digits"] ["_law_script", "_law_at"] (defScope sBag) := ⟨rfl, rfl, rfl, by decide +kernel, rfl, by decide +kernel, by decide +kernel⟩
theorem scTake : FnScope ["_law_bag_here", "_law_many", "_law_digit", "_law_mixed"] ["_law_bag_here", "_law_many"] (defScope sTake) := ⟨rfl, rfl, rfl, by decide +kernel, rfl, by decide +kernel, by decide +kernel⟩
theorem scOf : FnScope ["_law_bag_here", "_law_some"] ["_law_bag_here", "_law_some"] (defScope sOf) := ⟨rfl, rfl, rfl, by decide +kernel, rfl, by decide +kernel, by decide +kernel⟩
theorem scWorth : FnScope ["_law_bag_here", "_law_kind"] ["_law_bag_here"] (defScope sWorth) := ⟨rfl, rfl, rfl, by decide +kernel, rfl, by decide +kernel, by decide +kernel⟩
/-- the def's name in the module, and its object -/
structure At (K : PySem.W.Frag) (mg : Str → Option Value) (x : Str) (f : Addr) : Prop where
  g : mg x = some (.ref f)
  k : PySem.W.keepIn K (.ref f) = true
theorem ok_bag {f : Addr} {fd : FuncData} (F : Fun K "_law_bag" "_law_bag" sBag f fd) (B : Bt mg) : FnOk P w K mg base CX0 1 f fd ["_law_script", "_law_at"] (spBag K) := by
  refine F.ok scBag (fun vs H Q E h => ?_) (fun cdv A outer s H vs Q E hr h => ?_)
  · obtain ⟨a, ns, i, rfl, _⟩ := h
    rfl
  · obtain ⟨a, ns, i, rfl, hS, hi0, hi3, k⟩ := h
    have nd := scBag.nd
    refine ⟨_, C8.pss_cut (ps_set (i := 2) nd rfl (Or.inl rfl) (pe_ifExp (pt_cmpR op_lt (pv 1) (pe_callB call_len (by rfl) B.len PySem.boot_len (pa_cons (pv 0) pa_nil)) (nomark _)) (ixl (pv 0) (pv 1)) pe_int))
      (C8.pss_cut (ps_set (i := 3) nd rfl (Or.inl rfl) (pe_ifExp (pt_cmpR op_ge (pe_callB call_abs (by rfl) B.abs boot_abs' (pa_cons (pv 2) pa_nil)) (pe_op op_pow pe_int pe_int) (nomark _)) (pe_callB call_abs (by rfl) B.abs boot_abs' (pa_cons (pv 2) pa_nil)) pe_int))
      (pss_one (ps_ret (pe_lst (pa_cons (pv 3) (pa_cons (pe_op op_add (pe_op op_add (pe_op op_mod (pe_callTy call_int1 (by rfl) B.int str_int_none (pa_cons (pv 2) pa_nil)) pe_int) (pe_op op_mul pe_int (pv 1))) pe_int) (pa_cons pe_int pa_nil))))))), ?_⟩
    refine ⟨fun σ' H' => ∃ z : Int, σ' = [some (.ref a), some (.int i), some (.int z), none] ∧ H' = H, ?_, ?_⟩
    · refine ⟨_, rfl, _, rfl, _, _, rfl, .inl ⟨_, hS, rfl⟩, _, _, rfl, rfl, _, rfl, ?_⟩
      refine ite2 (fun e => ?_) (fun e => ⟨0, rfl, rfl⟩)
      obtain ⟨j, rfl⟩ := Int.eq_ofNat_of_zero_le hi0
      have hj : j < ns.length := by
        have h2 : (j : Int) < ((ns.map V.int).length : Int) := of_decide_eq_true e
        rw [List.length_map] at h2
        omega
      exact ⟨_, rfl, _, rfl, a, _, _, V.int ns[j], rfl, rfl, hS, atI_nat (by rw [List.getElem?_map, List.getElem?_eq_getElem hj]; rfl), ns[j], rfl, rfl⟩
    · rintro σ' H' ⟨z, rfl, rfl⟩
      refine ⟨fun σ' H'' => ∃ y : Int, 0 ≤ y ∧ σ' = [some (.ref a), some (.int i), some (.int z), some (.int y)] ∧ H'' = H', ?_, ?_⟩
      · refine ⟨_, rfl, _, rfl, _, _, rfl, rfl, ⟨by decide, by decide, by decide⟩, _, _, rfl, rfl, _, rfl, ?_⟩
        refine ite2 (fun e => ⟨_, rfl, _, rfl, _, ?_, rfl, rfl⟩) (fun e => ⟨0, by decide, rfl, rfl⟩)
        split <;> omega
      · rintro σ' H'' ⟨y, hy, rfl, rfl⟩
        refine ⟨_, rfl, _, rfl, .inl ⟨_, rfl, _, _, rfl, rfl, (by decide : (0 : Int) < 2305843009213693951), _, rfl, _, _, rfl, rfl, .inl ⟨by decide, by decide⟩, _, _, rfl, rfl, _, _, rfl, rfl, (by show 3 ≤ sizeLine; decide), fun b hb => ?_⟩⟩
        have h1 : 0 ≤ z % 2305843009213693951 := Int.emod_nonneg _ (by decide)
        have h2 : z % 2305843009213693951 < 2305843009213693951 := Int.emod_lt_of_pos _ (by decide)
        exact k _ b (Kp.new hb) hb ⟨y, _, 0, upd_same, hy, by omega, by omega, by decide, by decide⟩
theorem ok_take {f : Addr} {fd : FuncData} (F : Fun K "_law_take" "_law_take" sTake f fd) (B : Bt mg) : FnOk P w K mg base CX0 1 f fd ["_law_bag_here", "_law_many"] spTake := by
  refine F.ok scTake (fun vs H Q E h => ?_) (fun cdv A outer s H vs Q E hr h => ?_)
  · obtain ⟨b, m, n, rfl, _⟩ := h
    rfl
  · obtain ⟨b, m, n, rfl, hB, hn, hm, hm2, k⟩ := h
    have nd := scTake.nd
    refine ⟨_, pss_cons (ps_if (pt_cmpR op_gt (ixl (pv 0) pe_int) pe_int (nomark _))
        (pss_cons (ps_set (i := 2) nd rfl (Or.inl rfl) (pe_op op_mod (pe_callTy call_int1 (by rfl) B.int str_int_none (pa_cons (ixl (pv 0) pe_int) pa_nil)) (pv 1)))
          (pss_cons (ps_asg (pe_op op_fdivW (ixl (pv 0) pe_int) (pv 1)) (pg_sub (pv 0) pe_int set_list)) (pss_one (ps_ret (pv 2))))) pss_nil)
      (pss_cons (ps_asg (pe_op op_add (ixl (pv 0) pe_int) pe_int) (pg_sub (pv 0) pe_int set_list))
      (pss_cons (ps_set (i := 3) nd rfl (Or.inl rfl) (pe_op op_mod (pe_callTy call_int1 (by rfl) B.int str_int_none (pa_cons (pe_op op_pow (pe_op op_add (ixl (pv 0) pe_int) (pe_op op_mul pe_int (ixl (pv 0) pe_int))) pe_int) pa_nil)) pe_int))
      (pss_cons (ps_set (i := 3) nd rfl (Or.inl rfl) (pe_op op_mod (pe_callTy call_int1 (by rfl) B.int str_int_none (pa_cons (pe_op op_pow (pe_op op_add (pv 3) (pe_op op_mul pe_int (ixl (pv 0) pe_int))) pe_int) pa_nil)) pe_int))
      (pss_one (ps_ret (pe_op op_mod (pe_callTy call_int1 (by rfl) B.int str_int_none (pa_cons (pe_op op_fdiv (pv 3) pe_int) pa_nil)) (pv 1))))))), ?_⟩
    obtain ⟨d, x, c, hb, hd, hx, hx2, hc, hc2⟩ := hB
    refine ⟨_, rfl, b, _, _, _, rfl, rfl, SqL.of hb, rfl, _, _, rfl, rfl, _, rfl, ?_⟩
    refine ite2 (fun e => ?_) (fun e => ?_)
    · refine ⟨_, rfl, b, _, _, _, rfl, rfl, SqL.of hb, rfl, .inl ⟨_, rfl, _, rfl, _, _, rfl, rfl, hm, ?_⟩⟩
      refine ⟨_, rfl, b, _, _, _, rfl, rfl, SqL.of hb, rfl, _, rfl, _, _, rfl, rfl, wide_div (b := 200) hm (by omega) (by decide) (by decide), _, rfl, b, _, _, 0, rfl, rfl, hb, rfl, ?_⟩
      refine ⟨_, rfl, ?_⟩
      exact k _ _ (Kp.put (by simp)) ⟨d / m, x, c, upd_same, Int.ediv_nonneg hd (by omega), hx, hx2, hc, by omega⟩ (Int.emod_nonneg _ (by omega)) (Int.emod_lt_of_pos _ hm)
    · refine ⟨_, rfl, b, _, _, _, rfl, rfl, SqL.of hb, rfl, _, _, rfl, rfl, _, rfl, b, _, _, 2, rfl, rfl, hb, rfl, ?_⟩
      have hb2 : ∀ z : Int, upd H b (.lst (List.set [V.int d, V.int x, V.int c] 2 (.int z))) b = some (.lst [.int d, .int x, .int z]) := fun z => upd_same
      have hb3 := hb2 (c + 1)
      have k1 : Kp [b] H (upd H b (.lst (List.set [V.int d, V.int x, V.int c] 2 (.int (c + 1))))) := Kp.put (by simp)
      obtain ⟨H1, e1⟩ : ∃ H1, upd H b (.lst (List.set [V.int d, V.int x, V.int c] 2 (.int (c + 1)))) = H1 := ⟨_, rfl⟩
      rw [e1] at hb3 k1
      clear hb2
      rw [e1]
      refine ⟨_, rfl, b, _, _, _, rfl, rfl, SqL.of hb3, rfl, _, rfl, b, _, _, _, rfl, rfl, SqL.of hb3, rfl, _, _, rfl, rfl, .inl ⟨by decide, by decide⟩, _, _, rfl, rfl, _, _, rfl, rfl, ⟨by decide, by decide, by omega⟩, .inl ⟨_, rfl, _, _, rfl, rfl, (by decide : (0 : Int) < 2305843009213693921), ?_⟩⟩
      obtain ⟨y, hy⟩ : ∃ y, (x + 32452867 * (c + 1)) ^ (3 : Int).toNat % 2305843009213693921 = y := ⟨_, rfl⟩
      have y0 : 0 ≤ y := by rw [← hy]; exact Int.emod_nonneg _ (by decide)
      have y1 : y < 2305843009213693921 := by rw [← hy]; exact Int.emod_lt_of_pos _ (by decide)
      refine ⟨_, rfl, _, rfl, b, _, _, _, rfl, rfl, SqL.of hb3, rfl, _, _, rfl, rfl, .inl ⟨by decide, by decide⟩, _, _, rfl, rfl, _, _, rfl, rfl, ⟨by decide, by decide, by omega⟩, .inl ⟨_, rfl, _, _, rfl, rfl, (by decide : (0 : Int) < 2305843009213693951), ?_⟩⟩
      obtain ⟨z, hz⟩ : ∃ z, (y + 982451653 * (c + 1)) ^ (2 : Int).toNat % 2305843009213693951 = z := ⟨_, rfl⟩
      refine ⟨_, rfl, _, _, rfl, rfl, ⟨by decide, by decide⟩, .inl ⟨_, rfl, _, rfl, _, _, rfl, rfl, hm, ?_⟩⟩
      exact k _ _ k1 ⟨d, x, c + 1, hb3, hd, hx, hx2, by omega, by omega⟩ (Int.emod_nonneg _ (by omega)) (Int.emod_lt_of_pos _ hm)
theorem ok_of {f fT : Addr} {fd dT : FuncData} (F : Fun K "_law_of" "_law_of" sOf f fd) (B : Bt mg) (aT : At K mg "_law_take" fT) (bT : Binds K dT ["_law_bag_here", "_law_many"] []) (oT : FnOk P w K mg base CX0 1 fT dT ["_law_bag_here", "_law_many"] spTake) :
    FnOk P w K mg base CX0 2 f fd ["_law_bag_here", "_law_some"] (spOf K) := by
  refine F.ok scOf (fun vs H Q E h => ?_) (fun cdv A outer s H vs Q E hr h => ?_)
  · obtain ⟨b, l, n, xs, rfl, _⟩ := h
    rfl
  · obtain ⟨b, l, n, xs, rfl, hB, hn, hl, h0, hlen, ne, k⟩ := h
    have nd := scOf.nd
    refine ⟨_, pss_one (ps_ret (ixl (pv 1) (pe_call oT hr (by rfl) aT.g aT.k bT .nil pass0 (pa_cons (pv 0) (pa_cons (pe_callB call_len (by rfl) B.len PySem.boot_len (pa_cons (pv 1) pa_nil)) pa_nil))))), ?_⟩
    have big : ((1000 : Nat) : Int) < 2 ^ 200 := by decide
    refine ⟨_, rfl, _, rfl, _, rfl, _, _, rfl, .inl ⟨_, SqL.of hl, rfl⟩, b, _, n, rfl, hB, hn, by omega, ?_, fun H' r kp hB' r0 r1 => ?_⟩
    · omega
    · obtain ⟨j, rfl⟩ := Int.eq_ofNat_of_zero_le r0
      have hj : j < xs.length := by omega
      exact ⟨l, xs, j, xs[j], rfl, rfl, SqL.of (kp _ _ (by simpa using ne) hl), atI_nat (List.getElem?_eq_getElem hj), k H' j _ kp hB' (List.getElem?_eq_getElem hj)⟩
theorem ok_worth {f fT : Addr} {fd dT : FuncData} (F : Fun K "_law_worth" "_law_worth" sWorth f fd) (aT : At K mg "_law_take" fT) (bT : Binds K dT ["_law_bag_here", "_law_many"] []) (oT : FnOk P w K mg base CX0 1 fT dT ["_law_bag_here", "_law_many"] spTake) :
    FnOk P w K mg base CX0 2 f fd ["_law_bag_here"] spWorth := by
  refine F.ok scWorth (fun vs H Q E h => ?_) (fun cdv A outer s H vs Q E hr h => ?_)
  · obtain ⟨b, n, rfl, _⟩ := h
    rfl
  · obtain ⟨b, n, rfl, hB, hn, k⟩ := h
    have nd := scWorth.nd
    refine ⟨_, pss_cons (ps_set (i := 1) nd rfl (Or.inl rfl) (pe_call oT hr (by rfl) aT.g aT.k bT .nil pass0 (pa_cons (pv 0) (pa_cons pe_int pa_nil))))
      (pss_cons (ps_if (pt_cmpR op_lt (pv 1) pe_int (nomark _)) (pss_one (ps_ret (pe_call oT hr (by rfl) aT.g aT.k bT .nil pass0 (pa_cons (pv 0) (pa_cons pe_int pa_nil))))) pss_nil)
      (pss_cons (ps_if (pt_cmpR op_eq (pv 1) pe_int (nomark _)) (pss_one (ps_ret (pe_call oT hr (by rfl) aT.g aT.k bT .nil pass0 (pa_cons (pv 0) (pa_cons (pe_op op_pow pe_int pe_int) pa_nil))))) pss_nil)
      (pss_one (ps_ret (pe_op op_sub (pe_un un_neg pe_int) (pe_call oT hr (by rfl) aT.g aT.k bT .nil pass0 (pa_cons (pv 0) (pa_cons (pe_op op_pow pe_int pe_int) pa_nil)))))))), ?_⟩
    refine ⟨_, rfl, b, _, n, rfl, hB, by omega, by decide, by decide, fun H1 r k1 hB1 r0 r1 => ?_⟩
    have big : (10 : Int) ^ (29 : Int).toNat = 10 ^ 29 := by decide
    refine ⟨_, rfl, _, _, rfl, rfl, _, rfl, ?_⟩
    refine ite2 (fun e => ?_) (fun e => ?_)
    · refine ⟨_, rfl, b, _, _, rfl, hB1, by omega, by decide, by decide, fun H2 z k2 hB2 z0 z1 => ?_⟩
      exact k _ _ (k1.trans k2) (hB2.up (by omega)) (by omega) (by omega)
    · refine ⟨_, rfl, rfl, _, rfl, ?_⟩
      refine ite2 (fun e => ?_) (fun e => ?_)
      · refine ⟨_, rfl, _, _, rfl, rfl, ⟨by decide, by decide, by decide⟩, b, _, _, rfl, hB1, by omega, by decide, by decide, fun H2 z k2 hB2 z0 z1 => ?_⟩
        exact k _ _ (k1.trans k2) (hB2.up (by omega)) (by omega) (by omega)
      · refine ⟨_, rfl, _, rfl, _, _, rfl, rfl, ⟨by decide, by decide, by decide⟩, b, _, _, rfl, hB1, by omega, by decide, by decide, fun H2 z k2 hB2 z0 z1 => ?_⟩
        refine ⟨_, _, rfl, rfl, ?_⟩
        exact k _ _ (k1.trans k2) (hB2.up (by omega)) (by omega) (by omega)
end
end My

set_option Elab.async false
set_option linter.all false
set_option maxRecDepth 100000
set_option maxHeartbeats 4000000
/-! Q2: what is handed to NoName, and copies of it. -/
namespace My
open PySem PySem.Spec PyProof.Rows L2
/-- a value that is no cell's name: None, an int, a bool, a text; a tuple or a list of one text -/
inductive Fld where
  | non | int (i : Int) | bl (b : Bool) | str (x : Str) | tup (x : Str) | lst (x : Str)
def FAt (H : Hp) : Fld → V → Prop
  | .non, v => v = .non
  | .int i, v => v = .int i
  | .bl b, v => v = .bl b
  | .str x, v => v = .str x ∧ PyData.strOk x = true
  | .tup x, v => PyData.strOk x = true ∧ ∃ p, v = .ref p ∧ H p = some (.tup [.str x])
  | .lst x, v => PyData.strOk x = true ∧ ∃ p, v = .ref p ∧ H p = some (.lst [.str x])
def Fld.data : Fld → PyData
  | .non => .none
  | .int i => .int i
  | .bl b => .bool b
  | .str x => .str x
  | .tup x => .tuple [.str x]
  | .lst x => .list [.str x]
theorem Fld.dp {K : PySem.W.Frag} {H : Hp} : ∀ {f : Fld} {v : V}, FAt H f v → Dp K H v f.data
  | .non, _, h => by cases h; exact .non
  | .int i, _, h => by cases h; exact .int i
  | .bl b, _, h => by cases h; exact .bl b
  | .str x, _, h => by cases h.1; exact .str x
  | .tup x, _, ⟨_, p, e, hp⟩ => by
    subst e
    exact .tup (SqT.of hp) (.cons (.str _) .nil)
  | .lst x, _, ⟨_, p, e, hp⟩ => by
    subst e
    exact .lst (SqL.of hp) (.cons (.str _) .nil)
theorem Fld.shaped {H : Hp} : ∀ {f : Fld} {v : V}, FAt H f v → SeqAt.shaped f.data = true
  | .non, _, _ => by decide
  | .int _, _, _ => by unfold SeqAt.shaped Fld.data; simp [PyData.canLay0, PyData.depth]
  | .bl _, _, _ => by unfold SeqAt.shaped Fld.data; simp [PyData.canLay0, PyData.depth]
  | .str _, _, h => by unfold SeqAt.shaped Fld.data; simp [PyData.canLay0, PyData.depth, h.2]
  | .tup _, _, h => by unfold SeqAt.shaped Fld.data; simp [PyData.canLay0, PyData.canLayAll0, PyData.depth, PyData.depthAll, h.1]
  | .lst _, _, h => by unfold SeqAt.shaped Fld.data; simp [PyData.canLay0, PyData.canLayAll0, PyData.depth, PyData.depthAll, h.1]
theorem Fld.eqv (f : Fld) : PyData.eqv f.data f.data = true := by
  cases f <;> simp [Fld.data, PyData.eqv, PyData.eqvAll]
theorem FAt.same {H H' : Hp} (s : Kp [] H H') : ∀ {f : Fld} {v : V}, FAt H f v → FAt H' f v
  | .non, _, h => h
  | .int _, _, h => h
  | .bl _, _, h => h
  | .str _, _, h => h
  | .tup _, _, ⟨o, p, e, hp⟩ => ⟨o, p, e, s _ _ (by simp) hp⟩
  | .lst _, _, ⟨o, p, e, hp⟩ => ⟨o, p, e, s _ _ (by simp) hp⟩
def Flat (v : V) : Prop := v = .non ∨ (∃ i, v = .int i) ∨ (∃ x, v = .str x) ∨ ∃ b, v = .bl b
/-- copied(v), one level more: a list's or tuple's entry is copied too -/
def spCp (deep : Prop) : Sp := fun vs H Q _ => ∃ v : V, vs = [v] ∧ ((Flat v ∧ Q v H) ∨ (deep ∧ ∃ (p : Addr) (x : Str), v = .ref p ∧
  ((H p = some (.tup [.str x]) ∧ ∀ H' q, Kp [] H H' → H' q = some (.tup [.str x]) → Q (.ref q) H') ∨ (H p = some (.lst [.str x]) ∧ ∀ H' q, Kp [] H H' → H' q = some (.lst [.str x]) → Q (.ref q) H'))))
def spCopy : Sp := fun vs H Q _ => ∃ (v : V) (f : Fld), vs = [v] ∧ FAt H f v ∧ ∀ H' v', Kp [] H H' → FAt H' f v' → Q v' H'
section
variable {P : Program} {w : World} {K : PySem.W.Frag} {mg : Str → Option Value} {base : Heap}
theorem boot_isi' : bootBuiltins "isinstance" = some (.builtin "isinstance") := by decide +kernel
theorem boot_tup' : bootBuiltins "tuple" = some (.type "tuple") := by decide +kernel
theorem tyL {X : Cx} {pos : Pos} (hg : Gl X "list") (hm : X.mg "list" = none) : PE X (.Name "list" pos) (tC (.ty "list")) := pe_bltn hg hm boot_list' rfl
theorem tyT {X : Cx} {pos : Pos} (hg : Gl X "tuple") (hm : X.mg "tuple" = none) : PE X (.Name "tuple" pos) (tC (.ty "tuple")) := pe_bltn hg hm boot_tup' rfl
abbrev sCopied : Stmt := (top 2)
theorem scCopied : FnScope ["value", "item"] ["value"] (defScope sCopied) := ⟨rfl, rfl, rfl, by decide +kernel, rfl, by decide +kernel, by decide +kernel⟩
theorem Flat.ty {K : PySem.W.Frag} {H : Hp} {v : V} (h : Flat v) : ∃ t : String, TyX K H v (.type t) ∧ PySem.W.kitOne K (.type t) (.type "list") = some false ∧ PySem.W.kitOne K (.type t) (.type "tuple") = some false := by
  rcases h with rfl | ⟨i, rfl⟩ | ⟨x, rfl⟩ | ⟨b, rfl⟩
  · exact ⟨_, .base .non, kit_ty (by decide +kernel), kit_ty (by decide +kernel)⟩
  · exact ⟨_, .base (.int i), kit_ty (by decide +kernel), kit_ty (by decide +kernel)⟩
  · exact ⟨_, .base (.str x), kit_ty (by decide +kernel), kit_ty (by decide +kernel)⟩
  · exact ⟨_, .base (.bl b), kit_ty (by decide +kernel), kit_ty (by decide +kernel)⟩
theorem cp_step {f : Addr} {fd : FuncData} (F : Fun K "copied" "copied" sCopied f fd) (B : Bt mg) (aC : At K mg "copied" f) (bC : Binds K fd ["value"] []) {k : Nat} {sp : Sp} (deep : Prop) (oR : FnOk P w K mg base CX0 k f fd ["value"] sp)
    (hin : deep → ∀ v H Q E, Flat v → Q v H → sp [v] H Q E) : FnOk P w K mg base CX0 (k + 1) f fd ["value"] (spCp deep) := by
  refine F.ok scCopied (fun vs H Q E h => ?_) (fun cdv A outer s H vs Q E hr h => ?_)
  · obtain ⟨v, rfl, _⟩ := h
    rfl
  · obtain ⟨v, rfl, h⟩ := h
    have nd := scCopied.nd
    have hz := sizeLine_eq
    refine ⟨_, pss_cons (ps_if (pt_val (pe_callB call_isi (by rfl) B.isinstance boot_isi' (pa_cons (pv 0) (pa_cons (tyL (by rfl) B.list) pa_nil))))
        (pss_one (ps_ret (pe_lc (own := [("item", 1)]) (g := gName 1) (tt := tYes) rfl nd (pi_list (pv 0)) (blkOk_by (own := [("item", 1)]) (N := ["value", "item"]) (sc := defScope sCopied) (by decide +kernel)) (fun _ _ _ _ _ => pg_name (i := 1) nd rfl (Or.inl rfl)) (fun _ _ _ _ _ => pts_nil)
          (fun _ _ _ _ _ => pe_call oR hr (by rfl) aC.g aC.k bC .nil pass0 (pa_cons (pv 1) pa_nil))))) pss_nil)
      (pss_cons (ps_if (pt_val (pe_callB call_isi (by rfl) B.isinstance boot_isi' (pa_cons (pv 0) (pa_cons (tyT (by rfl) B.tuple) pa_nil))))
        (pss_one (ps_ret (pe_callTy call_tuple_of (by rfl) B.tuple boot_tup' (pa_cons (pe_lc (own := [("item", 1)]) (g := gName 1) (tt := tYes) rfl nd (pi_tup (pv 0)) (blkOk_by (own := [("item", 1)]) (N := ["value", "item"]) (sc := defScope sCopied) (by decide +kernel)) (fun _ _ _ _ _ => pg_name (i := 1) nd rfl (Or.inl rfl)) (fun _ _ _ _ _ => pts_nil)
          (fun _ _ _ _ _ => pe_call oR hr (by rfl) aC.g aC.k bC .nil pass0 (pa_cons (pv 1) pa_nil))) pa_nil)))) pss_nil) (pss_one (ps_ret (pv 0)))), ?_⟩
    rcases h with ⟨hf, q⟩ | ⟨hd, p, x, rfl, ⟨hp, q⟩ | ⟨hp, q⟩⟩
    · obtain ⟨t, ty, k1, k2⟩ := hf.ty (K := K) (H := H)
      refine ⟨_, rfl, _, _, _, _, _, rfl, .ty _, ty, k1, _, rfl, ?_⟩
      refine iteF ?_
      refine ⟨_, rfl, _, _, _, _, _, rfl, .ty _, ty, k2, _, rfl, ?_⟩
      exact iteF ⟨_, rfl, q⟩
    · refine ⟨_, rfl, _, _, _, _, _, rfl, .ty _, .base (.tup hp), kit_ty (r := false) (by decide +kernel), _, rfl, ?_⟩
      refine iteF ?_
      refine ⟨_, rfl, _, _, _, _, _, rfl, .ty _, .base (.tup hp), kit_ty (r := true) (by decide +kernel), _, rfl, ?_⟩
      refine iteT ?_
      refine ⟨_, rfl, p, rfl, ⟨_, SqT.of hp⟩, fun D hD => lc_tup (K := K) (a := p) (xs := [.str x]) (fun j H' => Kp [] H H' ∧ ((j = 0 ∧ H' D = some (.lst [])) ∨ (j = 1 ∧ H' D = some (.lst [.str x])))) ⟨Kp.new hD, .inl ⟨rfl, upd_same⟩⟩ (fun j H' _ e => SqT.of (e.1 _ _ (by simp) hp)) (fun j y H' hx => ?_) (fun H' e => ?_)⟩
      · rintro ⟨kp, e⟩
        have keep : ∀ {o : HO}, Kp [] H (upd H' D o) := fun {o} b u nb e => by rw [upd_ne (fun z => by rw [z, hD] at e; cases e)]; exact kp b u nb e
        match j, hx with
        | 0, hx =>
          cases hx
          rcases e with ⟨_, e⟩ | ⟨z, _⟩
          · exact ⟨rfl, _, rfl, hin hd _ _ _ _ (.inr (.inr (.inl ⟨_, rfl⟩))) ⟨[], e, (by show 0 < sizeLine; omega), keep, .inr ⟨rfl, upd_same⟩⟩⟩
          · cases z
        | j + 1, hx => cases hx
      · obtain ⟨kp, ⟨z, _⟩ | ⟨_, e1⟩⟩ := e
        · cases z
        · exact ⟨D, _, rfl, .inl ⟨SqL.of e1, fun t ht => q _ t (kp.trans (Kp.new ht)) upd_same⟩⟩
    · refine ⟨_, rfl, _, _, _, _, _, rfl, .ty _, .base (.lst hp), kit_ty (r := true) (by decide +kernel), _, rfl, ?_⟩
      refine iteT ?_
      refine ⟨_, rfl, p, rfl, ⟨_, SqL.of hp⟩, fun D hD => lc_list (K := K) (a := p) (xs := [.str x]) (fun j H' => Kp [] H H' ∧ ((j = 0 ∧ H' D = some (.lst [])) ∨ (j = 1 ∧ H' D = some (.lst [.str x])))) ⟨Kp.new hD, .inl ⟨rfl, upd_same⟩⟩ (fun j H' _ e => SqL.of (e.1 _ _ (by simp) hp)) (fun j y H' hx => ?_) (fun H' e => ?_)⟩
      · rintro ⟨kp, e⟩
        have keep : ∀ {o : HO}, Kp [] H (upd H' D o) := fun {o} b u nb e => by rw [upd_ne (fun z => by rw [z, hD] at e; cases e)]; exact kp b u nb e
        match j, hx with
        | 0, hx =>
          cases hx
          rcases e with ⟨_, e⟩ | ⟨z, _⟩
          · exact ⟨rfl, _, rfl, hin hd _ _ _ _ (.inr (.inr (.inl ⟨_, rfl⟩))) ⟨[], e, (by show 0 < sizeLine; omega), keep, .inr ⟨rfl, upd_same⟩⟩⟩
          · cases z
        | j + 1, hx => cases hx
      · obtain ⟨kp, ⟨z, _⟩ | ⟨_, e1⟩⟩ := e
        · cases z
        · exact q _ D kp e1
theorem ok_copied {f : Addr} {fd : FuncData} (F : Fun K "copied" "copied" sCopied f fd) (B : Bt mg) (aC : At K mg "copied" f) (bC : Binds K fd ["value"] []) : FnOk P w K mg base CX0 3 f fd ["value"] spCopy := by
  have o0 : FnOk P w K mg base CX0 1 f fd ["value"] (fun _ _ _ _ => False) := ⟨fun _ _ _ _ h => h.elim, fun _ _ _ _ _ _ _ _ _ _ _ _ _ h => h.elim⟩
  have o1 := cp_step F B aC bC False o0 fun z => z.elim
  have o2 := cp_step F B aC bC True o1 fun _ v H Q E h q => ⟨v, rfl, .inl ⟨h, q⟩⟩
  refine o2.imp fun vs H Q E ⟨v, f, e, h, q⟩ => ⟨v, e, ?_⟩
  cases f with
  | non => exact .inl ⟨.inl h, q H v (Kp.refl H) h⟩
  | int i => exact .inl ⟨.inr (.inl ⟨_, h⟩), q H v (Kp.refl H) h⟩
  | bl b => exact .inl ⟨.inr (.inr (.inr ⟨_, h⟩)), q H v (Kp.refl H) h⟩
  | str x => exact .inl ⟨.inr (.inr (.inl ⟨_, h.1⟩)), q H v (Kp.refl H) h⟩
  | tup x =>
    obtain ⟨ok, p, rfl, hp⟩ := h
    exact .inr ⟨True.intro, p, x, rfl, .inl ⟨hp, fun H' q' k e => q H' _ k ⟨ok, q', rfl, e⟩⟩⟩
  | lst x =>
    obtain ⟨ok, p, rfl, hp⟩ := h
    exact .inr ⟨True.intro, p, x, rfl, .inr ⟨hp, fun H' q' k e => q H' _ k ⟨ok, q', rfl, e⟩⟩⟩
end
end My

set_option Elab.async false
set_option linter.all false
set_option maxRecDepth 100000
set_option maxHeartbeats 4000000
/-! Q3: NoName made and raised. -/
namespace My
open PySem PySem.Spec PyProof.Rows L2
/-- C.__init__(self, v): the field f is a copy of v -/
def spIni (K : PySem.W.Frag) (f : Str) : Sp := fun vs H Q _ => ∃ (a C : Addr) (v : V) (fl : Fld), vs = [.ref a, v] ∧ XC K C ∧ PySem.W.findIn K (.ref C) f = some none ∧ H a = some (exo a C none) ∧ FAt H fl v ∧
  ∀ H' dx v', Kp [a] H H' → H dx = none → dx ≠ a → FAt H' fl v' → H' a = some (exo a C (some dx)) → H' dx = some (exd dx [(f, v')]) → Q .non H'
theorem FAt.but {H H' : Hp} {S : List Addr} (s : Kp S H H') (hS : ∀ x ∈ S, ∀ o, H x = some o → ∃ φ, o = .ext φ) : ∀ {f : Fld} {v : V}, FAt H f v → FAt H' f v
  | .non, _, h => h
  | .int _, _, h => h
  | .bl _, _, h => h
  | .str _, _, h => h
  | .tup _, _, ⟨o, p, e, hp⟩ => ⟨o, p, e, s _ _ (fun z => by obtain ⟨φ, w⟩ := hS _ z _ hp; cases w) hp⟩
  | .lst _, _, ⟨o, p, e, hp⟩ => ⟨o, p, e, s _ _ (fun z => by obtain ⟨φ, w⟩ := hS _ z _ hp; cases w) hp⟩
theorem back0 {H H' : Hp} {x : Addr} {S : List Addr} (k : Kp S H H') (hx : x ∉ S) (h : H' x = none) : H x = none := by
  cases e : H x with
  | none => rfl
  | some o => rw [k x o hx e] at h; cases h
/-- a class of errors with one field -/
structure Cl (P : Program) (w : World) (K : PySem.W.Frag) (mg : Str → Option Value) (base : Heap) (x f : Str) (C : Addr) : Prop where
  g : mg x = some (.ref C)
  t : XC K C
  no : PySem.W.findIn K (.ref C) f = some none
  ini : ∃ (fI : Addr) (fd : FuncData), PySem.W.findIn K (.ref C) "__init__" = some (some (.ref fI)) ∧ PySem.W.typeIn K (.ref fI) = some (.type "function") ∧ FnOk P w K mg base CX0 4 fI fd ["self", f] (spIni K f) ∧
    KBn K fd ["self", f] 2 [] (fun us ws => us ++ ws) (fun us ws => us ++ ws) ∧ KBn K fd ["self", f] 1 [f] (fun us ws => us ++ ws) (fun us ws => us ++ ws)
section
variable {P : Program} {w : World} {K : PySem.W.Frag} {mg : Str → Option Value} {base : Heap} {fC : Addr} {dC : FuncData}
theorem fun_kb {x qual : Str} {st : Stmt} {f : Addr} {fd : FuncData} {ps ks : List Str} {n : Nat} {g : {α : Type} → List α → List α → List α} (F : Fun K x qual st f fd) (hg : ∀ {vs zs : List V} {us ws : List Value}, Vals vs us → Vals zs ws → Vals (g vs zs) (g us ws))
    (h : ∀ (kV doc pm : Value) (an : Option Addr) (cdv ct : Value) (us ws : List Value), us.length = n → ws.length = ks.length → bindArgs (PySem.W.fnOf x qual (defArgs st) (defBody st) (defScope st) .none kV doc pm an cdv ct) ⟨us, ks.zip ws⟩ = pure (ps.zip (g us ws))) :
    KBn K fd ps n ks (fun us ws => g us ws) (fun us ws => g us ws) := by
  obtain ⟨oc, od, kV, doc, pm, an, cdv, ct, osl, rfl, lk, hcd⟩ := F.ex
  exact ⟨fun s us ws _ l1 l2 => .of_eq (h kV doc pm an cdv ct us ws l1 l2), fun a b => hg a b⟩
theorem ini_read {H : Hp} {f : Str} {a C : Addr} {v : V} {fl : Fld} {Q : VK} (T : XC K C) (hno : PySem.W.findIn K (.ref C) f = some none) (ha : H a = some (exo a C none)) (hF : FAt H fl v)
    (q : ∀ H' dx v', Kp [a] H H' → H dx = none → dx ≠ a → FAt H' fl v' → H' a = some (exo a C (some dx)) → H' dx = some (exd dx [(f, v')]) → Q .non H') {N : List Str} (hN : start N [.ref a, v] = [some (.ref a), some v]) :
    tXst K f (tVar 0) (tCall (dvs := []) spCopy (E := E0) (tCons (tVar 1) tNil)) { nx := fun _ H' => Q .non H', rt := Q } (start N [.ref a, v]) H := by
  rw [hN]
  refine ⟨_, rfl, v, fl, rfl, hF, fun H1 v' k1 hF1 => ⟨_, rfl, a, C, rfl, T, hno, .inl ⟨k1 _ _ (by simp) ha, fun dx hdx hne => ?_⟩⟩⟩
  have ne : a ≠ dx := hne.symm
  have k2 : Kp [a] H1 (upd (upd H1 dx (exd dx [(f, v')])) a (exo a C (some dx))) := fun b o nb e => by
    rw [upd_ne (fun z => nb (by rw [z]; simp)), upd_ne (ne_of_none e hdx)]
    exact e
  refine q _ dx v' ((k1.mono (by simp)).trans k2) (back0 k1 (by simp) hdx) hne (hF1.but k2 fun x hx o e => ?_) upd_same (by rw [upd_ne hne]; exact upd_same)
  rw [List.mem_singleton.mp hx, k1 _ _ (by simp) ha] at e
  cases e
  exact ⟨_, rfl⟩
abbrev sNoName : Stmt := (inClass (top 5) 0)
theorem scNoName : FnScope ["self", "name"] ["self", "name"] (defScope sNoName) := ⟨rfl, rfl, rfl, by decide +kernel, rfl, by decide +kernel, by decide +kernel⟩
theorem clNoName {C fI : Addr} {fd : FuncData} (F : Fun K "__init__" "NoName.__init__" sNoName fI fd) (FC : Fun K "copied" "copied" sCopied fC dC) (B : Bt mg) (aC : At K mg "copied" fC) (g : mg "NoName" = some (.ref C)) (t : XC K C) (no : PySem.W.findIn K (.ref C) "name" = some none)
    (iC : PySem.W.findIn K (.ref C) "__init__" = some (some (.ref fI))) (tI : PySem.W.typeIn K (.ref fI) = some (.type "function")) : Cl P w K mg base "NoName" "name" C := by
  have bC : Binds K dC ["value"] [] := FC.binds fun _ _ _ _ _ _ us hl => match us, hl with | [_], _ => rfl
  have oC : FnOk P w K mg base CX0 3 fC dC ["value"] spCopy := ok_copied FC B aC bC
  refine ⟨g, t, no, fI, fd, iC, tI, F.ok scNoName (fun vs H Q E h => ?_) (fun cdv A outer s H vs Q E hr h => ?_), fun_kb F (g := fun us ws => us ++ ws) (fun a b => a.append b) (fun _ _ _ _ _ _ us ws h1 h2 => match us, ws, h1, h2 with | [_, _], [], _, _ => rfl),
    fun_kb F (g := fun us ws => us ++ ws) (fun a b => a.append b) (fun _ _ _ _ _ _ us ws h1 h2 => match us, ws, h1, h2 with | [_], [_], _, _ => rfl)⟩
  · obtain ⟨a, C, v, fl, rfl, _⟩ := h
    rfl
  · obtain ⟨a, C, v, fl, rfl, T, hno, ha, hF, q⟩ := h
    exact ⟨_, pss_one (ps_xst (pv 0) (pe_call oC hr (by rfl) aC.g aC.k bC .nil pass0 (pa_cons (pv 1) pa_nil))), ini_read T hno ha hF q rfl⟩
end
/-- raise C(x) in the heap H1, H the entry's -/
theorem raise_read {CE : Addr} {H H1 : Hp} {E : XK} {f : Str} {fl : Fld} {x : V} {Kf : PySem.W.Frag} (t : XC Kf CE) (no : PySem.W.findIn Kf (.ref CE) f = some none) (hB : ∀ H' dd v, Kp [] H H' → H dd = none → H' dd = some (.xd [(f, v)]) → FAt H' fl v → E (.ref CE) (some dd) H') (k1 : Kp [] H H1)
    (hx : FAt H1 fl x) (a : Addr) (na : H1 a = none) :
    spIni Kf f [.ref a, x] (upd H1 a (exo a CE none)) (fun v H2 => v = .non ∧ ∃ (d : Addr) (fs : List (Str × V)), H2 a = some (exo a CE (some d)) ∧ H2 d = some (exd d fs) ∧ H1 d = none ∧ E (.ref CE) (some d) (upd (del H2 a) d (.xd fs))) (fun _ _ _ => False) := by
  refine ⟨a, CE, _, fl, rfl, t, no, upd_same, hx.same (Kp.new na), fun H2 dx v' k2 hd0 hda hF2 ha hd => ⟨rfl, dx, _, ha, hd, ?_, ?_⟩⟩
  · rw [upd_ne hda] at hd0; exact hd0
  · have hd1 : H1 dx = none := by rw [upd_ne hda] at hd0; exact hd0
    refine hB _ dx v' (fun c o _ e => ?_) (back0 k1 (by simp) hd1) upd_same (hF2.but (S := [a, dx]) (fun c o nc e => ?_) fun c hc o e => ?_)
    · have e1 := k1 c o (by simp) e
      have nca : c ≠ a := ne_of_none e1 na
      have ncd : c ≠ dx := ne_of_none e1 hd1
      rw [upd_ne ncd, del_ne nca]
      exact k2 c o (fun m => nca (List.mem_singleton.mp m)) (by rw [upd_ne nca]; exact e1)
    · have nca : c ≠ a := fun z => nc (by rw [z]; simp)
      have ncd : c ≠ dx := fun z => nc (by rw [z]; simp)
      rw [upd_ne ncd, del_ne nca]; exact e
    · simp only [List.mem_cons, List.mem_nil_iff, or_false] at hc
      rcases hc with rfl | rfl
      · rw [ha] at e; cases e; exact ⟨_, rfl⟩
      · rw [hd] at e; cases e; exact ⟨_, rfl⟩
end My

set_option Elab.async false
set_option linter.all false
set_option maxRecDepth 100000
set_option maxHeartbeats 4000000
/-! Q4: a desk on which cells alone stand: its floor. -/
namespace My
open PySem PySem.Spec PyProof.Rows L2
/-! what is never reached -/
def tDeadE : TE := fun _ _ _ => False
def tDeadT : TT := fun _ _ _ => False
def tDeadS : TS := fun _ _ _ => False
theorem pe_dead {X : Cx} {e : Expr} : PE X e tDeadE := ⟨fun _ _ _ _ _ _ h => (show False from h).elim⟩
theorem pt_dead {X : Cx} {e : Expr} : PT X e tDeadT := ⟨fun _ _ _ _ _ _ h => (show False from h).elim⟩
theorem pss_dead {X : Cx} {st : List Stmt} : PSs X st tDeadS := ⟨fun _ _ _ _ _ _ h => (show False from h).elim⟩
structure MO (P : Program) (w : World) (K : PySem.W.Frag) (mg : Str → Option Value) (base : Heap) (C : Addr) (m : Str) (k : Nat) (ps : List Str) (sp : Sp) (f : Addr) (fd : FuncData) : Prop where
  m : Meth K C m f
  b : Binds K fd ps []
  o : FnOk P w K mg base CX0 k f fd ps sp
/-- the classes of floors, desks and cells -/
structure FlT (K : PySem.W.Frag) (C : Addr) : Prop where
  cl : Cls K C
  no : ∀ f ∈ (["most_runs", "names", "cells", "sources", "effects", "log", "inmost", "batches", "turned"] : List Str), NoAttr K C f
structure DkT (K : PySem.W.Frag) (C : Addr) : Prop where
  cl : Cls K C
  no : NoAttr K C "_floor"
  con : ∃ u, Con K C "MOST_RUNS" (.int 100) u
structure CeT (K : PySem.W.Frag) (C : Addr) : Prop where
  cl : Cls K C
  no : ∀ f ∈ (["name", "_floor", "_now"] : List Str), NoAttr K C f
structure DA where
  d : Addr
  dx : Addr
  f : Addr
  fx : Addr
  nD : Addr
  cD : Addr
  sD : Addr
  eL : Addr
  lL : Addr
def floorF (nD cD sD eL lL tD : Addr) : List (Str × V) := [("most_runs", .int 100), ("names", .ref nD), ("cells", .ref cD), ("sources", .ref sD), ("effects", .ref eL), ("log", .ref lL), ("inmost", .non), ("batches", .int 0), ("turned", .ref tD)]
def cellF (z : Str) (f : Addr) (v : Int) : List (Str × V) := [("name", .str z), ("_floor", .ref f), ("_now", .int v)]
/-- a field that is set to a new object -/
theorem fstep {H Hk : Hp} {f fx p C : Addr} {fs : List (Str × V)} (fs' : List (Str × V)) (o : HO) (ok : Hk f = some (.ins C fx fs)) (kk : Kp [f] H Hk) (hp : Hk p = none) :
    upd Hk p o f = some (.ins C fx fs) ∧ ∃ H', upd (upd Hk p o) f (.ins C fx fs') = H' ∧ H' f = some (.ins C fx fs') ∧ Kp [f] H H' ∧ H' p = some o ∧ H p = none ∧ p ≠ f ∧ ∀ q u, q ≠ f → Hk q = some u → H' q = some u ∧ q ≠ p := by
  have ne : f ≠ p := ne_of_none ok hp
  have h0 : H p = none := by
    cases e : H p with
    | none => rfl
    | some u =>
      have := kk p u (fun z => ne (List.mem_singleton.mp z).symm) e
      rw [hp] at this; cases this
  refine ⟨by rw [upd_ne ne]; exact ok, _, rfl, upd_same, fun q u nq e => ?_, by rw [upd_ne ne.symm]; exact upd_same, h0, ne.symm, fun q u nq e => ?_⟩
  · have e1 := kk q u nq e
    rw [upd_ne (fun z => nq (by rw [z]; simp)), upd_ne (ne_of_none e1 hp)]
    exact e1
  · have n2 : q ≠ p := ne_of_none e hp
    exact ⟨by rw [upd_ne nq, upd_ne n2]; exact e, n2⟩
/-- a field that is set to what is no new object -/
theorem gstep {H Hk : Hp} {f fx C : Addr} {fs : List (Str × V)} (fs' : List (Str × V)) (kk : Kp [f] H Hk) (_ok : Hk f = some (.ins C fx fs)) :
    ∃ H', upd Hk f (.ins C fx fs') = H' ∧ H' f = some (.ins C fx fs') ∧ Kp [f] H H' ∧ ∀ q u, q ≠ f → Hk q = some u → H' q = some u := by
  refine ⟨_, rfl, upd_same, fun q u nq e => ?_, fun q u nq e => ?_⟩
  · rw [upd_ne (fun z => nq (by rw [z]; simp))]; exact kk q u nq e
  · rw [upd_ne nq]; exact e
section
variable {P : Program} {w : World} {K : PySem.W.Frag} {mg : Str → Option Value} {base : Heap} {FC DC CC : Addr}
abbrev sInitF : Stmt := (inClass (top 12) 0)
theorem scInitF : FnScope ["self", "most_runs"] ["self", "most_runs"] (defScope sInitF) := ⟨rfl, rfl, rfl, by decide +kernel, rfl, by decide +kernel, by decide +kernel⟩
def spInitF (FC : Addr) : Sp := fun vs H Q _ => ∃ (f fx : Addr), vs = [.ref f, .int 100] ∧ H f = some (.ins FC fx []) ∧ ∀ H' nD cD sD eL lL tD, Kp [f] H H' → (∀ x ∈ [nD, cD, sD, eL, lL, tD], H x = none) → [f, nD, cD, sD, eL, lL, tD].Nodup →
  H' f = some (.ins FC fx (floorF nD cD sD eL lL tD)) → H' nD = some (.dK []) → H' cD = some (.dK []) → H' sD = some (.dK []) → H' eL = some (.lst []) → H' lL = some (.lst []) → H' tD = some (.dK []) → Q .non H'
theorem ok_initF {f : Addr} {fd : FuncData} (F : Fun K "__init__" "Floor.__init__" sInitF f fd) (T : FlT K FC) : FnOk P w K mg base CX0 1 f fd ["self", "most_runs"] (spInitF FC) := by
  refine F.ok scInitF (fun vs H Q E h => ?_) (fun cdv A outer s H vs Q E hr h => ?_)
  · obtain ⟨f, fx, rfl, _⟩ := h
    rfl
  · obtain ⟨f, fx, rfl, hf, k⟩ := h
    have nd := scInitF.nd
    have hsl := sizeLine_eq
    refine ⟨_, pss_cons (ps_fld (pv 0) (pv 1) rfl) (pss_cons (ps_fld (pv 0) pe_dnewK rfl) (pss_cons (ps_fld (pv 0) pe_dnewK rfl) (pss_cons (ps_fld (pv 0) pe_dnewK rfl) (pss_cons (ps_fld (pv 0) (pe_lst pa_nil) rfl) (pss_cons (ps_fld (pv 0) (pe_lst pa_nil) rfl)
      (pss_cons (ps_fld (pv 0) pe_non rfl) (pss_cons (ps_fld (pv 0) pe_int rfl) (pss_one (ps_fld (pv 0) pe_dnewK rfl))))))))), ?_⟩
    refine ⟨_, rfl, _, rfl, f, FC, fx, _, rfl, hf, T.cl, T.no _ (by simp), (by show 0 < 1000; decide), ?_⟩
    obtain ⟨H1, e1, o1, k1, _⟩ := gstep (H := H) (putF "most_runs" (.int 100) []) (Kp.refl H) hf
    rw [e1]
    intro nD hn
    obtain ⟨o1', H2, e2, o2, k2, n2, fn, nf, st2⟩ := fstep (putF "names" (.ref nD) (putF "most_runs" (.int 100) [])) (.dK []) o1 k1 hn
    refine ⟨_, rfl, f, FC, fx, _, rfl, o1', T.cl, T.no _ (by simp), (by show 1 < 1000; decide), ?_⟩
    rw [e2]
    intro cD hc
    obtain ⟨o2', H3, e3, o3, k3, n3, fc, cf, st3⟩ := fstep (putF "cells" (.ref cD) (putF "names" (.ref nD) (putF "most_runs" (.int 100) []))) (.dK []) o2 k2 hc
    refine ⟨_, rfl, f, FC, fx, _, rfl, o2', T.cl, T.no _ (by simp), (by show 2 < 1000; decide), ?_⟩
    rw [e3]
    intro sD hs
    obtain ⟨o3', H4, e4, o4, k4, n4, fs, sf, st4⟩ := fstep (putF "sources" (.ref sD) (putF "cells" (.ref cD) (putF "names" (.ref nD) (putF "most_runs" (.int 100) [])))) (.dK []) o3 k3 hs
    refine ⟨_, rfl, f, FC, fx, _, rfl, o3', T.cl, T.no _ (by simp), (by show 3 < 1000; decide), ?_⟩
    rw [e4]
    refine ⟨(by show 0 ≤ sizeLine; omega), fun eL he => ?_⟩
    obtain ⟨o4', H5, e5, o5, k5, n5, fe, ef, st5⟩ := fstep (putF "effects" (.ref eL) (putF "sources" (.ref sD) (putF "cells" (.ref cD) (putF "names" (.ref nD) (putF "most_runs" (.int 100) []))))) (.lst []) o4 k4 he
    refine ⟨_, rfl, f, FC, fx, _, rfl, o4', T.cl, T.no _ (by simp), (by show 4 < 1000; decide), ?_⟩
    rw [e5]
    refine ⟨(by show 0 ≤ sizeLine; omega), fun lL hl => ?_⟩
    obtain ⟨o5', H6, e6, o6, k6, n6, fl, lf, st6⟩ := fstep (putF "log" (.ref lL) (putF "effects" (.ref eL) (putF "sources" (.ref sD) (putF "cells" (.ref cD) (putF "names" (.ref nD) (putF "most_runs" (.int 100) [])))))) (.lst []) o5 k5 hl
    refine ⟨_, rfl, f, FC, fx, _, rfl, o5', T.cl, T.no _ (by simp), (by show 5 < 1000; decide), ?_⟩
    rw [e6]
    refine ⟨_, rfl, f, FC, fx, _, rfl, o6, T.cl, T.no _ (by simp), (by show 6 < 1000; decide), ?_⟩
    obtain ⟨H7, e7, o7, k7, st7⟩ := gstep (putF "inmost" .non (putF "log" (.ref lL) (putF "effects" (.ref eL) (putF "sources" (.ref sD) (putF "cells" (.ref cD) (putF "names" (.ref nD) (putF "most_runs" (.int 100) []))))))) k6 o6
    rw [e7]
    refine ⟨_, rfl, f, FC, fx, _, rfl, o7, T.cl, T.no _ (by simp), (by show 7 < 1000; decide), ?_⟩
    obtain ⟨H8, e8, o8, k8, st8⟩ := gstep (putF "batches" (.int 0) (putF "inmost" .non (putF "log" (.ref lL) (putF "effects" (.ref eL) (putF "sources" (.ref sD) (putF "cells" (.ref cD) (putF "names" (.ref nD) (putF "most_runs" (.int 100) [])))))))) k7 o7
    rw [e8]
    intro tD ht
    obtain ⟨o8', H9, e9, o9, k9, n9, ft, tf, st9⟩ := fstep (putF "turned" (.ref tD) (putF "batches" (.int 0) (putF "inmost" .non (putF "log" (.ref lL) (putF "effects" (.ref eL) (putF "sources" (.ref sD) (putF "cells" (.ref cD) (putF "names" (.ref nD) (putF "most_runs" (.int 100) []))))))))) (.dK []) o8 k8 ht
    refine ⟨_, rfl, f, FC, fx, _, rfl, o8', T.cl, T.no _ (by simp), (by show 8 < 1000; decide), ?_⟩
    rw [e9]
    have a3 := st3 nD _ nf n2
    have a4 := st4 nD _ nf a3.1
    have a5 := st5 nD _ nf a4.1
    have a6 := st6 nD _ nf a5.1
    have a9 := st9 nD _ nf (st8 _ _ nf (st7 _ _ nf a6.1))
    have b4 := st4 cD _ cf n3
    have b5 := st5 cD _ cf b4.1
    have b6 := st6 cD _ cf b5.1
    have b9 := st9 cD _ cf (st8 _ _ cf (st7 _ _ cf b6.1))
    have c5 := st5 sD _ sf n4
    have c6 := st6 sD _ sf c5.1
    have c9 := st9 sD _ sf (st8 _ _ sf (st7 _ _ sf c6.1))
    have d6 := st6 eL _ ef n5
    have d9 := st9 eL _ ef (st8 _ _ ef (st7 _ _ ef d6.1))
    have g9 := st9 lL _ lf (st8 _ _ lf (st7 _ _ lf n6))
    refine k H9 nD cD sD eL lL tD k9 (fun x hx => ?_) ?_ o9 a9.1 b9.1 c9.1 d9.1 g9.1 n9
    · simp only [List.mem_cons, List.mem_nil_iff, or_false] at hx
      rcases hx with rfl | rfl | rfl | rfl | rfl | rfl
      · exact fn
      · exact fc
      · exact fs
      · exact fe
      · exact fl
      · exact ft
    · simp only [List.nodup_cons, List.mem_cons, List.mem_nil_iff, or_false, not_or, List.nodup_nil, and_true, not_false_eq_true]
      exact ⟨⟨nf.symm, cf.symm, sf.symm, ef.symm, lf.symm, tf.symm⟩, ⟨a3.2, a4.2, a5.2, a6.2, a9.2⟩, ⟨b4.2, b5.2, b6.2, b9.2⟩, ⟨c5.2, c6.2, c9.2⟩, ⟨d6.2, d9.2⟩, g9.2⟩
abbrev sPlace : Stmt := (inClass (top 12) 2)
theorem scPlace : FnScope ["self"] ["self"] (defScope sPlace) := ⟨rfl, rfl, rfl, by decide +kernel, rfl, by decide +kernel, by decide +kernel⟩
def spPlace (FC : Addr) : Sp := fun vs H Q _ => ∃ (f fx : Addr) (fs : List (Str × V)), vs = [.ref f] ∧ H f = some (.ins FC fx fs) ∧ fs.lookup ("inmost" : Str) = some V.non ∧ Q .non H
theorem ok_place {f : Addr} {fd : FuncData} (F : Fun K "check_place" "Floor.check_place" sPlace f fd) (T : FlT K FC) : FnOk P w K mg base CX0 1 f fd ["self"] (spPlace FC) := by
  refine F.ok scPlace (fun vs H Q E h => ?_) (fun cdv A outer s H vs Q E hr h => ?_)
  · obtain ⟨f, fx, fs, rfl, _⟩ := h
    rfl
  · obtain ⟨f, fx, fs, rfl, hf, hl, q⟩ := h
    refine ⟨_, pss_one (ps_if (pw_and (pt_cmp (pc_notN (pe_fld (pv 0) rfl))) (pw_and1 pt_dead)).pt pss_dead pss_nil), ?_⟩
    exact ⟨_, rfl, f, FC, fx, fs, _, rfl, hf, T.cl, T.no _ (by simp), hl, _, rfl, iteF (iteF q)⟩
abbrev sNote : Stmt := (inClass (top 12) 8)
theorem scNote : FnScope ["self", "name", "worth", "run"] ["self", "name", "worth"] (defScope sNote) := ⟨rfl, rfl, rfl, by decide +kernel, rfl, by decide +kernel, by decide +kernel⟩
def spNote (FC : Addr) : Sp := fun vs H Q _ => ∃ (f fx : Addr) (fs : List (Str × V)) (x y : V), vs = [.ref f, x, y] ∧ H f = some (.ins FC fx fs) ∧ fs.lookup ("inmost" : Str) = some V.non ∧ Q .non H
theorem ok_note {f : Addr} {fd : FuncData} (F : Fun K "note" "Floor.note" sNote f fd) (T : FlT K FC) : FnOk P w K mg base CX0 1 f fd ["self", "name", "worth"] (spNote FC) := by
  refine F.ok scNote (fun vs H Q E h => ?_) (fun cdv A outer s H vs Q E hr h => ?_)
  · obtain ⟨f, fx, fs, x, y, rfl, _⟩ := h
    rfl
  · obtain ⟨f, fx, fs, x, y, rfl, hf, hl, q⟩ := h
    have nd := scNote.nd
    refine ⟨_, pss_cons (ps_set (i := 3) nd rfl (Or.inl rfl) (pe_fld (pv 0) rfl)) (pss_one (ps_if (pw_and (pt_cmp (pc_notN (pv 3))) (pw_and1 pt_dead)).pt pss_dead pss_nil)), ?_⟩
    exact ⟨_, rfl, f, FC, fx, fs, _, rfl, hf, T.cl, T.no _ (by simp), hl, _, rfl, _, rfl, iteF (iteF q)⟩
abbrev sTakeN : Stmt := (inClass (top 12) 1)
theorem scTakeN : FnScope ["self", "name"] ["self", "name"] (defScope sTakeN) := ⟨rfl, rfl, rfl, by decide +kernel, rfl, by decide +kernel, by decide +kernel⟩
def spTakeN (FC : Addr) : Sp := fun vs H Q _ => ∃ (f fx nD : Addr) (fs : List (Str × V)) (z : Str) (kvs : List (Key × V)), vs = [.ref f, .str z] ∧ H f = some (.ins FC fx fs) ∧ fs.lookup ("names" : Str) = some (V.ref nD) ∧ H nD = some (.dK kvs) ∧ valV kvs (Sum.inr z) = none ∧ kvs.length < 1000 ∧ Q .non (upd H nD (.dK (putK kvs (Sum.inr z) (.bl true))))
theorem ok_takeN {f : Addr} {fd : FuncData} (F : Fun K "take_name" "Floor.take_name" sTakeN f fd) (T : FlT K FC) : FnOk P w K mg base CX0 1 f fd ["self", "name"] (spTakeN FC) := by
  refine F.ok scTakeN (fun vs H Q E h => ?_) (fun cdv A outer s H vs Q E hr h => ?_)
  · obtain ⟨f, fx, nD, fs, z, kvs, rfl, _⟩ := h
    rfl
  · obtain ⟨f, fx, nD, fs, z, kvs, rfl, hf, hl, hn, hv, hz, q⟩ := h
    have hu := hu_of hr
    have hsl := sizeLine_eq
    refine ⟨_, pss_cons (ps_if (pt_cmp (pc_din hu (pv 1) (pe_fld (pv 0) rfl))) pss_dead pss_nil) (pss_one (ps_dput hu (pe_fld (pv 0) rfl) (pv 1) pe_bl rfl)), ?_⟩
    refine ⟨_, rfl, _, rfl, f, FC, fx, fs, _, rfl, hf, T.cl, T.no _ (by simp), hl, nD, _, rfl, DGet.k (k := Sum.inr z) hn, _, rfl, ?_⟩
    rw [hv]
    refine iteF ?_
    exact ⟨_, rfl, f, FC, fx, fs, _, rfl, hf, T.cl, T.no _ (by simp), hl, _, rfl, nD, _, rfl, DPut.k (k := Sum.inr z) hn (by omega), q⟩
abbrev sDue : Stmt := (inClass (top 12) 11)
theorem scDue : FnScope ["self", "effect"] ["self"] (defScope sDue) := ⟨rfl, rfl, rfl, by decide +kernel, rfl, by decide +kernel, by decide +kernel⟩
def spDue (FC : Addr) : Sp := fun vs H Q _ => ∃ (f fx eL : Addr) (fs : List (Str × V)), vs = [.ref f] ∧ H f = some (.ins FC fx fs) ∧ fs.lookup ("effects" : Str) = some (V.ref eL) ∧ H eL = some (.lst []) ∧ ∀ q, H q = none → Q (.ref q) (upd H q (.lst []))
theorem ok_due {f : Addr} {fd : FuncData} (F : Fun K "_due" "Floor._due" sDue f fd) (T : FlT K FC) : FnOk P w K mg base CX0 1 f fd ["self"] (spDue FC) := by
  refine F.ok scDue (fun vs H Q E h => ?_) (fun cdv A outer s H vs Q E hr h => ?_)
  · obtain ⟨f, fx, eL, fs, rfl, _⟩ := h
    rfl
  · obtain ⟨f, fx, eL, fs, rfl, hf, hl, he, q⟩ := h
    have nd := scDue.nd
    refine ⟨_, pss_one (ps_ret (pe_lc (own := [("effect", 1)]) (g := gName 1) rfl nd (pi_list (pe_fld (pv 0) rfl)) (blkOk_by (own := [("effect", 1)]) (N := ["self", "effect"]) (sc := defScope sDue) (by decide +kernel)) (fun _ _ _ _ _ => pg_name (i := 1) nd rfl (Or.inl rfl)) (fun _ _ _ _ _ => pts_one pt_dead) (fun _ _ _ _ _ => pe_dead))), ?_⟩
    refine ⟨_, rfl, f, FC, fx, fs, _, rfl, hf, T.cl, T.no _ (by simp), hl, eL, rfl, ⟨_, SqL.of he⟩, fun D hD => lc_list (K := K) (a := eL) (xs := []) (fun _ H' => H' = upd H D (.lst [])) rfl (fun _ H' _ e => ?_) (fun i x H' hx => ?_) (fun H' e => ?_)⟩
    · rw [e]; exact SqL.of (by rw [upd_ne (ne_of_none he hD)]; exact he)
    · cases hx
    · rw [e]; exact q D hD
abbrev sSettle : Stmt := (inClass (top 12) 10)
theorem scSettle : FnScope ["self", "many", "due"] ["self"] (defScope sSettle) := ⟨rfl, rfl, rfl, by decide +kernel, rfl, by decide +kernel, by decide +kernel⟩
def spSettle (FC : Addr) : Sp := fun vs H Q _ => ∃ (f fx nD cD sD eL lL t0 : Addr), vs = [.ref f] ∧ H f = some (.ins FC fx (floorF nD cD sD eL lL t0)) ∧ H eL = some (.lst []) ∧ ∀ H' tD, Kp [f] H H' → H tD = none → H' f = some (.ins FC fx (floorF nD cD sD eL lL tD)) → H' tD = some (.dK []) → Q .non H'
theorem ok_settle {f fU : Addr} {fd dU : FuncData} (F : Fun K "settle" "Floor.settle" sSettle f fd) (T : FlT K FC) (MU : MO P w K mg base FC "_due" 1 ["self"] (spDue FC) fU dU) : FnOk P w K mg base CX0 2 f fd ["self"] (spSettle FC) := by
  refine F.ok scSettle (fun vs H Q E h => ?_) (fun cdv A outer s H vs Q E hr h => ?_)
  · obtain ⟨f, fx, nD, cD, sD, eL, lL, t0, rfl, _⟩ := h
    rfl
  · obtain ⟨f, fx, nD, cD, sD, eL, lL, t0, rfl, hf, he, k⟩ := h
    have nd := scSettle.nd
    refine ⟨_, pss_cons (ps_if (pw_or (pt_cmp (pc_notN (pe_fld (pv 0) rfl))) (pw_or1 (pt_cmpR op_gt (pe_fld (pv 0) rfl) pe_int (nomark _)))).pt (pss_one ps_retN) pss_nil)
      (pss_cons (ps_fld (pv 0) pe_dnewK rfl) (pss_cons (ps_set (i := 1) nd rfl (Or.inl rfl) pe_int)
      (pss_cons (ps_set (i := 2) nd rfl (Or.inl rfl) (pe_meth0 (pv 0) T.cl MU.m MU.o hr MU.b .nil pass0)) (pss_one (ps_while PassesOwn.never (pt_truth (pv 2) (fun _ => rfl)) pss_dead))))), ?_⟩
    refine ⟨_, rfl, f, FC, fx, _, _, rfl, hf, T.cl, T.no _ (by simp), rfl, _, rfl, iteF ?_⟩
    refine ⟨_, rfl, f, FC, fx, _, _, rfl, hf, T.cl, T.no _ (by simp), rfl, _, _, rfl, rfl, _, rfl, iteF ?_⟩
    intro tD ht
    obtain ⟨o1, H1, e1, o2, k1, n1, ft, tf, st⟩ := fstep (floorF nD cD sD eL lL tD) (.dK []) hf (Kp.refl H) ht
    refine ⟨_, rfl, f, FC, fx, _, rfl, o1, T.cl, T.no _ (by simp), (by show 9 < 1000; decide), ?_⟩
    have e1' : upd (upd H tD (.dK [])) f (.ins FC fx (putF "turned" (.ref tD) (floorF nD cD sD eL lL t0))) = H1 := e1
    rw [e1']
    have nef : eL ≠ f := fun z => by rw [z, hf] at he; cases he
    have he1 := (st eL _ nef he).1
    refine ⟨_, rfl, f, _, _, rfl, o2, rfl, f, fx, eL, _, rfl, o2, rfl, he1, fun q hq => ?_⟩
    refine ⟨fun m σ' H' => σ' = [some (.ref f), some (.int 0), some (.ref q)] ∧ H' = upd H1 q (.lst []), ⟨0, rfl, rfl⟩, ?_⟩
    rintro m σ' H' ⟨rfl, rfl⟩
    refine ⟨_, rfl, false, .inl ⟨[], SqL.of upd_same, rfl⟩, iteF ?_⟩
    refine k _ tD (k1.trans (Kp.new hq)) ft ?_ ?_
    · rw [upd_ne (ne_of_none o2 hq)]; exact o2
    · rw [upd_ne (ne_of_none n1 hq)]; exact n1
end
end My

set_option Elab.async false
set_option linter.all false
set_option maxRecDepth 100000
set_option maxHeartbeats 4000000
/-! Q5: cells and their desk. -/
namespace My
open PySem PySem.Spec PyProof.Rows L2
/-- a cell: its name, its place, its own dict, its value -/
structure Ce where
  z : Str
  a : Addr
  ax : Addr
  v : Int
def namesT (cs : List Ce) : List (Key × V) := cs.map fun c => (Sum.inr c.z, V.bl true)
def cellsT (cs : List Ce) : List (Key × V) := cs.map fun c => (Sum.inr c.z, V.ref c.a)
theorem valV_names (cs : List Ce) (z : Str) : (valV (namesT cs) (Sum.inr z)).isSome = decide (z ∈ cs.map Ce.z) := by
  induction cs with
  | nil => rfl
  | cons c r ih =>
    by_cases e : c.z = z
    · have : valV (namesT (c :: r)) (Sum.inr z) = some (.bl true) := valV_pos (p := (Sum.inr c.z, V.bl true)) (by rw [e])
      rw [this, decide_eq_true (by rw [← e]; simp)]
      rfl
    · have ne : ¬ (Sum.inr c.z : Key) = Sum.inr z := fun q => e (Sum.inr.inj q)
      have : valV (namesT (c :: r)) (Sum.inr z) = valV (namesT r) (Sum.inr z) := valV_neg (p := (Sum.inr c.z, V.bl true)) ne
      rw [this, ih]
      have e2 : ¬ z = c.z := fun q => e q.symm
      simp [e2]
theorem valV_cells (cs : List Ce) (z : Str) : (valV (cellsT cs) (Sum.inr z)).isSome = decide (z ∈ cs.map Ce.z) := by
  induction cs with
  | nil => rfl
  | cons c r ih =>
    by_cases e : c.z = z
    · have : valV (cellsT (c :: r)) (Sum.inr z) = some (.ref c.a) := valV_pos (p := (Sum.inr c.z, V.ref c.a)) (by rw [e])
      rw [this, decide_eq_true (by rw [← e]; simp)]
      rfl
    · have ne : ¬ (Sum.inr c.z : Key) = Sum.inr z := fun q => e (Sum.inr.inj q)
      have : valV (cellsT (c :: r)) (Sum.inr z) = valV (cellsT r) (Sum.inr z) := valV_neg (p := (Sum.inr c.z, V.ref c.a)) ne
      rw [this, ih]
      have e2 : ¬ z = c.z := fun q => e q.symm
      simp [e2]
theorem valV_cell {cs : List Ce} {c : Ce} (h : c ∈ cs) (nd : (cs.map Ce.z).Nodup) : valV (cellsT cs) (Sum.inr c.z) = some (.ref c.a) := by
  induction cs with
  | nil => cases h
  | cons b r ih =>
    rw [List.map_cons, List.nodup_cons] at nd
    rcases List.mem_cons.mp h with rfl | h
    · exact valV_pos (p := (Sum.inr c.z, V.ref c.a)) rfl
    · have e : ¬ b.z = c.z := fun q => nd.1 (by rw [q]; exact List.mem_map_of_mem h)
      have ne : ¬ (Sum.inr b.z : Key) = Sum.inr c.z := fun q => e (Sum.inr.inj q)
      show valV ((Sum.inr b.z, V.ref b.a) :: cellsT r) (Sum.inr c.z) = _
      rw [valV_neg ne]
      exact ih h nd.2
theorem valV_out {T : List Ce → List (Key × V)} {cs : List Ce} {z : Str} (hT : (valV (T cs) (Sum.inr z)).isSome = decide (z ∈ cs.map Ce.z)) (h : z ∉ cs.map Ce.z) : valV (T cs) (Sum.inr z) = none := by
  rw [decide_eq_false h] at hT
  cases e : valV (T cs) (Sum.inr z) with
  | none => rfl
  | some x => rw [e] at hT; cases hT
/-- the desk as it stands -/
structure DeskAt (FC DC CC : Addr) (H : Hp) (D : DA) (tD : Addr) (cs : List Ce) : Prop where
  desk : H D.d = some (.ins DC D.dx [("_floor", .ref D.f)])
  floor : H D.f = some (.ins FC D.fx (floorF D.nD D.cD D.sD D.eL D.lL tD))
  names : H D.nD = some (.dK (namesT cs))
  cells : H D.cD = some (.dK (cellsT cs))
  sources : H D.sD = some (.dK (cellsT cs))
  eff : H D.eL = some (.lst [])
  log : H D.lL = some (.lst [])
  turned : H tD = some (.dK [])
  nd : [D.d, D.f, D.nD, D.cD, D.sD, D.eL, D.lL, tD].Nodup
  cell : ∀ c ∈ cs, H c.a = some (.ins CC c.ax (cellF c.z D.f c.v)) ∧ c.a ∉ [D.d, D.f, D.nD, D.cD, D.sD, D.eL, D.lL, tD]
  zs : (cs.map Ce.z).Nodup
  as : (cs.map Ce.a).Nodup
  len : cs.length ≤ 100
def foot (D : DA) (tD : Addr) (cs : List Ce) : List Addr := [D.d, D.f, D.nD, D.cD, D.sD, D.eL, D.lL, tD] ++ cs.map Ce.a
theorem DeskAt.kp {FC DC CC : Addr} {S : List Addr} {H H' : Hp} {D : DA} {tD : Addr} {cs : List Ce} (h : DeskAt FC DC CC H D tD cs) (k : Kp S H H') (n : ∀ x ∈ foot D tD cs, x ∉ S) : DeskAt FC DC CC H' D tD cs := by
  have m : ∀ x ∈ [D.d, D.f, D.nD, D.cD, D.sD, D.eL, D.lL, tD], x ∉ S := fun x hx => n x (List.mem_append_left _ hx)
  exact ⟨k _ _ (m _ (by simp)) h.desk, k _ _ (m _ (by simp)) h.floor, k _ _ (m _ (by simp)) h.names, k _ _ (m _ (by simp)) h.cells, k _ _ (m _ (by simp)) h.sources, k _ _ (m _ (by simp)) h.eff, k _ _ (m _ (by simp)) h.log, k _ _ (m _ (by simp)) h.turned, h.nd,
    fun c hc => ⟨k _ _ (n _ (List.mem_append_right _ (List.mem_map_of_mem hc))) (h.cell c hc).1, (h.cell c hc).2⟩, h.zs, h.as, h.len⟩
theorem DeskAt.there {FC DC CC : Addr} {H : Hp} {D : DA} {tD : Addr} {cs : List Ce} (h : DeskAt FC DC CC H D tD cs) : ∀ x ∈ foot D tD cs, ∃ o, H x = some o := by
  intro x hx
  rcases List.mem_append.mp hx with hx | hx
  · simp only [List.mem_cons, List.mem_nil_iff, or_false] at hx
    rcases hx with rfl | rfl | rfl | rfl | rfl | rfl | rfl | rfl
    · exact ⟨_, h.desk⟩
    · exact ⟨_, h.floor⟩
    · exact ⟨_, h.names⟩
    · exact ⟨_, h.cells⟩
    · exact ⟨_, h.sources⟩
    · exact ⟨_, h.eff⟩
    · exact ⟨_, h.log⟩
    · exact ⟨_, h.turned⟩
  · obtain ⟨c, hc, rfl⟩ := List.mem_map.mp hx
    exact ⟨_, (h.cell c hc).1⟩
section
variable {P : Program} {w : World} {K : PySem.W.Frag} {mg : Str → Option Value} {base : Heap} {FC DC CC : Addr}
abbrev sInitC : Stmt := (inClass (top 15) 0)
theorem scInitC : FnScope ["self", "floor", "name", "value"] ["self", "floor", "name", "value"] (defScope sInitC) := ⟨rfl, rfl, rfl, by decide +kernel, rfl, by decide +kernel, by decide +kernel⟩
def spInitC (CC : Addr) : Sp := fun vs H Q _ => ∃ (a ax f : Addr) (z : Str) (v : Int), vs = [.ref a, .ref f, .str z, .int v] ∧ H a = some (.ins CC ax []) ∧ Q .non (upd H a (.ins CC ax (cellF z f v)))
theorem ok_initC {f : Addr} {fd : FuncData} (F : Fun K "__init__" "Cell.__init__" sInitC f fd) (T : CeT K CC) : FnOk P w K mg base CX0 1 f fd ["self", "floor", "name", "value"] (spInitC CC) := by
  refine F.ok scInitC (fun vs H Q E h => ?_) (fun cdv A outer s H vs Q E hr h => ?_)
  · obtain ⟨a, ax, f, z, v, rfl, _⟩ := h
    rfl
  · obtain ⟨a, ax, f, z, v, rfl, ha, q⟩ := h
    refine ⟨_, pss_cons (ps_fld (pv 0) (pv 2) rfl) (pss_cons (ps_fld (pv 0) (pv 1) rfl) (pss_one (ps_fld (pv 0) (pv 3) rfl))), ?_⟩
    refine ⟨_, rfl, _, rfl, a, CC, ax, _, rfl, ha, T.cl, T.no _ (by simp), (by show 0 < 1000; decide), ?_⟩
    refine ⟨_, rfl, _, rfl, a, CC, ax, _, rfl, upd_same, T.cl, T.no _ (by simp), (by show 1 < 1000; decide), ?_⟩
    refine ⟨_, rfl, _, rfl, a, CC, ax, _, rfl, upd_same, T.cl, T.no _ (by simp), (by show 2 < 1000; decide), ?_⟩
    show Q .non _
    rw [upd_upd, upd_upd]
    exact q
abbrev sCall : Stmt := (inClass (top 15) 1)
theorem scCall : FnScope ["self"] ["self"] (defScope sCall) := ⟨rfl, rfl, rfl, by decide +kernel, rfl, by decide +kernel, by decide +kernel⟩
def spCall (FC CC : Addr) : Sp := fun vs H Q _ => ∃ (a ax f fx : Addr) (z : Str) (v : Int) (fs : List (Str × V)), vs = [.ref a] ∧ H a = some (.ins CC ax (cellF z f v)) ∧ H f = some (.ins FC fx fs) ∧ fs.lookup ("inmost" : Str) = some V.non ∧ fs.lookup ("note" : Str) = none ∧ Q (.int v) H
theorem ok_call {f fN : Addr} {fd dN : FuncData} (F : Fun K "__call__" "Cell.__call__" sCall f fd) (T : CeT K CC) (TF : FlT K FC) (MN : MO P w K mg base FC "note" 1 ["self", "name", "worth"] (spNote FC) fN dN) : FnOk P w K mg base CX0 2 f fd ["self"] (spCall FC CC) := by
  refine F.ok scCall (fun vs H Q E h => ?_) (fun cdv A outer s H vs Q E hr h => ?_)
  · obtain ⟨a, ax, f, fx, z, v, fs, rfl, _⟩ := h
    rfl
  · obtain ⟨a, ax, f, fx, z, v, fs, rfl, ha, hf, hl, hn, q⟩ := h
    refine ⟨_, pss_cons (ps_expr (pe_meth (pe_fld (pv 0) rfl) TF.cl MN.m MN.o hr MN.b .nil pass0 (pa_cons (pe_fld (pv 0) rfl) (pa_cons (pe_fld (pv 0) rfl) pa_nil)))) (pss_one (ps_ret (pe_fld (pv 0) rfl))), ?_⟩
    refine ⟨_, rfl, a, CC, ax, _, _, rfl, ha, T.cl, T.no _ (by simp), rfl, f, fx, fs, rfl, hf, hn, _, rfl, a, CC, ax, _, _, rfl, ha, T.cl, T.no _ (by simp), rfl, _, rfl, a, CC, ax, _, _, rfl, ha, T.cl, T.no _ (by simp), rfl, f, fx, fs, _, _, rfl, hf, hl, ?_⟩
    exact ⟨_, rfl, a, CC, ax, _, _, rfl, ha, T.cl, T.no _ (by simp), rfl, q⟩
abbrev sPut : Stmt := (inClass (top 15) 4)
theorem scPut : FnScope ["self", "value"] ["self", "value"] (defScope sPut) := ⟨rfl, rfl, rfl, by decide +kernel, rfl, by decide +kernel, by decide +kernel⟩
/-- a cell that is given another value -/
def Ce.to (c : Ce) (v : Int) : Ce := { c with v := v }
def spPut (FC DC CC : Addr) : Sp := fun vs H Q _ => ∃ (D : DA) (t0 : Addr) (cs : List Ce) (i : Nat) (c : Ce) (v : Int), vs = [.ref c.a, .int v] ∧ DeskAt FC DC CC H D t0 cs ∧ cs[i]? = some c ∧ ∀ H' tD, Kp [D.f, t0, c.a] H H' → H tD = none → DeskAt FC DC CC H' D tD (cs.set i (c.to v)) → Q .non H'
theorem map_set {α : Type} {cs : List Ce} {i : Nat} {c c' : Ce} (g : Ce → α) (hi : cs[i]? = some c) (e : g c' = g c) : (cs.set i c').map g = cs.map g := by
  rw [List.map_set, e]
  apply List.ext_getElem?
  intro j
  by_cases ij : i = j
  · subst ij
    have lt := (List.getElem?_eq_some_iff.mp hi).1
    rw [List.getElem?_set_self (by rw [List.length_map]; exact lt), List.getElem?_map, hi]
    rfl
  · rw [List.getElem?_set_ne ij]
theorem ok_put {f fP fS : Addr} {fd dP dS : FuncData} (F : Fun K "put" "Cell.put" sPut f fd) (T : CeT K CC) (TF : FlT K FC) (MP : MO P w K mg base FC "check_place" 1 ["self"] (spPlace FC) fP dP) (MS : MO P w K mg base FC "settle" 2 ["self"] (spSettle FC) fS dS) :
    FnOk P w K mg base CX0 3 f fd ["self", "value"] (spPut FC DC CC) := by
  refine F.ok scPut (fun vs H Q E h => ?_) (fun cdv A outer s H vs Q E hr h => ?_)
  · obtain ⟨D, t0, cs, i, c, v, rfl, _⟩ := h
    rfl
  · obtain ⟨D, t0, cs, i, c, v, rfl, hD, hi, k⟩ := h
    have hu := hu_of hr
    have hr1 := hr.mono (by decide : 1 ≤ 2)
    have hsl := sizeLine_eq
    have hc : c ∈ cs := List.mem_of_getElem? hi
    obtain ⟨ha, hn⟩ := hD.cell c hc
    simp only [List.mem_cons, List.mem_nil_iff, or_false, not_or] at hn
    obtain ⟨nd0, nf, nn, nc, ns, ne, nl, nt⟩ := hn
    have hnd := hD.nd
    simp only [List.nodup_cons, List.mem_cons, List.mem_nil_iff, or_false, not_or, List.nodup_nil, and_true, not_false_eq_true] at hnd
    obtain ⟨⟨d1, d2, d3, d4, d5, d6, d7⟩, ⟨f1, f2, f3, f4, f5, f6⟩, ⟨g1, g2, g3, g4, g5⟩, ⟨j1, j2, j3, j4⟩, ⟨m1, m2, m3⟩, ⟨p1, p2⟩, q1⟩ := hnd
    refine ⟨_, pss_cons (ps_expr (pe_meth0 (pe_fld (pv 0) rfl) TF.cl MP.m MP.o hr1 MP.b .nil pass0))
      (C8.pss_cut (ps_if (pt_cmpR op_ne (pv 1) (pe_fld (pv 0) rfl) (nomark _)) (pss_cons (ps_fld (pv 0) (pv 1) rfl) (pss_one (ps_dput hu (pe_fld (pe_fld (pv 0) rfl) rfl) (pe_fld (pv 0) rfl) pe_bl rfl))) pss_nil)
      (pss_one (ps_expr (pe_meth0 (pe_fld (pv 0) rfl) TF.cl MS.m MS.o hr MS.b .nil pass0)))), ?_⟩
    refine ⟨_, rfl, c.a, CC, c.ax, _, _, rfl, ha, T.cl, T.no _ (by simp), rfl, D.f, D.fx, _, rfl, hD.floor, rfl, D.f, D.fx, _, rfl, hD.floor, rfl, ?_⟩
    refine ⟨fun σ' H' => σ' = [some (.ref c.a), some (.int v)] ∧ Kp [t0, c.a] H H' ∧ H' c.a = some (.ins CC c.ax (cellF c.z D.f v)) ∧ ∃ o, H' t0 = some o, ?_, ?_⟩
    · refine ⟨_, rfl, _, rfl, c.a, CC, c.ax, _, _, rfl, ha, T.cl, T.no _ (by simp), rfl, rfl, _, rfl, ?_⟩
      refine ite2 (fun e => ?_) (fun e => ⟨rfl, Kp.refl H, ?_, _, hD.turned⟩)
      · refine ⟨_, rfl, _, rfl, c.a, CC, c.ax, _, rfl, ha, T.cl, T.no _ (by simp), (by show 3 < 1000; decide), ?_⟩
        obtain ⟨H1, e1⟩ : ∃ H1, upd H c.a (.ins CC c.ax (putF "_now" (.int v) (cellF c.z D.f c.v))) = H1 := ⟨_, rfl⟩
        have a1 : H1 c.a = some (.ins CC c.ax (cellF c.z D.f v)) := by rw [← e1]; exact upd_same
        have o1 : ∀ b, b ≠ c.a → H1 b = H b := fun b n => by rw [← e1]; exact upd_ne n
        rw [e1]
        refine ⟨_, rfl, c.a, CC, c.ax, _, _, rfl, a1, T.cl, T.no _ (by simp), rfl, D.f, FC, D.fx, _, _, rfl, (o1 _ (Ne.symm nf)).trans hD.floor, TF.cl, TF.no _ (by simp), rfl, _, rfl, c.a, CC, c.ax, _, _, rfl, a1, T.cl, T.no _ (by simp), rfl, t0, _, rfl, DPut.k (k := Sum.inr c.z) ((o1 _ (Ne.symm nt)).trans hD.turned) (by show 0 < sizeLine; omega), ?_⟩
        refine ⟨rfl, fun b o nb eb => ?_, by rw [upd_ne nt]; exact a1, _, upd_same⟩
        simp only [List.mem_cons, List.mem_nil_iff, or_false, not_or] at nb
        rw [upd_ne nb.1, o1 _ nb.2]
        exact eb
      · have ev : v = c.v := by
          cases h0 : decide (V.int v = V.int c.v) with
          | true => exact V.int.inj (of_decide_eq_true h0)
          | false => exact absurd (show (!decide (V.int v = V.int c.v)) = true by rw [h0]; rfl) e
        rw [ev]; exact ha
    · rintro σ' H1 ⟨rfl, k1, a1, ot, et⟩
      have old : ∀ b o, b ≠ t0 → b ≠ c.a → H b = some o → H1 b = some o := fun b o n1 n2 e => k1 b o (by simp only [List.mem_cons, List.mem_nil_iff, or_false, not_or]; exact ⟨n1, n2⟩) e
      have fl1 := old _ _ f6 (Ne.symm nf) hD.floor
      have ef1 := old _ _ p2 (Ne.symm ne) hD.eff
      refine ⟨_, rfl, c.a, CC, c.ax, _, _, rfl, a1, T.cl, T.no _ (by simp), rfl, D.f, D.fx, _, rfl, fl1, rfl, D.f, D.fx, D.nD, D.cD, D.sD, D.eL, D.lL, t0, rfl, fl1, ef1, fun H2 tD k2 ht fl2 tu2 => ?_⟩
      have old2 : ∀ b o, b ≠ D.f → H1 b = some o → H2 b = some o := fun b o n e => k2 b o (by simpa using n) e
      have htD : H tD = none := by
        cases e : H tD with
        | none => rfl
        | some o =>
          by_cases b1 : tD = t0
          · rw [b1, et] at ht; cases ht
          · by_cases b2 : tD = c.a
            · rw [b2, a1] at ht; cases ht
            · rw [old _ _ b1 b2 e] at ht; cases ht
      have fr : ∀ b o, H b = some o → b ≠ tD := fun b o e z => by rw [← z, e] at htD; cases htD
      refine k H2 tD (fun b o nb e => ?_) htD ?_
      · simp only [List.mem_cons, List.mem_nil_iff, or_false, not_or] at nb
        exact old2 _ _ nb.1 (old _ _ nb.2.1 nb.2.2 e)
      · refine ⟨old2 _ _ (fun z => d1 (by rw [z])) (old _ _ d7 (Ne.symm nd0) hD.desk), fl2, ?_, ?_, ?_, old2 _ _ (Ne.symm f4) ef1, old2 _ _ (Ne.symm f5) (old _ _ q1 (Ne.symm nl) hD.log), tu2, ?_, fun b hb => ?_, ?_, ?_, by rw [List.length_set]; exact hD.len⟩
        · rw [show namesT (cs.set i (c.to v)) = namesT cs from map_set _ hi rfl]
          exact old2 _ _ (Ne.symm f1) (old _ _ g5 (Ne.symm nn) hD.names)
        · rw [show cellsT (cs.set i (c.to v)) = cellsT cs from map_set _ hi rfl]
          exact old2 _ _ (Ne.symm f2) (old _ _ j4 (Ne.symm nc) hD.cells)
        · rw [show cellsT (cs.set i (c.to v)) = cellsT cs from map_set _ hi rfl]
          exact old2 _ _ (Ne.symm f3) (old _ _ m3 (Ne.symm ns) hD.sources)
        · simp only [List.nodup_cons, List.mem_cons, List.mem_nil_iff, or_false, not_or, List.nodup_nil, and_true, not_false_eq_true]
          exact ⟨⟨d1, d2, d3, d4, d5, d6, fr _ _ hD.desk⟩, ⟨f1, f2, f3, f4, f5, fr _ _ hD.floor⟩, ⟨g1, g2, g3, g4, fr _ _ hD.names⟩, ⟨j1, j2, j3, fr _ _ hD.cells⟩, ⟨m1, m2, fr _ _ hD.sources⟩, ⟨p1, fr _ _ hD.eff⟩, fr _ _ hD.log⟩
        · have lt := (List.getElem?_eq_some_iff.mp hi).1
          obtain ⟨j, hj⟩ := List.getElem?_of_mem hb
          by_cases ij : i = j
          · subst ij
            rw [List.getElem?_set_self lt] at hj
            cases hj
            refine ⟨old2 _ _ nf a1, ?_⟩
            simp only [List.mem_cons, List.mem_nil_iff, or_false, not_or]
            exact ⟨nd0, nf, nn, nc, ns, ne, nl, fr _ _ ha⟩
          · rw [List.getElem?_set_ne ij] at hj
            have hbm := List.mem_of_getElem? hj
            obtain ⟨b1, b2⟩ := hD.cell b hbm
            simp only [List.mem_cons, List.mem_nil_iff, or_false, not_or] at b2
            obtain ⟨x0, xf, xn, xc, xs, xe, xl, xt⟩ := b2
            have nba : b.a ≠ c.a := fun z => by
              have h1 : (cs.map Ce.a)[j]? = some b.a := by rw [List.getElem?_map, hj]; rfl
              have h2 : (cs.map Ce.a)[i]? = some c.a := by rw [List.getElem?_map, hi]; rfl
              have hl2 : i < (cs.map Ce.a).length := by rw [List.length_map]; exact lt
              have : (cs.map Ce.a)[i]? = (cs.map Ce.a)[j]? := by rw [h1, h2, z]
              exact ij ((List.getElem?_inj hl2 hD.as).mp this)
            refine ⟨old2 _ _ xf (old _ _ xt nba b1), ?_⟩
            simp only [List.mem_cons, List.mem_nil_iff, or_false, not_or]
            exact ⟨x0, xf, xn, xc, xs, xe, xl, fr _ _ b1⟩
        · rw [map_set (c' := c.to v) Ce.z hi rfl]; exact hD.zs
        · rw [map_set (c' := c.to v) Ce.a hi rfl]; exact hD.as
end
end My

set_option Elab.async false
set_option linter.all false
set_option maxRecDepth 100000
set_option maxHeartbeats 4000000
/-! Q6: what a desk of cells is asked. -/
namespace My
open PySem PySem.Spec PyProof.Rows L2
section
variable {P : Program} {w : World} {K : PySem.W.Frag} {mg : Str → Option Value} {base : Heap} {FC DC CC NN : Addr}
abbrev sVal : Stmt := (inClass (top 15) 2)
theorem scVal : FnScope ["self"] ["self"] (defScope sVal) := ⟨rfl, rfl, rfl, by decide +kernel, rfl, by decide +kernel, by decide +kernel⟩
def spVal (CC : Addr) : Sp := fun vs H Q _ => ∃ (a ax f : Addr) (z : Str) (v : Int), vs = [.ref a] ∧ H a = some (.ins CC ax (cellF z f v)) ∧ Q (.int v) H
theorem ok_val {f : Addr} {fd : FuncData} (F : Fun K "value" "Cell.value" sVal f fd) (T : CeT K CC) : FnOk P w K mg base CX0 1 f fd ["self"] (spVal CC) := by
  refine F.ok scVal (fun vs H Q E h => ?_) (fun cdv A outer s H vs Q E hr h => ?_)
  · obtain ⟨a, ax, f, z, v, rfl, _⟩ := h
    rfl
  · obtain ⟨a, ax, f, z, v, rfl, ha, q⟩ := h
    exact ⟨_, pss_one (ps_ret (pe_fld (pv 0) rfl)), _, rfl, a, CC, ax, _, _, rfl, ha, T.cl, T.no _ (by simp), rfl, q⟩
abbrev sIadd : Stmt := (inClass (top 15) 5)
theorem scIadd : FnScope ["self", "other"] ["self", "other"] (defScope sIadd) := ⟨rfl, rfl, rfl, by decide +kernel, rfl, by decide +kernel, by decide +kernel⟩
def spIadd (FC DC CC : Addr) : Sp := fun vs H Q _ => ∃ (D : DA) (t0 : Addr) (cs : List Ce) (i : Nat) (c : Ce) (v : Int), vs = [.ref c.a, .int v] ∧ DeskAt FC DC CC H D t0 cs ∧ cs[i]? = some c ∧ ∀ H' tD, Kp [D.f, t0, c.a] H H' → H tD = none → DeskAt FC DC CC H' D tD (cs.set i (c.to (c.v + v))) → Q (.ref c.a) H'
theorem ok_iadd {f fP : Addr} {fd dP : FuncData} (F : Fun K "__iadd__" "Cell.__iadd__" sIadd f fd) (T : CeT K CC) (MP : MO P w K mg base CC "put" 3 ["self", "value"] (spPut FC DC CC) fP dP) : FnOk P w K mg base CX0 4 f fd ["self", "other"] (spIadd FC DC CC) := by
  refine F.ok scIadd (fun vs H Q E h => ?_) (fun cdv A outer s H vs Q E hr h => ?_)
  · obtain ⟨D, t0, cs, i, c, v, rfl, _⟩ := h
    rfl
  · obtain ⟨D, t0, cs, i, c, v, rfl, hD, hi, k⟩ := h
    have ha := (hD.cell c (List.mem_of_getElem? hi)).1
    refine ⟨_, pss_cons (ps_expr (pe_meth (pv 0) T.cl MP.m MP.o hr MP.b .nil pass0 (pa_cons (pe_op op_add (pe_fld (pv 0) rfl) (pv 1)) pa_nil))) (pss_one (ps_ret (pv 0))), ?_⟩
    refine ⟨_, rfl, c.a, c.ax, _, rfl, ha, rfl, _, rfl, c.a, CC, c.ax, _, _, rfl, ha, T.cl, T.no _ (by simp), rfl, _, rfl, _, _, rfl, rfl, ?_⟩
    exact ⟨D, t0, cs, i, c, _, rfl, hD, hi, fun H' tD k1 ht hD' => ⟨_, rfl, k H' tD k1 ht hD'⟩⟩
abbrev sInitD : Stmt := (inClass (top 14) 1)
theorem scInitD : FnScope ["self"] ["self"] (defScope sInitD) := ⟨rfl, rfl, rfl, by decide +kernel, rfl, by decide +kernel, by decide +kernel⟩
def spInitD (FC DC CC : Addr) : Sp := fun vs H Q _ => ∃ (d dx : Addr), vs = [.ref d] ∧ H d = some (.ins DC dx []) ∧ ∀ H' D tD, D.d = d → Kp [d] H H' → (∀ x ∈ foot D tD [], x ≠ d → H x = none) → DeskAt FC DC CC H' D tD [] → Q .non H'
theorem ok_initD {f fI : Addr} {fd dI : FuncData} (F : Fun K "__init__" "Desk.__init__" sInitD f fd) (T : DkT K DC) (MkF : Mk K FC fI) (gF : mg "Floor" = some (.ref FC)) (oF : FnOk P w K mg base CX0 1 fI dI ["self", "most_runs"] (spInitF FC)) (bF : Binds K dI ["self", "most_runs"] []) :
    FnOk P w K mg base CX0 3 f fd ["self"] (spInitD FC DC CC) := by
  refine F.ok scInitD (fun vs H Q E h => ?_) (fun cdv A outer s H vs Q E hr h => ?_)
  · obtain ⟨d, dx, rfl, _⟩ := h
    rfl
  · obtain ⟨d, dx, rfl, hd, k⟩ := h
    obtain ⟨u0, con0⟩ := T.con
    refine ⟨_, pss_one (ps_fld (pv 0) (pe_make MkF oF hr (by rfl) gF bF .nil pass0 (pa_cons (pe_con (pv 0) rfl) pa_nil)) rfl), ?_⟩
    refine ⟨_, rfl, d, DC, dx, _, _, _, rfl, hd, T.cl, con0, rfl, fun x xx hx hxx hne => ⟨x, xx, rfl, upd_same, fun H1 nD cD sD eL lL tD k1 fr nd e1 e2 e3 e4 e5 e6 e7 => ⟨rfl, ?_⟩⟩⟩
    have dnx : d ≠ x := ne_of_none hd hx
    have dnxx : d ≠ xx := ne_of_none hd hxx
    have hd1 : H1 d = some (.ins DC dx []) := k1 _ _ (by simpa using dnx) (by rw [upd_ne dnx, upd_ne dnxx]; exact hd)
    have back : ∀ y, upd (upd H xx (.own x)) x (.ins FC xx []) y = none → H y = none := fun y e => by
      have n1 : y ≠ x := fun z => by rw [z, upd_same] at e; cases e
      rw [upd_ne n1] at e
      have n2 : y ≠ xx := fun z => by rw [z, upd_same] at e; cases e
      rw [upd_ne n2] at e
      exact e
    have frn : ∀ y ∈ [nD, cD, sD, eL, lL, tD], y ≠ d := fun y hy z => by have := back y (fr y hy); rw [z, hd] at this; cases this
    refine ⟨_, rfl, d, DC, dx, _, rfl, hd1, T.cl, T.no, (by show 0 < 1000; decide), ?_⟩
    simp only [List.nodup_cons, List.mem_cons, List.mem_nil_iff, or_false, not_or, List.nodup_nil, and_true, not_false_eq_true] at nd
    obtain ⟨f0, g0, j0, m0, p0, q0⟩ := nd
    refine k _ ⟨d, dx, x, xx, nD, cD, sD, eL, lL⟩ tD rfl (fun b o nb e => ?_) (fun y hy ny => ?_) ?_
    · have nb' : b ≠ d := fun z => nb (by rw [z]; simp)
      rw [upd_ne nb']
      exact k1 b o (by simpa using ne_of_none e hx) (by rw [upd_ne (ne_of_none e hx), upd_ne (ne_of_none e hxx)]; exact e)
    · simp only [foot, List.map_nil, List.append_nil, List.mem_cons, List.mem_nil_iff, or_false] at hy
      rcases hy with rfl | rfl | rfl | rfl | rfl | rfl | rfl | rfl
      · exact absurd rfl ny
      · exact hx
      all_goals exact back _ (fr _ (by simp))
    · have a1 := frn nD (by simp)
      have a2 := frn cD (by simp)
      have a3 := frn sD (by simp)
      have a4 := frn eL (by simp)
      have a5 := frn lL (by simp)
      have a6 := frn tD (by simp)
      refine ⟨upd_same, ?_, ?_, ?_, ?_, ?_, ?_, ?_, ?_, fun c hc => (nomatch hc), .nil, .nil, Nat.zero_le _⟩
      · show upd H1 d _ x = _; rw [upd_ne dnx.symm]; exact e1
      · show upd H1 d _ nD = _; rw [upd_ne a1]; exact e2
      · show upd H1 d _ cD = _; rw [upd_ne a2]; exact e3
      · show upd H1 d _ sD = _; rw [upd_ne a3]; exact e4
      · show upd H1 d _ eL = _; rw [upd_ne a4]; exact e5
      · show upd H1 d _ lL = _; rw [upd_ne a5]; exact e6
      · show upd H1 d _ tD = _; rw [upd_ne a6]; exact e7
      · simp only [List.nodup_cons, List.mem_cons, List.mem_nil_iff, or_false, not_or, List.nodup_nil, and_true, not_false_eq_true]
        exact ⟨⟨dnx, a1.symm, a2.symm, a3.symm, a4.symm, a5.symm, a6.symm⟩, f0, g0, j0, m0, p0, q0⟩
abbrev sCellD : Stmt := (inClass (top 14) 2)
theorem scCellD : FnScope ["self", "name", "value", "made"] ["self", "name", "value"] (defScope sCellD) := ⟨rfl, rfl, rfl, by decide +kernel, rfl, by decide +kernel, by decide +kernel⟩
def spCellD (FC DC CC : Addr) : Sp := fun vs H Q _ => ∃ (D : DA) (tD : Addr) (cs : List Ce) (z : Str) (v : Int), vs = [.ref D.d, .str z, .int v] ∧ DeskAt FC DC CC H D tD cs ∧ z ∉ cs.map Ce.z ∧ cs.length < 100 ∧
  ∀ H' a ax, Kp [D.nD, D.cD, D.sD] H H' → H a = none → DeskAt FC DC CC H' D tD (cs ++ [⟨z, a, ax, v⟩]) → Q (.ref a) H'
theorem ok_cellD {f fP fT fI : Addr} {fd dP dT dI : FuncData} (F : Fun K "cell" "Desk.cell" sCellD f fd) (T : DkT K DC) (TF : FlT K FC) (MP : MO P w K mg base FC "check_place" 1 ["self"] (spPlace FC) fP dP) (MT : MO P w K mg base FC "take_name" 1 ["self", "name"] (spTakeN FC) fT dT)
    (MkC : Mk K CC fI) (gC : mg "Cell" = some (.ref CC)) (oC : FnOk P w K mg base CX0 1 fI dI ["self", "floor", "name", "value"] (spInitC CC)) (bC : Binds K dI ["self", "floor", "name", "value"] []) : FnOk P w K mg base CX0 3 f fd ["self", "name", "value"] (spCellD FC DC CC) := by
  refine F.ok scCellD (fun vs H Q E h => ?_) (fun cdv A outer s H vs Q E hr h => ?_)
  · obtain ⟨D, tD, cs, z, v, rfl, _⟩ := h
    rfl
  · obtain ⟨D, tD, cs, z, v, rfl, hD, hz, hlen, k⟩ := h
    have nd := scCellD.nd
    have hu := hu_of hr
    have hr1 := hr.mono (by decide : 1 ≤ 2)
    have hsl := sizeLine_eq
    have hnd := hD.nd
    simp only [List.nodup_cons, List.mem_cons, List.mem_nil_iff, or_false, not_or, List.nodup_nil, and_true, not_false_eq_true] at hnd
    obtain ⟨⟨d1, d2, d3, d4, d5, d6, d7⟩, ⟨f1, f2, f3, f4, f5, f6⟩, ⟨g1, g2, g3, g4, g5⟩, ⟨j1, j2, j3, j4⟩, ⟨m1, m2, m3⟩, ⟨p1, p2⟩, q1⟩ := hnd
    have vn := valV_out (valV_names cs z) hz
    have vc := valV_out (valV_cells cs z) hz
    have ln : (namesT cs).length = cs.length := by simp [namesT]
    have lc : (cellsT cs).length = cs.length := by simp [cellsT]
    refine ⟨_, pss_cons (ps_expr (pe_meth0 (pe_fld (pv 0) rfl) TF.cl MP.m MP.o hr1 MP.b .nil pass0))
      (pss_cons (ps_expr (pe_meth (pe_fld (pv 0) rfl) TF.cl MT.m MT.o hr1 MT.b .nil pass0 (pa_cons (pv 1) pa_nil)))
      (pss_cons (ps_set (i := 3) nd rfl (Or.inl rfl) (pe_make MkC oC hr (by rfl) gC bC .nil pass0 (pa_cons (pe_fld (pv 0) rfl) (pa_cons (pv 1) (pa_cons (pv 2) pa_nil)))))
      (pss_cons (ps_dput hu (pe_fld (pe_fld (pv 0) rfl) rfl) (pv 1) (pv 3) rfl) (pss_cons (ps_dput hu (pe_fld (pe_fld (pv 0) rfl) rfl) (pv 1) (pv 3) rfl) (pss_one (ps_ret (pv 3))))))), ?_⟩
    refine ⟨_, rfl, D.d, DC, D.dx, _, _, rfl, hD.desk, T.cl, T.no, rfl, D.f, D.fx, _, rfl, hD.floor, rfl, D.f, D.fx, _, rfl, hD.floor, rfl, ?_⟩
    refine ⟨_, rfl, D.d, DC, D.dx, _, _, rfl, hD.desk, T.cl, T.no, rfl, D.f, D.fx, _, rfl, hD.floor, rfl, _, rfl, D.f, D.fx, D.nD, _, z, _, rfl, hD.floor, rfl, hD.names, vn, by omega, ?_⟩
    rw [putK_new _ vn]
    obtain ⟨H1, e1⟩ : ∃ H1, upd H D.nD (.dK (namesT cs ++ [(Sum.inr z, .bl true)])) = H1 := ⟨_, rfl⟩
    have n1 : H1 D.nD = some (.dK (namesT cs ++ [(Sum.inr z, .bl true)])) := by rw [← e1]; exact upd_same
    have o1 : ∀ b, b ≠ D.nD → H1 b = H b := fun b n => by rw [← e1]; exact upd_ne n
    rw [e1]
    have dk1 : H1 D.d = some (.ins DC D.dx [("_floor", .ref D.f)]) := (o1 _ d2).trans hD.desk
    have fl1 := (o1 _ f1).trans hD.floor
    refine ⟨_, rfl, D.d, DC, D.dx, _, _, rfl, dk1, T.cl, T.no, rfl, _, rfl, _, rfl, fun a ax ha hax hne => ⟨a, ax, D.f, z, v, rfl, upd_same, rfl, ?_⟩⟩
    rw [upd_upd]
    have low : ∀ {x : Addr}, H1 x = none → H x = none := fun {x} e => by
      have n : x ≠ D.nD := fun w => by rw [w, n1] at e; cases e
      rw [o1 _ n] at e; exact e
    obtain ⟨H3, e3⟩ : ∃ H3, upd (upd H1 ax (.own a)) a (.ins CC ax (cellF z D.f v)) = H3 := ⟨_, rfl⟩
    have a3 : H3 a = some (.ins CC ax (cellF z D.f v)) := by rw [← e3]; exact upd_same
    have o3 : ∀ b o, H1 b = some o → H3 b = some o := fun b o e => by rw [← e3, upd_ne (ne_of_none e ha), upd_ne (ne_of_none e hax)]; exact e
    rw [e3]
    refine ⟨_, rfl, _, rfl, D.d, DC, D.dx, _, _, rfl, o3 _ _ dk1, T.cl, T.no, rfl, D.f, FC, D.fx, _, _, rfl, o3 _ _ fl1, TF.cl, TF.no _ (by simp), rfl, _, rfl, D.cD, _, rfl, DPut.k (k := Sum.inr z) (o3 _ _ ((o1 _ (Ne.symm g1)).trans hD.cells)) (by omega), ?_⟩
    rw [putK_new _ vc]
    obtain ⟨H4, e4⟩ : ∃ H4, upd H3 D.cD (.dK (cellsT cs ++ [(Sum.inr z, .ref a)])) = H4 := ⟨_, rfl⟩
    have c4 : H4 D.cD = some (.dK (cellsT cs ++ [(Sum.inr z, .ref a)])) := by rw [← e4]; exact upd_same
    have o4 : ∀ b, b ≠ D.cD → H4 b = H3 b := fun b n => by rw [← e4]; exact upd_ne n
    have e4' : upd H3 D.cD (HO.dK (cellsT cs ++ [((Sum.inr z : Key), V.ref a)])) = H4 := e4
    rw [e4']
    refine ⟨_, rfl, _, rfl, D.d, DC, D.dx, _, _, rfl, (o4 _ d3).trans (o3 _ _ dk1), T.cl, T.no, rfl, D.f, FC, D.fx, _, _, rfl, (o4 _ f2).trans (o3 _ _ fl1), TF.cl, TF.no _ (by simp), rfl, _, rfl, D.sD, _, rfl, DPut.k (k := Sum.inr z) ((o4 _ (Ne.symm j1)).trans (o3 _ _ ((o1 _ (Ne.symm g2)).trans hD.sources))) (by omega), ?_⟩
    rw [putK_new _ vc]
    obtain ⟨H5, e5⟩ : ∃ H5, upd H4 D.sD (HO.dK (cellsT cs ++ [((Sum.inr z : Key), V.ref a)])) = H5 := ⟨_, rfl⟩
    have s5 : H5 D.sD = some (.dK (cellsT cs ++ [(Sum.inr z, .ref a)])) := by rw [← e5]; exact upd_same
    have o5 : ∀ b, b ≠ D.sD → H5 b = H4 b := fun b n => by rw [← e5]; exact upd_ne n
    rw [e5]
    refine ⟨_, rfl, ?_⟩
    have old : ∀ b o, b ≠ D.nD → b ≠ D.cD → b ≠ D.sD → H b = some o → H5 b = some o := fun b o n1 n2 n3 e => (o5 b n3).trans ((o4 b n2).trans (o3 b o ((o1 b n1).trans e)))
    have ha0 := low ha
    have fr : ∀ b o, H b = some o → b ≠ a := fun b o e => ne_of_none e ha0
    refine k H5 a ax (fun b o nb e => ?_) ha0 ?_
    · simp only [List.mem_cons, List.mem_nil_iff, or_false, not_or] at nb
      exact old b o nb.1 nb.2.1 nb.2.2 e
    · refine ⟨old _ _ d2 d3 d4 hD.desk, old _ _ f1 f2 f3 hD.floor, ?_, ?_, ?_, old _ _ (Ne.symm g3) (Ne.symm j2) (Ne.symm m1) hD.eff, old _ _ (Ne.symm g4) (Ne.symm j3) (Ne.symm m2) hD.log, old _ _ (Ne.symm g5) (Ne.symm j4) (Ne.symm m3) hD.turned, hD.nd, fun c hc => ?_, ?_, ?_, ?_⟩
      · rw [show namesT (cs ++ [⟨z, a, ax, v⟩]) = namesT cs ++ [(Sum.inr z, .bl true)] by simp [namesT]]
        exact (o5 _ g2).trans ((o4 _ g1).trans (o3 _ _ n1))
      · rw [show cellsT (cs ++ [⟨z, a, ax, v⟩]) = cellsT cs ++ [(Sum.inr z, .ref a)] by simp [cellsT]]
        exact (o5 _ j1).trans c4
      · rw [show cellsT (cs ++ [⟨z, a, ax, v⟩]) = cellsT cs ++ [(Sum.inr z, .ref a)] by simp [cellsT]]
        exact s5
      · rcases List.mem_append.mp hc with hc | hc
        · obtain ⟨h1, h2⟩ := hD.cell c hc
          have h3 := h2
          simp only [List.mem_cons, List.mem_nil_iff, or_false, not_or] at h3
          exact ⟨old _ _ h3.2.2.1 h3.2.2.2.1 h3.2.2.2.2.1 h1, h2⟩
        · rw [List.mem_singleton.mp hc]
          have nC : a ≠ D.cD := (fr _ _ hD.cells).symm
          have nS : a ≠ D.sD := (fr _ _ hD.sources).symm
          refine ⟨(o5 _ nS).trans ((o4 _ nC).trans a3), ?_⟩
          simp only [List.mem_cons, List.mem_nil_iff, or_false, not_or]
          exact ⟨(fr _ _ hD.desk).symm, (fr _ _ hD.floor).symm, (fr _ _ hD.names).symm, nC, nS, (fr _ _ hD.eff).symm, (fr _ _ hD.log).symm, (fr _ _ hD.turned).symm⟩
      · rw [List.map_append]
        exact nd_snoc hD.zs hz
      · rw [List.map_append]
        refine nd_snoc hD.as fun hm => ?_
        obtain ⟨c, hc, e⟩ := List.mem_map.mp hm
        exact fr _ _ (hD.cell c hc).1 e
      · rw [List.length_append, List.length_singleton]; omega
end
end My

set_option Elab.async false
set_option linter.all false
set_option maxRecDepth 100000
set_option maxHeartbeats 4000000
/-! Q7: a desk by names. -/
namespace My
open PySem PySem.Spec PyProof.Rows L2
/-- of the type of texts -/
def Fld.isStr : Fld → Bool
  | .str _ => true
  | _ => false
def hasF (cs : List Ce) : Fld → Bool
  | .str z => decide (z ∈ cs.map Ce.z)
  | _ => false
theorem FAt.ty {K : PySem.W.Frag} {H : Hp} : ∀ {fl : Fld} {x : V}, FAt H fl x → ∃ t : String, TyX K H x (.type t) ∧ PySem.W.kitOne K (.type t) (.type "str") = some fl.isStr
  | .non, _, h => by cases h; exact ⟨_, .base .non, kit_ty (r := false) (by decide +kernel)⟩
  | .int i, _, h => by cases h; exact ⟨_, .base (.int i), kit_ty (r := false) (by decide +kernel)⟩
  | .bl b, _, h => by cases h; exact ⟨_, .base (.bl b), kit_ty (r := false) (by decide +kernel)⟩
  | .str x, _, h => by cases h.1; exact ⟨_, .base (.str x), kit_ty (r := true) (by decide +kernel)⟩
  | .tup x, _, ⟨_, p, e, hp⟩ => by subst e; exact ⟨_, .base (.tup hp), kit_ty (r := false) (by decide +kernel)⟩
  | .lst x, _, ⟨_, p, e, hp⟩ => by subst e; exact ⟨_, .base (.lst hp), kit_ty (r := false) (by decide +kernel)⟩
theorem boot_str' : bootBuiltins "str" = some (.type "str") := by decide +kernel
theorem tyS {X : Cx} {pos : Pos} (hg : Gl X "str") (hm : X.mg "str" = none) : PE X (.Name "str" pos) (tC (.ty "str")) := pe_bltn hg hm boot_str' rfl
/-- x is no cell's name: E gets NoName(x) -/
def OddX (NN : Addr) (cs : List Ce) (x : V) (H : Hp) (E : XK) : Prop := ∃ fl, FAt H fl x ∧ hasF cs fl = false ∧ ∀ H' dd v, Kp [] H H' → H dd = none → H' dd = some (.xd [("name", v)]) → FAt H' fl v → E (.ref NN) (some dd) H'
/-- the property value -/
structure PO (P : Program) (w : World) (K : PySem.W.Frag) (mg : Str → Option Value) (base : Heap) (CC p g : Addr) (dg : FuncData) : Prop where
  p : PropOf K CC "value" p g
  b : Binds K dg ["self"] []
  o : FnOk P w K mg base CX0 1 g dg ["self"] (spVal CC)
section
variable {P : Program} {w : World} {K : PySem.W.Frag} {mg : Str → Option Value} {base : Heap} {FC DC CC NN : Addr}
abbrev sGet : Stmt := (inClass (top 14) 9)
theorem scGet : FnScope ["self", "at"] ["self", "at"] (defScope sGet) := ⟨rfl, rfl, rfl, by decide +kernel, rfl, by decide +kernel, by decide +kernel⟩
def spGet (FC DC CC NN : Addr) : Sp := fun vs H Q E => ∃ (D : DA) (tD : Addr) (cs : List Ce) (x : V), vs = [.ref D.d, x] ∧ DeskAt FC DC CC H D tD cs ∧ ((∃ c ∈ cs, x = .str c.z ∧ Q (.int c.v) H) ∨ OddX NN cs x H E)
theorem ok_get {f pA gA : Addr} {fd dg : FuncData} (F : Fun K "__getitem__" "Desk.__getitem__" sGet f fd) (B : Bt mg) (hstr : mg "str" = none) (T : DkT K DC) (TF : FlT K FC) (TC : CeT K CC) (PV : PO P w K mg base CC pA gA dg) (c : Cl P w K mg base "NoName" "name" NN) :
    FnOk P w K mg base (L2.CX P w) 6 f fd ["self", "at"] (spGet FC DC CC NN) := by
  obtain ⟨fE, dE, iC, tI, F1, b1, b2⟩ := c.ini
  refine F.okX scGet (fun vs H Q E h => ?_) (fun cdv A' outer s H vs Q E hr h => ?_)
  · obtain ⟨D, tD, cs, x, rfl, _⟩ := h
    rfl
  · obtain ⟨D, tD, cs, x, rfl, hD, post⟩ := h
    have hu := hu_of hr
    have h2 := hr.mono (by decide : 2 ≤ 5)
    refine ⟨_, pss_cons (ps_if (pw_or (pt_not (pt_val (pe_callB call_isi (by rfl) B.isinstance boot_isi' (pa_cons (pv 1) (pa_cons (tyS (by rfl) hstr) pa_nil))))) (pw_or1 (pt_cmp (pc_dnotin hu (pv 1) (pe_fld (pe_fld (pv 0) rfl) rfl))))).pt
        (pss_one (ps_raise (W := fun cls d _ H => E cls d H) rfl (takes_of rfl rfl rfl rfl) (pmk_new c.t iC tI F1 hr (by rfl) c.g b1 pass0 (pa_cons (pv 1) pa_nil)))) pss_nil)
      (pss_one (ps_ret (pe_prop (pe_dget hu (pe_fld (pe_fld (pv 0) rfl) rfl) (pv 1) (fun _ _ => rfl)) TC.cl PV.p PV.o h2 PV.b .nil pass0 rfl))), ?_⟩
    rcases post with ⟨ce, hc, rfl, q⟩ | ⟨fl, hF, hn, post⟩
    · refine ⟨_, rfl, _, _, _, _, _, rfl, .ty _, .base (.str ce.z), kit_ty (r := true) (by decide +kernel), _, rfl, iteF ?_⟩
      refine ⟨_, rfl, _, rfl, D.d, DC, D.dx, _, _, rfl, hD.desk, T.cl, T.no, rfl, D.f, FC, D.fx, _, _, rfl, hD.floor, TF.cl, TF.no _ (by simp), rfl, D.cD, _, rfl, DGet.k (k := Sum.inr ce.z) hD.cells, _, rfl, ?_⟩
      have vc := valV_cell hc hD.zs
      rw [vc]
      refine iteF ⟨_, rfl, D.d, DC, D.dx, _, _, rfl, hD.desk, T.cl, T.no, rfl, D.f, FC, D.fx, _, _, rfl, hD.floor, TF.cl, TF.no _ (by simp), rfl, _, rfl, D.cD, .ref ce.a, rfl, ?_, ce.a, ce.ax, _, rfl, (hD.cell ce hc).1, ce.a, ce.ax, D.f, ce.z, ce.v, rfl, (hD.cell ce hc).1, q⟩
      rw [← vc]
      exact DGet.k (k := Sum.inr ce.z) hD.cells
    · have raise : ∀ (aa : Addr), H aa = none → _ := fun aa na => raise_read (Kf := K) (fl := fl) (x := x) c.t c.no post (Kp.refl H) hF aa na
      cases hs : fl.isStr with
      | false =>
        obtain ⟨t, ty, kt⟩ := hF.ty (K := K)
        rw [hs] at kt
        refine ⟨_, rfl, _, _, _, _, _, rfl, .ty _, ty, kt, _, rfl, iteT (iteT ⟨_, rfl, rfl, by decide, raise⟩)⟩
      | true =>
        cases fl with
        | str z =>
          cases hF.1
          refine ⟨_, rfl, _, _, _, _, _, rfl, .ty _, .base (.str z), kit_ty (r := true) (by decide +kernel), _, rfl, iteF ?_⟩
          refine ⟨_, rfl, _, rfl, D.d, DC, D.dx, _, _, rfl, hD.desk, T.cl, T.no, rfl, D.f, FC, D.fx, _, _, rfl, hD.floor, TF.cl, TF.no _ (by simp), rfl, D.cD, _, rfl, DGet.k (k := Sum.inr z) hD.cells, _, rfl, ?_⟩
          rw [valV_out (valV_cells cs z) (of_decide_eq_false hn)]
          exact iteT ⟨_, rfl, rfl, by decide, raise⟩
        | _ => cases hs
abbrev sSet : Stmt := (inClass (top 14) 10)
theorem scSet : FnScope ["self", "at", "worth"] ["self", "at", "worth"] (defScope sSet) := ⟨rfl, rfl, rfl, by decide +kernel, rfl, by decide +kernel, by decide +kernel⟩
def spSet (FC DC CC NN : Addr) : Sp := fun vs H Q E => ∃ (D : DA) (tD : Addr) (cs : List Ce) (x : V) (v : Int), vs = [.ref D.d, x, .int v] ∧ DeskAt FC DC CC H D tD cs ∧
  ((∃ i c, cs[i]? = some c ∧ x = .str c.z ∧ ∀ H' t', Kp [D.f, tD, c.a] H H' → H t' = none → DeskAt FC DC CC H' D t' (cs.set i (c.to v)) → Q .non H') ∨ OddX NN cs x H E)
theorem ok_set {f fP fC : Addr} {fd dP dC : FuncData} (F : Fun K "__setitem__" "Desk.__setitem__" sSet f fd) (B : Bt mg) (hstr : mg "str" = none) (T : DkT K DC) (TF : FlT K FC) (TC : CeT K CC) (MP : MO P w K mg base CC "put" 3 ["self", "value"] (spPut FC DC CC) fP dP)
    (MC : MO P w K mg base FC "check_place" 1 ["self"] (spPlace FC) fC dC) (c : Cl P w K mg base "NoName" "name" NN) : FnOk P w K mg base (L2.CX P w) 6 f fd ["self", "at", "worth"] (spSet FC DC CC NN) := by
  obtain ⟨fE, dE, iC, tI, F1, b1, b2⟩ := c.ini
  refine F.okX scSet (fun vs H Q E h => ?_) (fun cdv A' outer s H vs Q E hr h => ?_)
  · obtain ⟨D, tD, cs, x, v, rfl, _⟩ := h
    rfl
  · obtain ⟨D, tD, cs, x, v, rfl, hD, post⟩ := h
    have hu := hu_of hr
    have h1 := hr.mono (by decide : 1 ≤ 5)
    have h3 := hr.mono (by decide : 3 ≤ 5)
    refine ⟨_, pss_cons (ps_expr (pe_meth0 (pe_fld (pv 0) rfl) TF.cl MC.m MC.o h1 MC.b .nil pass0))
      (pss_cons (ps_if (pw_or (pt_not (pt_val (pe_callB call_isi (by rfl) B.isinstance boot_isi' (pa_cons (pv 1) (pa_cons (tyS (by rfl) hstr) pa_nil))))) (pw_or1 (pt_cmp (pc_dnotin hu (pv 1) (pe_fld (pe_fld (pv 0) rfl) rfl))))).pt
        (pss_one (ps_raise (W := fun cls d _ H => E cls d H) rfl (takes_of rfl rfl rfl rfl) (pmk_new c.t iC tI F1 hr (by rfl) c.g b1 pass0 (pa_cons (pv 1) pa_nil)))) pss_nil)
      (pss_one (ps_expr (pe_meth (pe_dget hu (pe_fld (pe_fld (pv 0) rfl) rfl) (pv 1) (fun _ _ => rfl)) TC.cl MP.m MP.o h3 MP.b .nil pass0 (pa_cons (pv 2) pa_nil))))), ?_⟩
    refine ⟨_, rfl, D.d, DC, D.dx, _, _, rfl, hD.desk, T.cl, T.no, rfl, D.f, D.fx, _, rfl, hD.floor, rfl, D.f, D.fx, _, rfl, hD.floor, rfl, ?_⟩
    rcases post with ⟨i, ce, hi, rfl, q⟩ | ⟨fl, hF, hn, post⟩
    · have hc : ce ∈ cs := List.mem_of_getElem? hi
      refine ⟨_, rfl, _, _, _, _, _, rfl, .ty _, .base (.str ce.z), kit_ty (r := true) (by decide +kernel), _, rfl, iteF ?_⟩
      refine ⟨_, rfl, _, rfl, D.d, DC, D.dx, _, _, rfl, hD.desk, T.cl, T.no, rfl, D.f, FC, D.fx, _, _, rfl, hD.floor, TF.cl, TF.no _ (by simp), rfl, D.cD, _, rfl, DGet.k (k := Sum.inr ce.z) hD.cells, _, rfl, ?_⟩
      have vc := valV_cell hc hD.zs
      rw [vc]
      refine iteF ⟨_, rfl, D.d, DC, D.dx, _, _, rfl, hD.desk, T.cl, T.no, rfl, D.f, FC, D.fx, _, _, rfl, hD.floor, TF.cl, TF.no _ (by simp), rfl, _, rfl, D.cD, .ref ce.a, rfl, ?_, ce.a, ce.ax, _, rfl, (hD.cell ce hc).1, rfl, _, rfl, D, tD, cs, i, ce, v, rfl, hD, hi, q⟩
      rw [← vc]
      exact DGet.k (k := Sum.inr ce.z) hD.cells
    · have raise : ∀ (aa : Addr), H aa = none → _ := fun aa na => raise_read (Kf := K) (fl := fl) (x := x) c.t c.no post (Kp.refl H) hF aa na
      cases hs : fl.isStr with
      | false =>
        obtain ⟨t, ty, kt⟩ := hF.ty (K := K)
        rw [hs] at kt
        refine ⟨_, rfl, _, _, _, _, _, rfl, .ty _, ty, kt, _, rfl, iteT (iteT ⟨_, rfl, rfl, by decide, raise⟩)⟩
      | true =>
        cases fl with
        | str z =>
          cases hF.1
          refine ⟨_, rfl, _, _, _, _, _, rfl, .ty _, .base (.str z), kit_ty (r := true) (by decide +kernel), _, rfl, iteF ?_⟩
          refine ⟨_, rfl, _, rfl, D.d, DC, D.dx, _, _, rfl, hD.desk, T.cl, T.no, rfl, D.f, FC, D.fx, _, _, rfl, hD.floor, TF.cl, TF.no _ (by simp), rfl, D.cD, _, rfl, DGet.k (k := Sum.inr z) hD.cells, _, rfl, ?_⟩
          rw [valV_out (valV_cells cs z) (of_decide_eq_false hn)]
          exact iteT ⟨_, rfl, rfl, by decide, raise⟩
        | _ => cases hs
abbrev sHas : Stmt := (inClass (top 14) 11)
theorem scHas : FnScope ["self", "thing"] ["self", "thing"] (defScope sHas) := ⟨rfl, rfl, rfl, by decide +kernel, rfl, by decide +kernel, by decide +kernel⟩
def spHas (FC DC CC : Addr) : Sp := fun vs H Q _ => ∃ (D : DA) (tD : Addr) (cs : List Ce) (x : V) (fl : Fld), vs = [.ref D.d, x] ∧ DeskAt FC DC CC H D tD cs ∧ FAt H fl x ∧ Q (.bl (hasF cs fl)) H
theorem ok_has {f : Addr} {fd : FuncData} (F : Fun K "__contains__" "Desk.__contains__" sHas f fd) (B : Bt mg) (hstr : mg "str" = none) (T : DkT K DC) (TF : FlT K FC) : FnOk P w K mg base CX0 1 f fd ["self", "thing"] (spHas FC DC CC) := by
  refine F.ok scHas (fun vs H Q E h => ?_) (fun cdv A outer s H vs Q E hr h => ?_)
  · obtain ⟨D, tD, cs, x, fl, rfl, _⟩ := h
    rfl
  · obtain ⟨D, tD, cs, x, fl, rfl, hD, hF, q⟩ := h
    have hu := hu_of hr
    refine ⟨_, pss_one (ps_ret (pe_and (pe_callB call_isi (by rfl) B.isinstance boot_isi' (pa_cons (pv 1) (pa_cons (tyS (by rfl) hstr) pa_nil))) (pe_one (pe_cmp (pc_din hu (pv 1) (pe_fld (pe_fld (pv 0) rfl) rfl)))))), ?_⟩
    cases hs : fl.isStr with
    | false =>
      obtain ⟨t, ty, kt⟩ := hF.ty (K := K)
      rw [hs] at kt
      refine ⟨_, rfl, _, _, _, _, _, rfl, .ty _, ty, kt, _, rfl, iteF ?_⟩
      have e : hasF cs fl = false := by cases fl <;> first | rfl | cases hs
      rw [e] at q
      exact q
    | true =>
      cases fl with
      | str z =>
        cases hF.1
        refine ⟨_, rfl, _, _, _, _, _, rfl, .ty _, .base (.str z), kit_ty (r := true) (by decide +kernel), _, rfl, iteT ?_⟩
        refine ⟨_, rfl, _, rfl, D.d, DC, D.dx, _, _, rfl, hD.desk, T.cl, T.no, rfl, D.f, FC, D.fx, _, _, rfl, hD.floor, TF.cl, TF.no _ (by simp), rfl, D.nD, _, rfl, DGet.k (k := Sum.inr z) hD.names, ?_⟩
        rw [valV_names]
        exact q
      | _ => cases hs
abbrev sLenD : Stmt := (inClass (top 14) 12)
theorem scLenD : FnScope ["self"] ["self"] (defScope sLenD) := ⟨rfl, rfl, rfl, by decide +kernel, rfl, by decide +kernel, by decide +kernel⟩
def spLenD (FC DC CC : Addr) : Sp := fun vs H Q _ => ∃ (D : DA) (tD : Addr) (cs : List Ce), vs = [.ref D.d] ∧ DeskAt FC DC CC H D tD cs ∧ Q (.int 0) H
theorem ok_lenD {f : Addr} {fd : FuncData} (F : Fun K "__len__" "Desk.__len__" sLenD f fd) (B : Bt mg) (T : DkT K DC) (TF : FlT K FC) : FnOk P w K mg base CX0 1 f fd ["self"] (spLenD FC DC CC) := by
  refine F.ok scLenD (fun vs H Q E h => ?_) (fun cdv A outer s H vs Q E hr h => ?_)
  · obtain ⟨D, tD, cs, rfl, _⟩ := h
    rfl
  · obtain ⟨D, tD, cs, rfl, hD, q⟩ := h
    refine ⟨_, pss_one (ps_ret (pe_callB call_len (by rfl) B.len PySem.boot_len (pa_cons (pe_fld (pe_fld (pv 0) rfl) rfl) pa_nil))), ?_⟩
    exact ⟨_, rfl, D.d, DC, D.dx, _, _, rfl, hD.desk, T.cl, T.no, rfl, D.f, FC, D.fx, _, _, rfl, hD.floor, TF.cl, TF.no _ (by simp), rfl, _, _, rfl, .inl ⟨_, SqL.of hD.log, rfl⟩, q⟩
abbrev sIterD : Stmt := (inClass (top 14) 13)
theorem scIterD : FnScope ["self"] ["self"] (defScope sIterD) := ⟨rfl, rfl, rfl, by decide +kernel, rfl, by decide +kernel, by decide +kernel⟩
def spIterD (FC DC CC : Addr) : Sp := fun vs H Q _ => ∃ (D : DA) (tD : Addr) (cs : List Ce), vs = [.ref D.d] ∧ DeskAt FC DC CC H D tD cs ∧ ∀ it, H it = none → Q (.ref it) (upd H it (ItO D.lL it 0))
theorem boot_iter' : bootBuiltins "iter" = some (.builtin "iter") := by decide +kernel
theorem ok_iterD {f : Addr} {fd : FuncData} (F : Fun K "__iter__" "Desk.__iter__" sIterD f fd) (hit : mg "iter" = none) (T : DkT K DC) (TF : FlT K FC) : FnOk P w K mg base CX0 1 f fd ["self"] (spIterD FC DC CC) := by
  refine F.ok scIterD (fun vs H Q E h => ?_) (fun cdv A outer s H vs Q E hr h => ?_)
  · obtain ⟨D, tD, cs, rfl, _⟩ := h
    rfl
  · obtain ⟨D, tD, cs, rfl, hD, q⟩ := h
    refine ⟨_, pss_one (ps_ret (pe_callB call_iterL (by rfl) hit boot_iter' (pa_cons (pe_fld (pe_fld (pv 0) rfl) rfl) pa_nil))), ?_⟩
    exact ⟨_, rfl, D.d, DC, D.dx, _, _, rfl, hD.desk, T.cl, T.no, rfl, D.f, FC, D.fx, _, _, rfl, hD.floor, TF.cl, TF.no _ (by simp), rfl, D.lL, _, rfl, SqL.of hD.log, q⟩
end
end My

set_option Elab.async false
set_option linter.all false
set_option maxRecDepth 100000
set_option maxHeartbeats 4000000
/-! P1: a floor on which a run is under way. -/
namespace My
open PySem PySem.Spec PyProof.Rows L2
def runF (z : Str) (ia : Bool) (o : V) (nt : Addr) (q : Int) : List (Str × V) := [("name", .str z), ("is_of_answer", .bl ia), ("outer", o), ("notes", .ref nt), ("quiet", .int q)]
def floorG (nD cD sD eL lL : Addr) (inm : V) (tD : Addr) : List (Str × V) := [("most_runs", .int 100), ("names", .ref nD), ("cells", .ref cD), ("sources", .ref sD), ("effects", .ref eL), ("log", .ref lL), ("inmost", inm), ("batches", .int 0), ("turned", .ref tD)]
structure RnT (K : PySem.W.Frag) (C : Addr) : Prop where
  cl : Cls K C
  no : ∀ f ∈ (["name", "is_of_answer", "outer", "notes", "quiet"] : List Str), NoAttr K C f
/-- no run of this name from here outward -/
def Free (RC : Addr) (H : Hp) (z : Str) : Nat → V → Prop
  | 0, v => v = .non
  | n + 1, v => ∃ (r rx nt : Addr) (z' : Str) (ia : Bool) (o : V) (q : Int), v = .ref r ∧ H r = some (.ins RC rx (runF z' ia o nt q)) ∧ z' ≠ z ∧ Free RC H z n o
/-- setdefault -/
def setd (kvs : List (Key × V)) (k : Key) (v : V) : List (Key × V) := if (valV kvs k).isSome then kvs else kvs ++ [(k, v)]
theorem workCall_mono {P : Program} {w : World} {K : PySem.W.Frag} {mg : Str → Option Value} {base : Heap} {k : Nat} {f : Addr} {H : Hp} {Q Q' : VK} (h : WorkCall P w K mg base k f H Q) (i : ∀ v H', Q v H' → Q' v H') : WorkCall P w K mg base k f H Q' := fun A outer s hr e0 =>
  codeAny_mono (h A outer s hr e0) fun r s' hq => by
    cases r with
    | error e => exact hq
    | ok fl =>
      cases fl with
      | ret u =>
        obtain ⟨v, H2, a, b, c, d, e, q⟩ := hq
        exact ⟨v, H2, a, b, c, d, e, i _ _ q⟩
      | next => exact hq
      | brk => exact hq
      | cont => exact hq
section
variable {P : Program} {w : World} {K : PySem.W.Frag} {mg : Str → Option Value} {base : Heap} {FC DC CC RC : Addr}
abbrev sInitR : Stmt := (inClass (top 11) 0)
theorem scInitR : FnScope ["self", "name", "is_of_answer", "outer"] ["self", "name", "is_of_answer", "outer"] (defScope sInitR) := ⟨rfl, rfl, rfl, by decide +kernel, rfl, by decide +kernel, by decide +kernel⟩
def spInitR (RC : Addr) : Sp := fun vs H Q _ => ∃ (r rx : Addr) (z : Str) (ia : Bool) (o : V), vs = [.ref r, .str z, .bl ia, o] ∧ H r = some (.ins RC rx []) ∧ ∀ H' nt, Kp [r] H H' → H nt = none → H' r = some (.ins RC rx (runF z ia o nt 0)) → H' nt = some (.dK []) → Q .non H'
theorem ok_initR {f : Addr} {fd : FuncData} (F : Fun K "__init__" "Run.__init__" sInitR f fd) (T : RnT K RC) : FnOk P w K mg base CX0 1 f fd ["self", "name", "is_of_answer", "outer"] (spInitR RC) := by
  refine F.ok scInitR (fun vs H Q E h => ?_) (fun cdv A outer s H vs Q E hr h => ?_)
  · obtain ⟨r, rx, z, ia, o, rfl, _⟩ := h
    rfl
  · obtain ⟨r, rx, z, ia, o, rfl, hf, k⟩ := h
    refine ⟨_, pss_cons (ps_fld (pv 0) (pv 1) rfl) (pss_cons (ps_fld (pv 0) (pv 2) rfl) (pss_cons (ps_fld (pv 0) (pv 3) rfl) (pss_cons (ps_fld (pv 0) pe_dnewK rfl) (pss_one (ps_fld (pv 0) pe_int rfl))))), ?_⟩
    refine ⟨_, rfl, _, rfl, r, RC, rx, _, rfl, hf, T.cl, T.no _ (by simp), (by show 0 < 1000; decide), ?_⟩
    obtain ⟨H1, e1, o1, k1, _⟩ := gstep (H := H) (putF "name" (.str z) []) (Kp.refl H) hf
    rw [e1]
    refine ⟨_, rfl, _, rfl, r, RC, rx, _, rfl, o1, T.cl, T.no _ (by simp), (by show 1 < 1000; decide), ?_⟩
    obtain ⟨H2, e2, o2, k2, _⟩ := gstep (H := H) (putF "is_of_answer" (.bl ia) (putF "name" (.str z) [])) k1 o1
    rw [e2]
    refine ⟨_, rfl, _, rfl, r, RC, rx, _, rfl, o2, T.cl, T.no _ (by simp), (by show 2 < 1000; decide), ?_⟩
    obtain ⟨H3, e3, o3, k3, _⟩ := gstep (H := H) (putF "outer" o (putF "is_of_answer" (.bl ia) (putF "name" (.str z) []))) k2 o2
    rw [e3]
    intro nt hn
    obtain ⟨o3', H4, e4, o4, k4, n4, fn, nf, st4⟩ := fstep (putF "notes" (.ref nt) (putF "outer" o (putF "is_of_answer" (.bl ia) (putF "name" (.str z) [])))) (.dK []) o3 k3 hn
    refine ⟨_, rfl, r, RC, rx, _, rfl, o3', T.cl, T.no _ (by simp), (by show 3 < 1000; decide), ?_⟩
    rw [e4]
    refine ⟨_, rfl, r, RC, rx, _, rfl, o4, T.cl, T.no _ (by simp), (by show 4 < 1000; decide), ?_⟩
    obtain ⟨H5, e5, o5, k5, st5⟩ := gstep (putF "quiet" (.int 0) (putF "notes" (.ref nt) (putF "outer" o (putF "is_of_answer" (.bl ia) (putF "name" (.str z) []))))) k4 o4
    rw [e5]
    exact k H5 nt k5 fn o5 (st5 _ _ nf n4)
abbrev sBegun : Stmt := (inClass (top 12) 4)
theorem scBegun : FnScope ["self", "name", "is_of_answer"] ["self", "name", "is_of_answer"] (defScope sBegun) := ⟨rfl, rfl, rfl, by decide +kernel, rfl, by decide +kernel, by decide +kernel⟩
def spBegun (FC RC : Addr) : Sp := fun vs H Q _ => ∃ (f fx : Addr) (fs : List (Str × V)) (z : Str) (ia : Bool) (o : V), vs = [.ref f, .str z, .bl ia] ∧ H f = some (.ins FC fx fs) ∧ fs.lookup ("inmost" : Str) = some o ∧ ∀ H' r rx nt, Kp [] H H' → H r = none → H nt = none → r ≠ nt → H' r = some (.ins RC rx (runF z ia o nt 0)) → H' nt = some (.dK []) → Q (.ref r) H'
theorem ok_begun {f fI : Addr} {fd dI : FuncData} (F : Fun K "begun" "Floor.begun" sBegun f fd) (T : FlT K FC) (MkR : Mk K RC fI) (gR : mg "Run" = some (.ref RC)) (oR : FnOk P w K mg base CX0 1 fI dI ["self", "name", "is_of_answer", "outer"] (spInitR RC)) (bR : Binds K dI ["self", "name", "is_of_answer", "outer"] []) :
    FnOk P w K mg base CX0 3 f fd ["self", "name", "is_of_answer"] (spBegun FC RC) := by
  refine F.ok scBegun (fun vs H Q E h => ?_) (fun cdv A outer s H vs Q E hr h => ?_)
  · obtain ⟨f, fx, fs, z, ia, o, rfl, _⟩ := h
    rfl
  · obtain ⟨f, fx, fs, z, ia, o, rfl, hf, hl, k⟩ := h
    refine ⟨_, pss_one (ps_ret (pe_make MkR oR (hr.mono (by decide)) (by rfl) gR bR .nil pass0 (pa_cons (pv 1) (pa_cons (pv 2) (pa_cons (pe_fld (pv 0) rfl) pa_nil))))), ?_⟩
    refine ⟨_, rfl, _, rfl, _, rfl, f, FC, fx, fs, _, rfl, hf, T.cl, T.no _ (by simp), hl, fun r rx hr' hrx ne => ⟨r, rx, z, ia, o, rfl, upd_same, fun H' nt k1 hnt e1 e2 => ⟨rfl, ?_⟩⟩⟩
    have back : ∀ y, upd (upd H rx (.own r)) r (.ins RC rx []) y = none → H y = none := fun y e => by
      have n1 : y ≠ r := fun z => by rw [z, upd_same] at e; cases e
      rw [upd_ne n1] at e
      have n2 : y ≠ rx := fun z => by rw [z, upd_same] at e; cases e
      rw [upd_ne n2] at e
      exact e
    have n1 : nt ≠ r := fun z => by rw [z, upd_same] at hnt; cases hnt
    refine k H' r rx nt (fun q u _ e => k1 q u (by simpa using ne_of_none e hr') (by rw [upd_ne (ne_of_none e hr'), upd_ne (ne_of_none e hrx)]; exact e)) hr' (back _ hnt) n1.symm e1 e2
abbrev sBusy : Stmt := (inClass (top 12) 3)
theorem scBusy : FnScope ["self", "name", "run"] ["self", "name"] (defScope sBusy) := ⟨rfl, rfl, rfl, by decide +kernel, rfl, by decide +kernel, by decide +kernel⟩
def spBusy (FC RC : Addr) : Sp := fun vs H Q _ => ∃ (f fx : Addr) (fs : List (Str × V)) (z : Str) (o : V) (n : Nat), vs = [.ref f, .str z] ∧ H f = some (.ins FC fx fs) ∧ fs.lookup ("inmost" : Str) = some o ∧ Free RC H z n o ∧ Q .non H
theorem ok_busy {f : Addr} {fd : FuncData} (F : Fun K "check_not_busy" "Floor.check_not_busy" sBusy f fd) (T : FlT K FC) (TR : RnT K RC) : FnOk P w K mg base CX0 1 f fd ["self", "name"] (spBusy FC RC) := by
  refine F.ok scBusy (fun vs H Q E h => ?_) (fun cdv A outer s H vs Q E hr h => ?_)
  · obtain ⟨f, fx, fs, z, o, n, rfl, _⟩ := h
    rfl
  · obtain ⟨f, fx, fs, z, o, n, rfl, hf, hl, hF, q⟩ := h
    have nd := scBusy.nd
    refine ⟨_, pss_cons (ps_set (i := 2) nd rfl (Or.inl rfl) (pe_fld (pv 0) rfl)) (pss_one (ps_while PassesOwn.never (pt_cmp (pc_notN (pv 2))) (pss_cons (ps_if (pt_cmpR op_eq (pe_fld (pv 2) rfl) (pv 1) (nomark _)) pss_dead pss_nil) (pss_one (ps_set (i := 2) nd rfl (Or.inl rfl) (pe_fld (pv 2) rfl)))))), ?_⟩
    refine ⟨_, rfl, f, FC, fx, fs, _, rfl, hf, T.cl, T.no _ (by simp), hl, ?_⟩
    refine ⟨fun m σ' H' => ∃ o, σ' = [some (.ref f), some (.str z), some o] ∧ H' = H ∧ Free RC H z m o, ⟨n, o, rfl, rfl, hF⟩, ?_⟩
    rintro m σ' H' ⟨o, rfl, rfl, hF⟩
    cases m with
    | zero =>
      obtain rfl : o = V.non := hF
      exact ⟨_, rfl, _, rfl, iteF q⟩
    | succ m =>
      obtain ⟨r, rx, nt, z', ia, o', q', rfl, hr', nz, hF⟩ := hF
      refine ⟨_, rfl, _, rfl, iteT ?_⟩
      refine ⟨fun σ' H'' => ∃ o, σ' = [some (.ref f), some (.str z), some o] ∧ H'' = H' ∧ Free RC H' z m o, fun σ'' H'' e => ⟨m, Nat.lt_succ_self _, e⟩, ?_⟩
      refine ⟨_, rfl, r, RC, rx, _, _, rfl, hr', TR.cl, TR.no _ (by simp), rfl, _, rfl, rfl, _, rfl, ?_⟩
      have e0 : decide (V.str z' = V.str z) = false := decide_eq_false fun e => nz (V.str.inj e)
      rw [e0]
      refine iteF ?_
      exact ⟨_, rfl, r, RC, rx, _, _, rfl, hr', TR.cl, TR.no _ (by simp), rfl, _, rfl, rfl, hF⟩
abbrev sCarry : Stmt := (inClass (top 12) 5)
theorem scCarry : FnScope ["self", "run", "work"] ["self", "run", "work"] (defScope sCarry) := ⟨rfl, rfl, rfl, by decide +kernel, rfl, by decide +kernel, by decide +kernel⟩
/-- the work called while the run is the innermost one -/
def spCarry (P : Program) (w : World) (K : PySem.W.Frag) (mg : Str → Option Value) (base : Heap) (FC RC : Addr) (k : Nat) : Sp := fun vs H Q _ => ∃ (f fx r rx nt wk : Addr) (fs : List (Str × V)) (z : Str) (ia : Bool) (o : V) (q : Int), vs = [.ref f, .ref r, .ref wk] ∧ H f = some (.ins FC fx fs) ∧ fs.length < 100 ∧ r ≠ f ∧ H r = some (.ins RC rx (runF z ia o nt q)) ∧ IsFnO H wk ∧
  ∀ H1, Kp [f] H H1 → H1 f = some (.ins FC fx (putF "inmost" (.ref r) fs)) → WorkCall P w K mg base k wk H1 fun v H2 => H2 f = some (.ins FC fx (putF "inmost" (.ref r) fs)) ∧ H2 r = some (.ins RC rx (runF z ia o nt q)) ∧ ∀ H3, Kp [f] H2 H3 → H3 f = some (.ins FC fx (putF "inmost" o (putF "inmost" (.ref r) fs))) → Q v H3
theorem len_putF (x : Str) (v : V) : ∀ fs : List (Str × V), (putF x v fs).length ≤ fs.length + 1
  | [] => Nat.le_refl _
  | p :: r => by
    have := len_putF x v r
    unfold putF
    split <;> simp <;> omega
theorem ok_carry {f : Addr} {fd : FuncData} {k : Nat} (F : Fun K "carry_out" "Floor.carry_out" sCarry f fd) (T : FlT K FC) (TR : RnT K RC) : FnOk P w K mg base CX0 (k + 1) f fd ["self", "run", "work"] (spCarry P w K mg base FC RC k) := by
  refine F.ok scCarry (fun vs H Q E h => ?_) (fun cdv A outer s H vs Q E hr h => ?_)
  · obtain ⟨f, fx, r, rx, nt, wk, fs, z, ia, o, q, rfl, _⟩ := h
    rfl
  · obtain ⟨f, fx, r, rx, nt, wk, fs, z, ia, o, q, rfl, hf, hlen, nrf, hr', hw, k⟩ := h
    have nd := scCarry.nd
    have hl1 := len_putF "inmost" (.ref r) fs
    refine ⟨_, pss_cons (ps_fld (pv 0) (pv 1) rfl) (pss_one (ps_retFin (pe_work (i := 2) hr rfl (Or.inl rfl)) (pss_one (ps_fld (pv 0) (pe_fld (pv 1) rfl) rfl)))), ?_⟩
    refine ⟨_, rfl, _, rfl, f, FC, fx, fs, rfl, hf, T.cl, T.no _ (by simp), by omega, ?_⟩
    obtain ⟨H1, e1⟩ : ∃ H1, upd H f (.ins FC fx (putF "inmost" (.ref r) fs)) = H1 := ⟨_, rfl⟩
    have o1 : H1 f = some (.ins FC fx (putF "inmost" (.ref r) fs)) := by rw [← e1]; exact upd_same
    have k1 : Kp [f] H H1 := by rw [← e1]; exact Kp.put (by simp)
    rw [e1]
    have nwf : wk ≠ f := fun e => by
      obtain ⟨φ, hφ, _⟩ := hw
      rw [e, hf] at hφ; cases hφ
    refine ⟨wk, rfl, ?_, workCall_mono (k H1 k1 o1) ?_⟩
    · obtain ⟨φ, hφ, q⟩ := hw
      exact ⟨φ, k1 _ _ (by simpa using nwf) hφ, q⟩
    · rintro v H2 ⟨f2, r2, k2⟩
      refine ⟨_, rfl, r, RC, rx, _, _, rfl, r2, TR.cl, TR.no _ (by simp), rfl, _, rfl, f, FC, fx, _, rfl, f2, T.cl, T.no _ (by simp), by omega, ?_⟩
      exact k2 _ (Kp.put (by simp)) upd_same
end
end My

set_option Elab.async false
set_option linter.all false
set_option maxRecDepth 100000
set_option maxHeartbeats 4000000
/-! P2: notes, and whether they are in order. -/
namespace My
open PySem PySem.Spec PyProof.Rows L2
def duesT (cs : List Ce) : List (Key × V) := cs.map fun c => (Sum.inr c.z, V.int c.v)
theorem valV_due {cs : List Ce} {c : Ce} (h : c ∈ cs) (nd : (cs.map Ce.z).Nodup) : valV (duesT cs) (Sum.inr c.z) = some (.int c.v) := by
  induction cs with
  | nil => cases h
  | cons b r ih =>
    rw [List.map_cons, List.nodup_cons] at nd
    rcases List.mem_cons.mp h with rfl | h
    · exact valV_pos (p := (Sum.inr c.z, V.int c.v)) rfl
    · have e : ¬ b.z = c.z := fun q => nd.1 (by rw [q]; exact List.mem_map_of_mem h)
      have ne : ¬ (Sum.inr b.z : Key) = Sum.inr c.z := fun q => e (Sum.inr.inj q)
      show valV ((Sum.inr b.z, V.int b.v) :: duesT r) (Sum.inr c.z) = _
      rw [valV_neg ne]
      exact ih h nd.2
/-- whether all noted values are the cells' own -/
def ordB (cs : List Ce) (kvs : List (Key × V)) : Bool := kvs.all fun p => decide (valV (duesT cs) p.1 = some p.2)
section
variable {P : Program} {w : World} {K : PySem.W.Frag} {mg : Str → Option Value} {base : Heap} {FC DC CC RC : Addr}
def spNoteR (FC RC : Addr) : Sp := fun vs H Q _ => ∃ (f fx r rx nt : Addr) (fs : List (Str × V)) (z z' : Str) (v o : V) (ia : Bool) (kvs : List (Key × V)), vs = [.ref f, .str z, v] ∧ H f = some (.ins FC fx fs) ∧ fs.lookup ("inmost" : Str) = some (V.ref r) ∧ H r = some (.ins RC rx (runF z' ia o nt 0)) ∧
  H nt = some (.dK kvs) ∧ kvs.length < 1000 ∧ ∀ H', Kp [nt] H H' → H' nt = some (.dK (setd kvs (Sum.inr z) v)) → Q .non H'
theorem ok_noteR {f : Addr} {fd : FuncData} (F : Fun K "note" "Floor.note" sNote f fd) (T : FlT K FC) (TR : RnT K RC) : FnOk P w K mg base CX0 1 f fd ["self", "name", "worth"] (spNoteR FC RC) := by
  refine F.ok scNote (fun vs H Q E h => ?_) (fun cdv A outer s H vs Q E hr h => ?_)
  · obtain ⟨f, fx, r, rx, nt, fs, z, z', v, o, ia, kvs, rfl, _⟩ := h
    rfl
  · obtain ⟨f, fx, r, rx, nt, fs, z, z', v, o, ia, kvs, rfl, hf, hl, hr', hn, hlen, k⟩ := h
    have nd := scNote.nd
    have hsl := sizeLine_eq
    refine ⟨_, pss_cons (ps_set (i := 3) nd rfl (Or.inl rfl) (pe_fld (pv 0) rfl)) (pss_one (ps_if (pw_and (pt_cmp (pc_notN (pv 3))) (pw_and1 (pt_cmpR op_eq (pe_fld (pv 3) rfl) pe_int (nomark _)))).pt
      (pss_one (ps_expr (pe_dsetd (pe_fld (pv 3) rfl) (pv 1) (pv 2) ⟨rfl, rfl, rfl, rfl⟩))) pss_nil)), ?_⟩
    refine ⟨_, rfl, f, FC, fx, fs, _, rfl, hf, T.cl, T.no _ (by simp), hl, _, rfl, _, rfl, iteT ?_⟩
    refine ⟨_, rfl, r, RC, rx, _, _, rfl, hr', TR.cl, TR.no _ (by simp), rfl, rfl, _, rfl, iteT ?_⟩
    refine ⟨_, rfl, r, RC, rx, _, _, rfl, hr', TR.cl, TR.no _ (by simp), rfl, nt, rfl, .inl ⟨kvs, .inl hn⟩, _, rfl, _, rfl, kvs, Sum.inr z, hn, rfl, by omega, fun u hu => ?_, fun hu => ?_⟩
    · refine k H (Kp.refl H) ?_
      rw [hn]
      unfold setd
      rw [hu]
      rfl
    · refine k _ (Kp.put (by simp)) ?_
      rw [upd_same]
      unfold setd
      rw [hu, putK_new _ hu]
      rfl
def spCallR (FC CC RC : Addr) : Sp := fun vs H Q _ => ∃ (a ax f fx r rx nt : Addr) (fs : List (Str × V)) (z z' : Str) (v : Int) (o : V) (ia : Bool) (kvs : List (Key × V)), vs = [.ref a] ∧ H a = some (.ins CC ax (cellF z f v)) ∧ H f = some (.ins FC fx fs) ∧ fs.lookup ("inmost" : Str) = some (V.ref r) ∧ fs.lookup ("note" : Str) = none ∧
  H r = some (.ins RC rx (runF z' ia o nt 0)) ∧ H nt = some (.dK kvs) ∧ kvs.length < 1000 ∧ ∀ H', Kp [nt] H H' → H' nt = some (.dK (setd kvs (Sum.inr z) (.int v))) → Q (.int v) H'
theorem ok_callR {f fN : Addr} {fd dN : FuncData} (F : Fun K "__call__" "Cell.__call__" sCall f fd) (T : CeT K CC) (TF : FlT K FC) (MN : MO P w K mg base FC "note" 1 ["self", "name", "worth"] (spNoteR FC RC) fN dN) : FnOk P w K mg base CX0 2 f fd ["self"] (spCallR FC CC RC) := by
  refine F.ok scCall (fun vs H Q E h => ?_) (fun cdv A outer s H vs Q E hr h => ?_)
  · obtain ⟨a, ax, f, fx, r, rx, nt, fs, z, z', v, o, ia, kvs, rfl, _⟩ := h
    rfl
  · obtain ⟨a, ax, f, fx, r, rx, nt, fs, z, z', v, o, ia, kvs, rfl, ha, hf, hl, hn, hr', hnt, hlen, k⟩ := h
    refine ⟨_, pss_cons (ps_expr (pe_meth (pe_fld (pv 0) rfl) TF.cl MN.m MN.o hr MN.b .nil pass0 (pa_cons (pe_fld (pv 0) rfl) (pa_cons (pe_fld (pv 0) rfl) pa_nil)))) (pss_one (ps_ret (pe_fld (pv 0) rfl))), ?_⟩
    have nan : a ≠ nt := fun e => by rw [e, hnt] at ha; cases ha
    refine ⟨_, rfl, a, CC, ax, _, _, rfl, ha, T.cl, T.no _ (by simp), rfl, f, fx, fs, rfl, hf, hn, _, rfl, a, CC, ax, _, _, rfl, ha, T.cl, T.no _ (by simp), rfl, _, rfl, a, CC, ax, _, _, rfl, ha, T.cl, T.no _ (by simp), rfl, f, fx, r, rx, nt, fs, z, z', _, o, ia, kvs, rfl, hf, hl, hr', hnt, hlen, fun H' k1 h1 => ?_⟩
    have ha' := k1 _ _ (by simpa using nan) ha
    exact ⟨_, rfl, a, CC, ax, _, _, rfl, ha', T.cl, T.no _ (by simp), rfl, k H' k1 h1⟩
abbrev sCurC : Stmt := (inClass (top 15) 6)
theorem scCurC : FnScope ["self"] ["self"] (defScope sCurC) := ⟨rfl, rfl, rfl, by decide +kernel, rfl, by decide +kernel, by decide +kernel⟩
theorem ok_curC {f : Addr} {fd : FuncData} (F : Fun K "current" "Cell.current" sCurC f fd) (T : CeT K CC) : FnOk P w K mg base CX0 1 f fd ["self"] (spVal CC) := by
  refine F.ok scCurC (fun vs H Q E h => ?_) (fun cdv A outer s H vs Q E hr h => ?_)
  · obtain ⟨a, ax, f, z, v, rfl, _⟩ := h
    rfl
  · obtain ⟨a, ax, f, z, v, rfl, ha, q⟩ := h
    exact ⟨_, pss_one (ps_ret (pe_fld (pv 0) rfl)), _, rfl, a, CC, ax, _, _, rfl, ha, T.cl, T.no _ (by simp), rfl, q⟩
abbrev sOrd : Stmt := (inClass (top 12) 9)
theorem scOrd : FnScope ["self", "notes", "name", "noted"] ["self", "notes"] (defScope sOrd) := ⟨rfl, rfl, rfl, by decide +kernel, rfl, by decide +kernel, by decide +kernel⟩
/-- notes of cells alone -/
def spOrd (FC CC : Addr) : Sp := fun vs H Q _ => ∃ (f fx sD nt : Addr) (fs : List (Str × V)) (src kvs : List (Key × V)) (cs : List Ce), vs = [.ref f, .ref nt] ∧ H f = some (.ins FC fx fs) ∧ fs.lookup ("sources" : Str) = some (V.ref sD) ∧ H sD = some (.dK src) ∧ H nt = some (.dK kvs) ∧ nt ≠ sD ∧ (cs.map Ce.z).Nodup ∧
  (∀ c ∈ cs, valV src (Sum.inr c.z) = some (.ref c.a) ∧ H c.a = some (.ins CC c.ax (cellF c.z f c.v))) ∧ (∀ p ∈ kvs, ∃ c ∈ cs, ∃ m : Int, p = (Sum.inr c.z, V.int m)) ∧ ∀ H', Kp [] H H' → Q (.bl (ordB cs kvs)) H'
theorem ok_ord {f fC : Addr} {fd dC : FuncData} (F : Fun K "are_in_order" "Floor.are_in_order" sOrd f fd) (T : FlT K FC) (TC : CeT K CC) (MC : MO P w K mg base CC "current" 1 ["self"] (spVal CC) fC dC) : FnOk P w K mg base CX0 2 f fd ["self", "notes"] (spOrd FC CC) := by
  refine F.ok scOrd (fun vs H Q E h => ?_) (fun cdv A outer s H vs Q E hr h => ?_)
  · obtain ⟨f, fx, sD, nt, fs, src, kvs, cs, rfl, _⟩ := h
    rfl
  · obtain ⟨f, fx, sD, nt, fs, src, kvs, cs, rfl, hf, hl, hs, hn, nns, hnd, hc, hk, k⟩ := h
    have nd := scOrd.nd
    have hu := hu_of hr
    refine ⟨_, pss_cons (ps_lock (ps_for PassesOwn.never rfl (pi_items (pv 1)) (pg_tup rfl (pgs_cons (pg_name (i := 2) nd rfl (Or.inl rfl)) (pgs_cons (pg_name (i := 3) nd rfl (Or.inl rfl)) pgs_nil)))
      (pss_one (ps_if (pt_cmpR op_ne (pe_meth0 (pe_dget hu (pe_fld (pv 0) rfl) (pv 2) (fun _ _ => rfl)) TC.cl MC.m MC.o hr MC.b .nil pass0) (pv 3) (nomark _)) (pss_one (ps_ret pe_bl)) pss_nil)))) (pss_one (ps_ret pe_bl)), ?_⟩
    refine ⟨nt, _, hn, trivial, fun od => ?_⟩
    obtain ⟨HL, eL⟩ : ∃ HL, upd H nt (.frz od (.dK kvs)) = HL := ⟨_, rfl⟩
    rw [eL]
    have nL : HL nt = some (.frz od (.dK kvs)) := by rw [← eL]; exact upd_same
    have oL : ∀ q, q ≠ nt → HL q = H q := fun q n => by rw [← eL]; exact upd_ne n
    have nnf : f ≠ nt := fun e => by rw [e, hn] at hf; cases hf
    have back : ∀ H', Kp [] HL H' → Kp [] H (upd H' nt (.dK kvs)) := fun H' kp q o _ e => by
      by_cases hq : q = nt
      · rw [hq, upd_same]; rw [hq, hn] at e; exact e
      · rw [upd_ne hq]; exact kp q o (by simp) ((oL q hq).trans e)
    refine ⟨_, rfl, nt, od, kvs, rfl, nL, ?_⟩
    refine for_it walk_items (fun i σ H' => ∃ v2 v3, σ = [some (.ref f), some (.ref nt), v2, v3] ∧ Kp [] HL H' ∧ (kvs.take i).all (fun p => decide (valV (duesT cs) p.1 = some p.2)) = true) ⟨none, none, rfl, Kp.refl _, rfl⟩ (fun i σ H' _ ⟨_, _, _, kp, _⟩ => kp _ _ (by simp) nL) ?_ ?_
    · rintro i x σ H1 H2 hi ⟨v2, v3, rfl, kp, hal⟩ ⟨t, y1, y2, rfl, ht, rfl, e1, e2⟩
      obtain ⟨p, hp⟩ : ∃ p, kvs[i]? = some p := ⟨_, List.getElem?_eq_getElem hi⟩
      obtain ⟨c, hcm, m, rfl⟩ := hk p (List.mem_of_getElem? hp)
      have e1 : (kvs[i]?.map fun kv => kV kv.1) = some y1 := e1
      have e2 : kvs[i]?.map Prod.snd = some y2 := e2
      rw [hp] at e1 e2
      obtain rfl : V.str c.z = y1 := Option.some.inj e1
      obtain rfl : V.int m = y2 := Option.some.inj e2
      obtain ⟨hv, hca⟩ := hc c hcm
      have K2 : Kp [] HL (upd H1 t (.tup [V.str c.z, .int m])) := kp.trans (Kp.new ht)
      have get : ∀ q o, q ≠ nt → H q = some o → upd H1 t (.tup [V.str c.z, .int m]) q = some o := fun q o n e => K2 q o (by simp) ((oL q n).trans e)
      have nca : c.a ≠ nt := fun e => by rw [e, hn] at hca; cases hca
      have gs := get sD _ nns.symm hs
      refine ⟨t, _, rfl, SqT.of upd_same, rfl, _, _, rfl, ?_⟩
      refine ⟨_, _, rfl, rfl, ?_⟩
      have dg := DGet.k (k := Sum.inr c.z) gs
      rw [hv] at dg
      refine ⟨_, rfl, f, FC, fx, fs, _, rfl, get f _ nnf hf, T.cl, T.no _ (by simp), hl, _, rfl, sD, .ref c.a, rfl, dg, c.a, c.ax, _, rfl, get c.a _ nca hca, rfl, c.a, c.ax, f, c.z, c.v, rfl, get c.a _ nca hca, ?_⟩
      refine ⟨_, rfl, rfl, _, rfl, ?_⟩
      have vd := valV_due hcm hnd
      by_cases hm : c.v = m
      · subst hm
        rw [decide_eq_true rfl]
        refine iteF ⟨_, _, rfl, K2, ?_⟩
        rw [List.take_succ, hp, List.all_append, hal]
        simp [vd]
      · rw [decide_eq_false (fun e => hm (V.int.inj e))]
        refine iteT ⟨K2 _ _ (by simp) nL, ?_⟩
        show Q (.bl false) _
        have eo : ordB cs kvs = false := by
          unfold ordB
          rw [← Bool.not_eq_true, List.all_eq_true]
          intro hall
          have := hall _ (List.mem_of_getElem? hp)
          rw [vd] at this
          exact hm (V.int.inj (Option.some.inj (of_decide_eq_true this)))
        rw [← eo]
        exact k _ (back _ K2)
    · rintro σ H1 ⟨v2, v3, rfl, kp, hal⟩
      refine ⟨kp _ _ (by simp) nL, ?_⟩
      show Q (.bl true) _
      have eo : ordB cs kvs = true := by
        unfold ordB
        rw [List.take_length] at hal
        exact hal
      rw [← eo]
      exact k _ (back _ kp)
end
end My

set_option Elab.async false
set_option linter.all false
set_option maxRecDepth 100000
set_option maxHeartbeats 4000000
/-! P3: kept answers. -/
namespace My
open PySem PySem.Spec PyProof.Rows L2
def keptF (z : Str) (n : Int) (f wk : Addr) (isk : Bool) (res : V) (nt : Addr) : List (Str × V) := [("name", .str z), ("runs", .int n), ("_floor", .ref f), ("_work", .ref wk), ("_is_kept", .bl isk), ("_result", res), ("_notes", .ref nt)]
structure KpT (K : PySem.W.Frag) (C : Addr) : Prop where
  cl : Cls K C
  no : ∀ f ∈ (["name", "runs", "_floor", "_work", "_is_kept", "_result", "_notes"] : List Str), NoAttr K C f
/-- the work of the answer at a, as a run of its own, behind it R -/
def WKs (P : Program) (w : World) (K : PySem.W.Frag) (mg : Str → Option Value) (base : Heap) (FC KC RC : Addr) (k : Nat) (a ax f fx nt wk : Addr) (fs : List (Str × V)) (z : Str) (n : Int) (o : V) (H : Hp) (R : VK) : Prop :=
  ∀ (H1 : Hp) (r rx nt' : Addr), Kp [a, f] H H1 → H r = none → H nt' = none → r ≠ nt' → H1 a = some (.ins KC ax (keptF z n f wk false .non nt)) → H1 f = some (.ins FC fx (putF "inmost" (.ref r) fs)) → H1 r = some (.ins RC rx (runF z true o nt' 0)) → H1 nt' = some (.dK []) →
    WorkCall P w K mg base k wk H1 fun v H2 => H2 a = some (.ins KC ax (keptF z n f wk false .non nt)) ∧ H2 f = some (.ins FC fx (putF "inmost" (.ref r) fs)) ∧ H2 r = some (.ins RC rx (runF z true o nt' 0)) ∧
      ∀ H3, Kp [a, f] H2 H3 → H3 a = some (.ins KC ax (keptF z (n + 1) f wk true v nt')) → H3 f = some (.ins FC fx (putF "inmost" o (putF "inmost" (.ref r) fs))) → R v H3
theorem WKs.mono {P : Program} {w : World} {K : PySem.W.Frag} {mg : Str → Option Value} {base : Heap} {FC KC RC : Addr} {k : Nat} {a ax f fx nt wk : Addr} {fs : List (Str × V)} {z : Str} {n : Int} {o : V} {H : Hp} {R R' : VK} (h : WKs P w K mg base FC KC RC k a ax f fx nt wk fs z n o H R)
    (i : ∀ v H3 r nt', H3 a = some (.ins KC ax (keptF z (n + 1) f wk true v nt')) → H3 f = some (.ins FC fx (putF "inmost" o (putF "inmost" (.ref r) fs))) → R v H3 → R' v H3) : WKs P w K mg base FC KC RC k a ax f fx nt wk fs z n o H R' :=
  fun H1 r rx nt' k1 h1 h2 h3 h4 h5 h6 h7 => workCall_mono (h H1 r rx nt' k1 h1 h2 h3 h4 h5 h6 h7) fun v H2 ⟨a2, f2, r2, q⟩ => ⟨a2, f2, r2, fun H3 k3 a3 f3 => i v H3 r nt' a3 f3 (q H3 k3 a3 f3)⟩
section
variable {P : Program} {w : World} {K : PySem.W.Frag} {mg : Str → Option Value} {base : Heap} {FC DC CC RC KC : Addr}
abbrev sInitK : Stmt := (inClass (top 16) 0)
theorem scInitK : FnScope ["self", "floor", "name", "work"] ["self", "floor", "name", "work"] (defScope sInitK) := ⟨rfl, rfl, rfl, by decide +kernel, rfl, by decide +kernel, by decide +kernel⟩
def spInitK (KC : Addr) : Sp := fun vs H Q _ => ∃ (a ax f wk : Addr) (z : Str), vs = [.ref a, .ref f, .str z, .ref wk] ∧ H a = some (.ins KC ax []) ∧ ∀ H' nt, Kp [a] H H' → H nt = none → H' a = some (.ins KC ax (keptF z 0 f wk false .non nt)) → H' nt = some (.dK []) → Q .non H'
theorem ok_initK {f : Addr} {fd : FuncData} (F : Fun K "__init__" "Kept.__init__" sInitK f fd) (T : KpT K KC) : FnOk P w K mg base CX0 1 f fd ["self", "floor", "name", "work"] (spInitK KC) := by
  refine F.ok scInitK (fun vs H Q E h => ?_) (fun cdv A outer s H vs Q E hr h => ?_)
  · obtain ⟨a, ax, f, wk, z, rfl, _⟩ := h
    rfl
  · obtain ⟨a, ax, f, wk, z, rfl, ha, k⟩ := h
    refine ⟨_, pss_cons (ps_fld (pv 0) (pv 2) rfl) (pss_cons (ps_fld (pv 0) pe_int rfl) (pss_cons (ps_fld (pv 0) (pv 1) rfl) (pss_cons (ps_fld (pv 0) (pv 3) rfl) (pss_cons (ps_fld (pv 0) pe_bl rfl) (pss_cons (ps_fld (pv 0) pe_non rfl) (pss_one (ps_fld (pv 0) pe_dnewK rfl))))))), ?_⟩
    refine ⟨_, rfl, _, rfl, a, KC, ax, _, rfl, ha, T.cl, T.no _ (by simp), (by show 0 < 1000; decide), ?_⟩
    obtain ⟨H1, e1, o1, k1, _⟩ := gstep (H := H) (putF "name" (.str z) []) (Kp.refl H) ha
    rw [e1]
    refine ⟨_, rfl, a, KC, ax, _, rfl, o1, T.cl, T.no _ (by simp), (by show 1 < 1000; decide), ?_⟩
    obtain ⟨H2, e2, o2, k2, _⟩ := gstep (H := H) (putF "runs" (.int 0) (putF "name" (.str z) [])) k1 o1
    rw [e2]
    refine ⟨_, rfl, _, rfl, a, KC, ax, _, rfl, o2, T.cl, T.no _ (by simp), (by show 2 < 1000; decide), ?_⟩
    obtain ⟨H3, e3, o3, k3, _⟩ := gstep (H := H) (putF "_floor" (.ref f) (putF "runs" (.int 0) (putF "name" (.str z) []))) k2 o2
    rw [e3]
    refine ⟨_, rfl, _, rfl, a, KC, ax, _, rfl, o3, T.cl, T.no _ (by simp), (by show 3 < 1000; decide), ?_⟩
    obtain ⟨H4, e4, o4, k4, _⟩ := gstep (H := H) (putF "_work" (.ref wk) (putF "_floor" (.ref f) (putF "runs" (.int 0) (putF "name" (.str z) [])))) k3 o3
    rw [e4]
    refine ⟨_, rfl, a, KC, ax, _, rfl, o4, T.cl, T.no _ (by simp), (by show 4 < 1000; decide), ?_⟩
    obtain ⟨H5, e5, o5, k5, _⟩ := gstep (H := H) (putF "_is_kept" (.bl false) (putF "_work" (.ref wk) (putF "_floor" (.ref f) (putF "runs" (.int 0) (putF "name" (.str z) []))))) k4 o4
    rw [e5]
    refine ⟨_, rfl, a, KC, ax, _, rfl, o5, T.cl, T.no _ (by simp), (by show 5 < 1000; decide), ?_⟩
    obtain ⟨H6, e6, o6, k6, _⟩ := gstep (H := H) (putF "_result" .non (putF "_is_kept" (.bl false) (putF "_work" (.ref wk) (putF "_floor" (.ref f) (putF "runs" (.int 0) (putF "name" (.str z) [])))))) k5 o5
    rw [e6]
    intro nt hn
    obtain ⟨o6', H7, e7, o7, k7, n7, fn, nf, st7⟩ := fstep (putF "_notes" (.ref nt) (putF "_result" .non (putF "_is_kept" (.bl false) (putF "_work" (.ref wk) (putF "_floor" (.ref f) (putF "runs" (.int 0) (putF "name" (.str z) []))))))) (.dK []) o6 k6 hn
    refine ⟨_, rfl, a, KC, ax, _, rfl, o6', T.cl, T.no _ (by simp), (by show 6 < 1000; decide), ?_⟩
    rw [e7]
    exact k H7 nt k7 fn o7 n7
abbrev sHeld : Stmt := (inClass (top 16) 2)
theorem scHeld : FnScope ["self"] ["self"] (defScope sHeld) := ⟨rfl, rfl, rfl, by decide +kernel, rfl, by decide +kernel, by decide +kernel⟩
def spHeld (KC : Addr) : Sp := fun vs H Q _ => ∃ (a ax f wk nt : Addr) (z : Str) (n : Int) (isk : Bool) (res : V), vs = [.ref a] ∧ H a = some (.ins KC ax (keptF z n f wk isk res nt)) ∧ Q res H
theorem ok_held {f : Addr} {fd : FuncData} (F : Fun K "held" "Kept.held" sHeld f fd) (T : KpT K KC) : FnOk P w K mg base CX0 1 f fd ["self"] (spHeld KC) := by
  refine F.ok scHeld (fun vs H Q E h => ?_) (fun cdv A outer s H vs Q E hr h => ?_)
  · obtain ⟨a, ax, f, wk, nt, z, n, isk, res, rfl, _⟩ := h
    rfl
  · obtain ⟨a, ax, f, wk, nt, z, n, isk, res, rfl, ha, q⟩ := h
    exact ⟨_, pss_one (ps_ret (pe_fld (pv 0) rfl)), _, rfl, a, KC, ax, _, _, rfl, ha, T.cl, T.no _ (by simp), rfl, q⟩
abbrev sWout : Stmt := (inClass (top 16) 4)
theorem scWout : FnScope ["self", "run"] ["self"] (defScope sWout) := ⟨rfl, rfl, rfl, by decide +kernel, rfl, by decide +kernel, by decide +kernel⟩
def spWout (P : Program) (w : World) (K : PySem.W.Frag) (mg : Str → Option Value) (base : Heap) (FC KC RC : Addr) (k : Nat) : Sp := fun vs H Q _ => ∃ (a ax f fx nt wk : Addr) (fs : List (Str × V)) (z : Str) (n : Int) (isk : Bool) (res o : V), vs = [.ref a] ∧ H a = some (.ins KC ax (keptF z n f wk isk res nt)) ∧
  H f = some (.ins FC fx fs) ∧ fs.lookup ("inmost" : Str) = some o ∧ fs.lookup ("begun" : Str) = none ∧ fs.lookup ("carry_out" : Str) = none ∧ fs.length < 100 ∧ a ≠ f ∧ IsFnO H wk ∧ WKs P w K mg base FC KC RC k a ax f fx nt wk fs z n o H fun v H3 => Q .non H3
theorem ok_wout {f fB fC : Addr} {fd dB dC : FuncData} {k : Nat} (hk : 2 ≤ k) (F : Fun K "_work_out" "Kept._work_out" sWout f fd) (T : KpT K KC) (TF : FlT K FC) (TR : RnT K RC) (MB : MO P w K mg base FC "begun" 3 ["self", "name", "is_of_answer"] (spBegun FC RC) fB dB) (MC : MO P w K mg base FC "carry_out" (k + 1) ["self", "run", "work"] (spCarry P w K mg base FC RC k) fC dC) :
    FnOk P w K mg base CX0 (k + 2) f fd ["self"] (spWout P w K mg base FC KC RC k) := by
  refine F.ok scWout (fun vs H Q E h => ?_) (fun cdv A outer s H vs Q E hr h => ?_)
  · obtain ⟨a, ax, f, fx, nt, wk, fs, z, n, isk, res, o, rfl, _⟩ := h
    rfl
  · obtain ⟨a, ax, f, fx, nt, wk, fs, z, n, isk, res, o, rfl, ha, hf, hl, hb, hc, hlen, naf, hw, W⟩ := h
    have nd := scWout.nd
    have h3 := hr.mono (by omega : 3 ≤ k + 1)
    refine ⟨_, pss_cons (ps_fld (pv 0) pe_bl rfl) (pss_cons (ps_fld (pv 0) pe_non rfl) (pss_cons (ps_set (i := 1) nd rfl (Or.inl rfl) (pe_meth (pe_fld (pv 0) rfl) TF.cl MB.m MB.o h3 MB.b .nil pass0 (pa_cons (pe_fld (pv 0) rfl) (pa_cons pe_bl pa_nil))))
      (pss_cons (ps_fld (pv 0) (pe_meth (pe_fld (pv 0) rfl) TF.cl MC.m MC.o hr MC.b .nil pass0 (pa_cons (pv 1) (pa_cons (pe_fld (pv 0) rfl) pa_nil))) rfl)
      (pss_cons (ps_fld (pv 0) pe_bl rfl) (pss_cons (ps_fld (pv 0) (pe_fld (pv 1) rfl) rfl) (pss_one (ps_fldaug (pv 0) pe_int in_add))))))), ?_⟩
    refine ⟨_, rfl, a, KC, ax, _, rfl, ha, T.cl, T.no _ (by simp), (by show 7 < 1000; decide), ?_⟩
    obtain ⟨H1, e1⟩ : ∃ H1, upd H a (.ins KC ax (keptF z n f wk false res nt)) = H1 := ⟨_, rfl⟩
    have e1' : upd H a (.ins KC ax (putF "_is_kept" (.bl false) (keptF z n f wk isk res nt))) = H1 := e1
    rw [e1']
    have o1 : H1 a = some (.ins KC ax (keptF z n f wk false res nt)) := by rw [← e1]; exact upd_same
    have k1 : Kp [a, f] H H1 := by rw [← e1]; exact Kp.put (by simp)
    have f1 : H1 f = some (.ins FC fx fs) := by rw [← e1, upd_ne naf.symm]; exact hf
    refine ⟨_, rfl, a, KC, ax, _, rfl, o1, T.cl, T.no _ (by simp), (by show 7 < 1000; decide), ?_⟩
    obtain ⟨H2, e2⟩ : ∃ H2, upd H1 a (.ins KC ax (keptF z n f wk false .non nt)) = H2 := ⟨_, rfl⟩
    have e2' : upd H1 a (.ins KC ax (putF "_result" .non (keptF z n f wk false res nt))) = H2 := e2
    rw [e2']
    have o2 : H2 a = some (.ins KC ax (keptF z n f wk false .non nt)) := by rw [← e2]; exact upd_same
    have k2 : Kp [a, f] H H2 := k1.trans (by rw [← e2]; exact Kp.put (by simp))
    have f2 : H2 f = some (.ins FC fx fs) := by rw [← e2, upd_ne naf.symm]; exact f1
    have low : ∀ y, H2 y = none → H y = none := fun y e => by
      have n1 : y ≠ a := fun z => by rw [z, o2] at e; cases e
      rw [← e2, upd_ne n1, ← e1, upd_ne n1] at e
      exact e
    refine ⟨_, rfl, a, KC, ax, _, _, rfl, o2, T.cl, T.no _ (by simp), rfl, f, fx, fs, rfl, f2, hb, _, rfl, a, KC, ax, _, _, rfl, o2, T.cl, T.no _ (by simp), rfl, f, fx, fs, z, true, o, rfl, f2, hl, fun H3 r rx nt' k3 hr' hnt' nrn r3 n3 => ?_⟩
    have a3 := k3 _ _ (by simp) o2
    have f3 := k3 _ _ (by simp) f2
    have nrf : r ≠ f := fun e => by rw [e, f2] at hr'; cases hr'
    have nra : r ≠ a := fun e => by rw [e, o2] at hr'; cases hr'
    have nna : nt' ≠ a := fun e => by rw [e, o2] at hnt'; cases hnt'
    have nnf : nt' ≠ f := fun e => by rw [e, f2] at hnt'; cases hnt'
    have hw3 : IsFnO H3 wk := by
      obtain ⟨φ, hφ, q⟩ := hw
      have n1 : wk ≠ a := fun e => by rw [e, ha] at hφ; cases hφ
      have n2 : wk ≠ f := fun e => by rw [e, hf] at hφ; cases hφ
      exact ⟨φ, k3 _ _ (by simp) (k2 _ _ (by simp; exact ⟨n1, n2⟩) hφ), q⟩
    refine ⟨_, rfl, a, KC, ax, _, _, rfl, a3, T.cl, T.no _ (by simp), rfl, f, fx, fs, rfl, f3, hc, _, rfl, _, rfl, a, KC, ax, _, _, rfl, a3, T.cl, T.no _ (by simp), rfl, f, fx, r, rx, nt', wk, fs, z, true, o, 0, rfl, f3, hlen, nrf, r3, hw3, fun H4 k4 f4 => ?_⟩
    have a4 := k4 _ _ (by simpa using naf) a3
    have r4 := k4 _ _ (by simpa using nrf) r3
    have n4 := k4 _ _ (by simpa using nnf) n3
    have K4 : Kp [a, f] H H4 := (k2.trans (k3.mono (by simp))).trans (k4.mono (by simp))
    refine workCall_mono (W H4 r rx nt' K4 (low _ hr') (low _ hnt') nrn a4 f4 r4 n4) ?_
    rintro v H5 ⟨a5, f5, r5, q5⟩
    refine ⟨f5, r5, fun H6 k6 f6 => ?_⟩
    have a6 := k6 _ _ (by simpa using naf) a5
    have r6 := k6 _ _ (by simpa using nrf) r5
    refine ⟨_, rfl, a, KC, ax, _, rfl, a6, T.cl, T.no _ (by simp), (by show 7 < 1000; decide), ?_⟩
    refine ⟨_, rfl, a, KC, ax, _, rfl, upd_same, T.cl, T.no _ (by simp), (by show 7 < 1000; decide), ?_⟩
    rw [upd_upd]
    refine ⟨_, rfl, r, RC, rx, _, _, rfl, (upd_ne nra).trans r6, TR.cl, TR.no _ (by simp), rfl, _, rfl, a, KC, ax, _, rfl, upd_same, T.cl, T.no _ (by simp), (by show 7 < 1000; decide), ?_⟩
    rw [upd_upd]
    refine ⟨_, rfl, a, KC, ax, _, _, rfl, upd_same, T.cl, T.no _ (by simp), rfl, _, _, rfl, rfl, ax, _, upd_same, (by show 7 < 1000; decide), ?_⟩
    rw [upd_upd]
    refine q5 _ ((k6.mono (by simp)).trans (Kp.put (by simp))) upd_same ?_
    rw [upd_ne naf.symm]; exact f6
end
end My

set_option Elab.async false
set_option linter.all false
set_option maxRecDepth 100000
set_option maxHeartbeats 4000000
/-! P4: a kept answer is read. -/
namespace My
open PySem PySem.Spec PyProof.Rows L2
/-- the answer at a on its floor, its notes of cells alone -/
structure KAt (FC CC KC RC : Addr) (H : Hp) (a ax f fx nD cD sD eL lL tD nt wk : Addr) (o : V) (z : Str) (n : Int) (isk : Bool) (res : V) (src kvs : List (Key × V)) (cs : List Ce) : Prop where
  me : H a = some (.ins KC ax (keptF z n f wk isk res nt))
  fl : H f = some (.ins FC fx (floorG nD cD sD eL lL o tD))
  naf : a ≠ f
  fn : IsFnO H wk
  srs : H sD = some (.dK src)
  nts : H nt = some (.dK kvs)
  nns : nt ≠ sD
  nd : (cs.map Ce.z).Nodup
  cells : ∀ c ∈ cs, valV src (Sum.inr c.z) = some (.ref c.a) ∧ H c.a = some (.ins CC c.ax (cellF c.z f c.v))
  all : ∀ p ∈ kvs, ∃ c ∈ cs, ∃ m : Int, p = (Sum.inr c.z, V.int m)
theorem Free.kp {RC : Addr} {H H' : Hp} {z : Str} (k : Kp [] H H') : ∀ {n : Nat} {o : V}, Free RC H z n o → Free RC H' z n o
  | 0, _, h => h
  | n + 1, _, ⟨r, rx, nt, z', ia, o, q, e, h1, h2, h3⟩ => ⟨r, rx, nt, z', ia, o, q, e, k _ _ (by simp) h1, h2, Free.kp k h3⟩
theorem IsFnO.kp {S : List Addr} {H H' : Hp} {f : Addr} (x : IsFnO H f) (k : Kp S H H') (n : f ∉ S) : IsFnO H' f := by
  obtain ⟨φ, e, q⟩ := x
  exact ⟨φ, k _ _ n e, q⟩
theorem KAt.kp {FC CC KC RC : Addr} {H H' : Hp} {a ax f fx nD cD sD eL lL tD nt wk : Addr} {o : V} {z : Str} {n : Int} {isk : Bool} {res : V} {src kvs : List (Key × V)} {cs : List Ce} (h : KAt FC CC KC RC H a ax f fx nD cD sD eL lL tD nt wk o z n isk res src kvs cs) (k : Kp [] H H') :
    KAt FC CC KC RC H' a ax f fx nD cD sD eL lL tD nt wk o z n isk res src kvs cs :=
  ⟨k _ _ (by simp) h.me, k _ _ (by simp) h.fl, h.naf, h.fn.kp k (by simp), k _ _ (by simp) h.srs, k _ _ (by simp) h.nts, h.nns, h.nd, fun c hc => ⟨(h.cells c hc).1, k _ _ (by simp) (h.cells c hc).2⟩, h.all⟩
section
variable {P : Program} {w : World} {K : PySem.W.Frag} {mg : Str → Option Value} {base : Heap} {FC DC CC RC KC : Addr}
abbrev sCurK : Stmt := (inClass (top 16) 3)
theorem scCurK : FnScope ["self"] ["self"] (defScope sCurK) := ⟨rfl, rfl, rfl, by decide +kernel, rfl, by decide +kernel, by decide +kernel⟩
def spCurK (P : Program) (w : World) (K : PySem.W.Frag) (mg : Str → Option Value) (base : Heap) (FC CC KC RC : Addr) (k : Nat) : Sp := fun vs H Q _ => ∃ (a ax f fx nD cD sD eL lL tD nt wk : Addr) (o : V) (z : Str) (n : Int) (isk : Bool) (res : V) (src kvs : List (Key × V)) (cs : List Ce) (m : Nat),
  vs = [.ref a] ∧ KAt FC CC KC RC H a ax f fx nD cD sD eL lL tD nt wk o z n isk res src kvs cs ∧ Free RC H z m o ∧
  (((isk && ordB cs kvs) = true ∧ ∀ H', Kp [] H H' → Q res H') ∨ ((isk && ordB cs kvs) = false ∧ ∀ H', Kp [] H H' → WKs P w K mg base FC KC RC k a ax f fx nt wk (floorG nD cD sD eL lL o tD) z n o H' Q))
theorem ok_curK {f fB fO fW : Addr} {fd dB dO dW : FuncData} {k : Nat} (F : Fun K "current" "Kept.current" sCurK f fd) (T : KpT K KC) (TF : FlT K FC) (MB : MO P w K mg base FC "check_not_busy" 1 ["self", "name"] (spBusy FC RC) fB dB) (MO' : MO P w K mg base FC "are_in_order" 2 ["self", "notes"] (spOrd FC CC) fO dO)
    (MW : MO P w K mg base KC "_work_out" (k + 2) ["self"] (spWout P w K mg base FC KC RC k) fW dW) : FnOk P w K mg base CX0 (k + 3) f fd ["self"] (spCurK P w K mg base FC CC KC RC k) := by
  refine F.ok scCurK (fun vs H Q E h => ?_) (fun cdv A outer s H vs Q E hr h => ?_)
  · obtain ⟨a, ax, f, fx, nD, cD, sD, eL, lL, tD, nt, wk, o, z, n, isk, res, src, kvs, cs, m, rfl, _⟩ := h
    rfl
  · obtain ⟨a, ax, f, fx, nD, cD, sD, eL, lL, tD, nt, wk, o, z, n, isk, res, src, kvs, cs, m, rfl, h, hF, W⟩ := h
    have h1 := hr.mono (by omega : 1 ≤ k + 2)
    have h2 := hr.mono (by omega : 2 ≤ k + 2)
    refine ⟨_, pss_cons (ps_expr (pe_meth (pe_fld (pv 0) rfl) TF.cl MB.m MB.o h1 MB.b .nil pass0 (pa_cons (pe_fld (pv 0) rfl) pa_nil)))
      (C8.pss_cut (ps_if (pw_or (pt_not (pt_val (pe_fld (pv 0) rfl))) (pw_or1 (pt_not (pt_val (pe_meth (pe_fld (pv 0) rfl) TF.cl MO'.m MO'.o h2 MO'.b .nil pass0 (pa_cons (pe_fld (pv 0) rfl) pa_nil)))))).pt (pss_one (ps_expr (pe_meth0 (pv 0) T.cl MW.m MW.o hr MW.b .nil pass0))) pss_nil)
      (pss_one (ps_ret (pe_fld (pv 0) rfl)))), ?_⟩
    refine ⟨_, rfl, a, KC, ax, _, _, rfl, h.me, T.cl, T.no _ (by simp), rfl, f, fx, _, rfl, h.fl, rfl, _, rfl, a, KC, ax, _, _, rfl, h.me, T.cl, T.no _ (by simp), rfl, f, fx, _, z, o, m, rfl, h.fl, rfl, hF, ?_⟩
    refine ⟨fun σ' H' => σ' = [some (.ref a)] ∧ ∃ (v : V) (fs : List (Str × V)), H' a = some (.ins KC ax fs) ∧ fs.lookup ("_result" : Str) = some v ∧ Q v H', ?_, ?_⟩
    · refine ⟨_, rfl, a, KC, ax, _, _, rfl, h.me, T.cl, T.no _ (by simp), rfl, ?_⟩
      have work : ∀ H', Kp [] H H' → WKs P w K mg base FC KC RC k a ax f fx nt wk (floorG nD cD sD eL lL o tD) z n o H' Q → spWout P w K mg base FC KC RC k [.ref a] H' (fun v H' => [some (V.ref a)] = [some (V.ref a)] ∧ ∃ (v : V) (fs : List (Str × V)), H' a = some (.ins KC ax fs) ∧ fs.lookup ("_result" : Str) = some v ∧ Q v H') E0 := fun H' kp W => by
        have h' := h.kp kp
        refine ⟨a, ax, f, fx, nt, wk, _, z, n, isk, res, o, rfl, h'.me, h'.fl, rfl, rfl, rfl, (by show 9 < 100; decide), h.naf, h'.fn, W.mono fun v H3 r nt' a3 f3 q => ?_⟩
        exact ⟨rfl, v, _, a3, rfl, q⟩
      cases isk with
      | false =>
        rcases W with ⟨z, _⟩ | ⟨_, W⟩
        · cases z
        · exact ⟨_, rfl, iteT (iteT ⟨_, rfl, a, ax, _, rfl, h.me, rfl, work H (Kp.refl H) (W H (Kp.refl H))⟩)⟩
      | true =>
        refine ⟨_, rfl, iteF ?_⟩
        refine ⟨_, rfl, a, KC, ax, _, _, rfl, h.me, T.cl, T.no _ (by simp), rfl, f, fx, _, rfl, h.fl, rfl, _, rfl, a, KC, ax, _, _, rfl, h.me, T.cl, T.no _ (by simp), rfl, f, fx, sD, nt, _, src, kvs, cs, rfl, h.fl, rfl, h.srs, h.nts, h.nns, h.nd, h.cells, h.all, fun H' kp => ?_⟩
        refine ⟨_, rfl, ?_⟩
        have h' := h.kp kp
        rcases W with ⟨z, q⟩ | ⟨z, W⟩
        · have e : ordB cs kvs = true := z
          rw [e]
          exact iteF ⟨rfl, res, _, h'.me, rfl, q H' kp⟩
        · have e : ordB cs kvs = false := z
          rw [e]
          exact iteT ⟨_, rfl, a, ax, _, rfl, h'.me, rfl, work H' kp (W H' kp)⟩
    · rintro σ' H' ⟨rfl, v, fs, ha', hv, q⟩
      exact ⟨_, rfl, a, KC, ax, fs, _, rfl, ha', T.cl, T.no _ (by simp), hv, q⟩
abbrev sCallK : Stmt := (inClass (top 16) 1)
theorem scCallK : FnScope ["self", "result"] ["self"] (defScope sCallK) := ⟨rfl, rfl, rfl, by decide +kernel, rfl, by decide +kernel, by decide +kernel⟩
/-- called outside of all runs -/
def spCallK (P : Program) (w : World) (K : PySem.W.Frag) (mg : Str → Option Value) (base : Heap) (FC CC KC RC : Addr) (k : Nat) : Sp := fun vs H Q _ => ∃ (a ax f fx nD cD sD eL lL tD nt wk : Addr) (z : Str) (n : Int) (isk : Bool) (res : V) (src kvs : List (Key × V)) (cs : List Ce),
  vs = [.ref a] ∧ KAt FC CC KC RC H a ax f fx nD cD sD eL lL tD nt wk .non z n isk res src kvs cs ∧
  (((isk && ordB cs kvs) = true ∧ ∀ H', Kp [] H H' → Q res H') ∨ ((isk && ordB cs kvs) = false ∧ ∀ H', Kp [] H H' → WKs P w K mg base FC KC RC k a ax f fx nt wk (floorG nD cD sD eL lL .non tD) z n .non H' Q))
theorem ok_callK {f fC fN : Addr} {fd dC dN : FuncData} {k : Nat} (F : Fun K "__call__" "Kept.__call__" sCallK f fd) (T : KpT K KC) (TF : FlT K FC) (MC : MO P w K mg base KC "current" (k + 3) ["self"] (spCurK P w K mg base FC CC KC RC k) fC dC) (MN : MO P w K mg base FC "note" 1 ["self", "name", "worth"] (spNote FC) fN dN) :
    FnOk P w K mg base CX0 (k + 4) f fd ["self"] (spCallK P w K mg base FC CC KC RC k) := by
  refine F.ok scCallK (fun vs H Q E h => ?_) (fun cdv A outer s H vs Q E hr h => ?_)
  · obtain ⟨a, ax, f, fx, nD, cD, sD, eL, lL, tD, nt, wk, z, n, isk, res, src, kvs, cs, rfl, _⟩ := h
    rfl
  · obtain ⟨a, ax, f, fx, nD, cD, sD, eL, lL, tD, nt, wk, z, n, isk, res, src, kvs, cs, rfl, h, W⟩ := h
    have nd := scCallK.nd
    have h1 := hr.mono (by omega : 1 ≤ k + 3)
    refine ⟨_, pss_cons (ps_set (i := 1) nd rfl (Or.inl rfl) (pe_meth0 (pv 0) T.cl MC.m MC.o hr MC.b .nil pass0)) (pss_cons (ps_expr (pe_meth (pe_fld (pv 0) rfl) TF.cl MN.m MN.o h1 MN.b .nil pass0 (pa_cons (pe_fld (pv 0) rfl) (pa_cons (pv 1) pa_nil)))) (pss_one (ps_ret (pv 1)))), ?_⟩
    refine ⟨_, rfl, a, ax, _, rfl, h.me, rfl, a, ax, f, fx, nD, cD, sD, eL, lL, tD, nt, wk, .non, z, n, isk, res, src, kvs, cs, 0, rfl, h, rfl, ?_⟩
    have rest : ∀ (v : V) (H' : Hp) (n' : Int) (isk' : Bool) (res' : V) (nt' : Addr), H' a = some (.ins KC ax (keptF z n' f wk isk' res' nt')) → H' f = some (.ins FC fx (floorG nD cD sD eL lL .non tD)) → Q v H' →
        tSeq (tDrop (tMeth FC "note" (spNote FC) [] E0 (tFld K (tVar 0) "_floor") (tCons (tFld K (tVar 0) "name") (tCons (tVar 1) tNil)))) (tRet (tVar 1)) { nx := fun _ H' => Q .non H', rt := Q } [some (.ref a), some v] H' := fun v H' n' isk' res' nt' a' f' q => by
      refine ⟨_, rfl, a, KC, ax, _, _, rfl, a', T.cl, T.no _ (by simp), rfl, f, fx, _, rfl, f', rfl, _, rfl, a, KC, ax, _, _, rfl, a', T.cl, T.no _ (by simp), rfl, _, rfl, f, fx, _, _, _, rfl, f', rfl, ?_⟩
      exact ⟨_, rfl, q⟩
    rcases W with ⟨e, q⟩ | ⟨e, W⟩
    · refine .inl ⟨e, fun H' kp => ?_⟩
      have h' := h.kp kp
      exact rest _ _ _ _ _ _ h'.me h'.fl (q H' kp)
    · refine .inr ⟨e, fun H' kp => (W H' kp).mono fun v H3 r nt' a3 f3 q => ?_⟩
      exact rest _ _ _ _ _ _ a3 f3 q
end
end My

set_option Elab.async false
set_option linter.all false
set_option maxRecDepth 100000
set_option maxHeartbeats 4000000
/-! P5: a desk on which kept answers stand beside cells. -/
namespace My
open PySem PySem.Spec PyProof.Rows L2
/-- the desk: xn, xs what else bears a name, what else can be noted -/
structure DeskG (FC DC CC : Addr) (H : Hp) (D : DA) (tD : Addr) (cs : List Ce) (xn xs : List (Key × V)) (inm : V) : Prop where
  desk : H D.d = some (.ins DC D.dx [("_floor", .ref D.f)])
  floor : H D.f = some (.ins FC D.fx (floorG D.nD D.cD D.sD D.eL D.lL inm tD))
  names : H D.nD = some (.dK (namesT cs ++ xn))
  cells : H D.cD = some (.dK (cellsT cs))
  sources : H D.sD = some (.dK (cellsT cs ++ xs))
  eff : H D.eL = some (.lst [])
  log : H D.lL = some (.lst [])
  turned : H tD = some (.dK [])
  nd : [D.d, D.f, D.nD, D.cD, D.sD, D.eL, D.lL, tD].Nodup
  cell : ∀ c ∈ cs, H c.a = some (.ins CC c.ax (cellF c.z D.f c.v)) ∧ c.a ∉ [D.d, D.f, D.nD, D.cD, D.sD, D.eL, D.lL, tD]
  zs : (cs.map Ce.z).Nodup
  as : (cs.map Ce.a).Nodup
  len : cs.length ≤ 100
  lx : xn.length ≤ 100
  ly : xs.length ≤ 100
theorem DeskAt.toG {FC DC CC : Addr} {H : Hp} {D : DA} {tD : Addr} {cs : List Ce} (h : DeskAt FC DC CC H D tD cs) : DeskG FC DC CC H D tD cs [] [] .non :=
  ⟨h.desk, h.floor, by rw [List.append_nil]; exact h.names, h.cells, by rw [List.append_nil]; exact h.sources, h.eff, h.log, h.turned, h.nd, h.cell, h.zs, h.as, h.len, Nat.zero_le _, Nat.zero_le _⟩
theorem DeskG.kp {FC DC CC : Addr} {S : List Addr} {H H' : Hp} {D : DA} {tD : Addr} {cs : List Ce} {xn xs : List (Key × V)} {inm : V} (h : DeskG FC DC CC H D tD cs xn xs inm) (k : Kp S H H') (n : ∀ x ∈ foot D tD cs, x ∉ S) : DeskG FC DC CC H' D tD cs xn xs inm := by
  have m : ∀ x ∈ [D.d, D.f, D.nD, D.cD, D.sD, D.eL, D.lL, tD], x ∉ S := fun x hx => n x (List.mem_append_left _ hx)
  exact ⟨k _ _ (m _ (by simp)) h.desk, k _ _ (m _ (by simp)) h.floor, k _ _ (m _ (by simp)) h.names, k _ _ (m _ (by simp)) h.cells, k _ _ (m _ (by simp)) h.sources, k _ _ (m _ (by simp)) h.eff, k _ _ (m _ (by simp)) h.log, k _ _ (m _ (by simp)) h.turned, h.nd,
    fun c hc => ⟨k _ _ (n _ (List.mem_append_right _ (List.mem_map_of_mem hc))) (h.cell c hc).1, (h.cell c hc).2⟩, h.zs, h.as, h.len, h.lx, h.ly⟩
/-- the innermost run is another one, or none -/
theorem DeskG.inmost {FC DC CC : Addr} {H H' : Hp} {D : DA} {tD : Addr} {cs : List Ce} {xn xs : List (Key × V)} {inm inm' : V} {S : List Addr} (h : DeskG FC DC CC H D tD cs xn xs inm) (k : Kp (D.f :: S) H H') (n : ∀ x ∈ foot D tD cs, x ∉ S) (hf : H' D.f = some (.ins FC D.fx (floorG D.nD D.cD D.sD D.eL D.lL inm' tD))) : DeskG FC DC CC H' D tD cs xn xs inm' := by
  have hnd := h.nd
  simp only [List.nodup_cons, List.mem_cons, List.mem_nil_iff, or_false, not_or, List.nodup_nil, and_true, not_false_eq_true] at hnd
  obtain ⟨⟨d1, _⟩, ⟨f1, f2, f3, f4, f5, f6⟩, _⟩ := hnd
  have m : ∀ x ∈ [D.d, D.f, D.nD, D.cD, D.sD, D.eL, D.lL, tD], x ≠ D.f → x ∉ D.f :: S := fun x hx ne e => by
    rcases List.mem_cons.mp e with e | e
    · exact ne e
    · exact n x (List.mem_append_left _ hx) e
  refine ⟨k _ _ (m _ (by simp) d1) h.desk, hf, k _ _ (m _ (by simp) (Ne.symm f1)) h.names, k _ _ (m _ (by simp) (Ne.symm f2)) h.cells, k _ _ (m _ (by simp) (Ne.symm f3)) h.sources, k _ _ (m _ (by simp) (Ne.symm f4)) h.eff, k _ _ (m _ (by simp) (Ne.symm f5)) h.log, k _ _ (m _ (by simp) (Ne.symm f6)) h.turned, h.nd,
    fun c hc => ⟨k _ _ (fun e => ?_) (h.cell c hc).1, (h.cell c hc).2⟩, h.zs, h.as, h.len, h.lx, h.ly⟩
  have hn := (h.cell c hc).2
  simp only [List.mem_cons, List.mem_nil_iff, or_false, not_or] at hn
  rcases List.mem_cons.mp e with e | e
  · exact hn.2.1 e
  · exact n _ (List.mem_append_right _ (List.mem_map_of_mem hc)) e
theorem DeskG.there {FC DC CC : Addr} {H : Hp} {D : DA} {tD : Addr} {cs : List Ce} {xn xs : List (Key × V)} {inm : V} (h : DeskG FC DC CC H D tD cs xn xs inm) : ∀ x ∈ foot D tD cs, ∃ o, H x = some o := by
  intro x hx
  rcases List.mem_append.mp hx with hx | hx
  · simp only [List.mem_cons, List.mem_nil_iff, or_false] at hx
    rcases hx with rfl | rfl | rfl | rfl | rfl | rfl | rfl | rfl
    · exact ⟨_, h.desk⟩
    · exact ⟨_, h.floor⟩
    · exact ⟨_, h.names⟩
    · exact ⟨_, h.cells⟩
    · exact ⟨_, h.sources⟩
    · exact ⟨_, h.eff⟩
    · exact ⟨_, h.log⟩
    · exact ⟨_, h.turned⟩
  · obtain ⟨c, hc, rfl⟩ := List.mem_map.mp hx
    exact ⟨_, (h.cell c hc).1⟩
theorem valV_app (kvs r : List (Key × V)) (k : Key) : valV (kvs ++ r) k = match valV kvs k with | some v => some v | none => valV r k := by
  induction kvs with
  | nil => rfl
  | cons p q ih =>
    by_cases e : p.1 = k
    · rw [List.cons_append, valV_pos (p := p) e, valV_pos (p := p) e]
    · rw [List.cons_append, valV_neg (p := p) e, valV_neg (p := p) e]
      exact ih
theorem DeskG.src {FC DC CC : Addr} {H : Hp} {D : DA} {tD : Addr} {cs : List Ce} {xn xs : List (Key × V)} {inm : V} (h : DeskG FC DC CC H D tD cs xn xs inm) : ∀ c ∈ cs, valV (cellsT cs ++ xs) (Sum.inr c.z) = some (.ref c.a) ∧ H c.a = some (.ins CC c.ax (cellF c.z D.f c.v)) := fun c hc => by
  refine ⟨?_, (h.cell c hc).1⟩
  rw [valV_app, valV_cell hc h.zs]
section
variable {P : Program} {w : World} {K : PySem.W.Frag} {mg : Str → Option Value} {base : Heap} {FC DC CC RC KC : Addr}
def spPutG (FC DC CC : Addr) : Sp := fun vs H Q _ => ∃ (D : DA) (t0 : Addr) (cs : List Ce) (xn xs : List (Key × V)) (i : Nat) (c : Ce) (v : Int), vs = [.ref c.a, .int v] ∧ DeskG FC DC CC H D t0 cs xn xs .non ∧ cs[i]? = some c ∧ ∀ H' tD, Kp [D.f, t0, c.a] H H' → H tD = none → DeskG FC DC CC H' D tD (cs.set i (c.to v)) xn xs .non → Q .non H'
theorem ok_putG {f fP fS : Addr} {fd dP dS : FuncData} (F : Fun K "put" "Cell.put" sPut f fd) (T : CeT K CC) (TF : FlT K FC) (MP : MO P w K mg base FC "check_place" 1 ["self"] (spPlace FC) fP dP) (MS : MO P w K mg base FC "settle" 2 ["self"] (spSettle FC) fS dS) :
    FnOk P w K mg base CX0 3 f fd ["self", "value"] (spPutG FC DC CC) := by
  refine F.ok scPut (fun vs H Q E h => ?_) (fun cdv A outer s H vs Q E hr h => ?_)
  · obtain ⟨D, t0, cs, xn, xs, i, c, v, rfl, _⟩ := h
    rfl
  · obtain ⟨D, t0, cs, xn, xs, i, c, v, rfl, hD, hi, k⟩ := h
    have hu := hu_of hr
    have hr1 := hr.mono (by decide : 1 ≤ 2)
    have hsl := sizeLine_eq
    have hc : c ∈ cs := List.mem_of_getElem? hi
    obtain ⟨ha, hn⟩ := hD.cell c hc
    simp only [List.mem_cons, List.mem_nil_iff, or_false, not_or] at hn
    obtain ⟨nd0, nf, nn, nc, ns, ne, nl, nt⟩ := hn
    have hnd := hD.nd
    simp only [List.nodup_cons, List.mem_cons, List.mem_nil_iff, or_false, not_or, List.nodup_nil, and_true, not_false_eq_true] at hnd
    obtain ⟨⟨d1, d2, d3, d4, d5, d6, d7⟩, ⟨f1, f2, f3, f4, f5, f6⟩, ⟨g1, g2, g3, g4, g5⟩, ⟨j1, j2, j3, j4⟩, ⟨m1, m2, m3⟩, ⟨p1, p2⟩, q1⟩ := hnd
    refine ⟨_, pss_cons (ps_expr (pe_meth0 (pe_fld (pv 0) rfl) TF.cl MP.m MP.o hr1 MP.b .nil pass0))
      (C8.pss_cut (ps_if (pt_cmpR op_ne (pv 1) (pe_fld (pv 0) rfl) (nomark _)) (pss_cons (ps_fld (pv 0) (pv 1) rfl) (pss_one (ps_dput hu (pe_fld (pe_fld (pv 0) rfl) rfl) (pe_fld (pv 0) rfl) pe_bl rfl))) pss_nil)
      (pss_one (ps_expr (pe_meth0 (pe_fld (pv 0) rfl) TF.cl MS.m MS.o hr MS.b .nil pass0)))), ?_⟩
    refine ⟨_, rfl, c.a, CC, c.ax, _, _, rfl, ha, T.cl, T.no _ (by simp), rfl, D.f, D.fx, _, rfl, hD.floor, rfl, D.f, D.fx, _, rfl, hD.floor, rfl, ?_⟩
    refine ⟨fun σ' H' => σ' = [some (.ref c.a), some (.int v)] ∧ Kp [t0, c.a] H H' ∧ H' c.a = some (.ins CC c.ax (cellF c.z D.f v)) ∧ ∃ o, H' t0 = some o, ?_, ?_⟩
    · refine ⟨_, rfl, _, rfl, c.a, CC, c.ax, _, _, rfl, ha, T.cl, T.no _ (by simp), rfl, rfl, _, rfl, ?_⟩
      refine ite2 (fun e => ?_) (fun e => ⟨rfl, Kp.refl H, ?_, _, hD.turned⟩)
      · refine ⟨_, rfl, _, rfl, c.a, CC, c.ax, _, rfl, ha, T.cl, T.no _ (by simp), (by show 3 < 1000; decide), ?_⟩
        obtain ⟨H1, e1⟩ : ∃ H1, upd H c.a (.ins CC c.ax (putF "_now" (.int v) (cellF c.z D.f c.v))) = H1 := ⟨_, rfl⟩
        have a1 : H1 c.a = some (.ins CC c.ax (cellF c.z D.f v)) := by rw [← e1]; exact upd_same
        have o1 : ∀ b, b ≠ c.a → H1 b = H b := fun b n => by rw [← e1]; exact upd_ne n
        rw [e1]
        refine ⟨_, rfl, c.a, CC, c.ax, _, _, rfl, a1, T.cl, T.no _ (by simp), rfl, D.f, FC, D.fx, _, _, rfl, (o1 _ (Ne.symm nf)).trans hD.floor, TF.cl, TF.no _ (by simp), rfl, _, rfl, c.a, CC, c.ax, _, _, rfl, a1, T.cl, T.no _ (by simp), rfl, t0, _, rfl, DPut.k (k := Sum.inr c.z) ((o1 _ (Ne.symm nt)).trans hD.turned) (by show 0 < sizeLine; omega), ?_⟩
        refine ⟨rfl, fun b o nb eb => ?_, by rw [upd_ne nt]; exact a1, _, upd_same⟩
        simp only [List.mem_cons, List.mem_nil_iff, or_false, not_or] at nb
        rw [upd_ne nb.1, o1 _ nb.2]
        exact eb
      · have ev : v = c.v := by
          cases h0 : decide (V.int v = V.int c.v) with
          | true => exact V.int.inj (of_decide_eq_true h0)
          | false => exact absurd (show (!decide (V.int v = V.int c.v)) = true by rw [h0]; rfl) e
        rw [ev]; exact ha
    · rintro σ' H1 ⟨rfl, k1, a1, ot, et⟩
      have old : ∀ b o, b ≠ t0 → b ≠ c.a → H b = some o → H1 b = some o := fun b o n1 n2 e => k1 b o (by simp only [List.mem_cons, List.mem_nil_iff, or_false, not_or]; exact ⟨n1, n2⟩) e
      have fl1 := old _ _ f6 (Ne.symm nf) hD.floor
      have ef1 := old _ _ p2 (Ne.symm ne) hD.eff
      refine ⟨_, rfl, c.a, CC, c.ax, _, _, rfl, a1, T.cl, T.no _ (by simp), rfl, D.f, D.fx, _, rfl, fl1, rfl, D.f, D.fx, D.nD, D.cD, D.sD, D.eL, D.lL, t0, rfl, fl1, ef1, fun H2 tD k2 ht fl2 tu2 => ?_⟩
      have old2 : ∀ b o, b ≠ D.f → H1 b = some o → H2 b = some o := fun b o n e => k2 b o (by simpa using n) e
      have htD : H tD = none := by
        cases e : H tD with
        | none => rfl
        | some o =>
          by_cases b1 : tD = t0
          · rw [b1, et] at ht; cases ht
          · by_cases b2 : tD = c.a
            · rw [b2, a1] at ht; cases ht
            · rw [old _ _ b1 b2 e] at ht; cases ht
      have fr : ∀ b o, H b = some o → b ≠ tD := fun b o e z => by rw [← z, e] at htD; cases htD
      refine k H2 tD (fun b o nb e => ?_) htD ?_
      · simp only [List.mem_cons, List.mem_nil_iff, or_false, not_or] at nb
        exact old2 _ _ nb.1 (old _ _ nb.2.1 nb.2.2 e)
      · refine ⟨old2 _ _ (fun z => d1 (by rw [z])) (old _ _ d7 (Ne.symm nd0) hD.desk), fl2, ?_, ?_, ?_, old2 _ _ (Ne.symm f4) ef1, old2 _ _ (Ne.symm f5) (old _ _ q1 (Ne.symm nl) hD.log), tu2, ?_, fun b hb => ?_, ?_, ?_, by rw [List.length_set]; exact hD.len, hD.lx, hD.ly⟩
        · rw [show namesT (cs.set i (c.to v)) = namesT cs from map_set _ hi rfl]
          exact old2 _ _ (Ne.symm f1) (old _ _ g5 (Ne.symm nn) hD.names)
        · rw [show cellsT (cs.set i (c.to v)) = cellsT cs from map_set _ hi rfl]
          exact old2 _ _ (Ne.symm f2) (old _ _ j4 (Ne.symm nc) hD.cells)
        · rw [show cellsT (cs.set i (c.to v)) = cellsT cs from map_set _ hi rfl]
          exact old2 _ _ (Ne.symm f3) (old _ _ m3 (Ne.symm ns) hD.sources)
        · simp only [List.nodup_cons, List.mem_cons, List.mem_nil_iff, or_false, not_or, List.nodup_nil, and_true, not_false_eq_true]
          exact ⟨⟨d1, d2, d3, d4, d5, d6, fr _ _ hD.desk⟩, ⟨f1, f2, f3, f4, f5, fr _ _ hD.floor⟩, ⟨g1, g2, g3, g4, fr _ _ hD.names⟩, ⟨j1, j2, j3, fr _ _ hD.cells⟩, ⟨m1, m2, fr _ _ hD.sources⟩, ⟨p1, fr _ _ hD.eff⟩, fr _ _ hD.log⟩
        · have lt := (List.getElem?_eq_some_iff.mp hi).1
          obtain ⟨j, hj⟩ := List.getElem?_of_mem hb
          by_cases ij : i = j
          · subst ij
            rw [List.getElem?_set_self lt] at hj
            cases hj
            refine ⟨old2 _ _ nf a1, ?_⟩
            simp only [List.mem_cons, List.mem_nil_iff, or_false, not_or]
            exact ⟨nd0, nf, nn, nc, ns, ne, nl, fr _ _ ha⟩
          · rw [List.getElem?_set_ne ij] at hj
            have hbm := List.mem_of_getElem? hj
            obtain ⟨b1, b2⟩ := hD.cell b hbm
            simp only [List.mem_cons, List.mem_nil_iff, or_false, not_or] at b2
            obtain ⟨x0, xf, xn, xc, xs, xe, xl, xt⟩ := b2
            have nba : b.a ≠ c.a := fun z => by
              have h1 : (cs.map Ce.a)[j]? = some b.a := by rw [List.getElem?_map, hj]; rfl
              have h2 : (cs.map Ce.a)[i]? = some c.a := by rw [List.getElem?_map, hi]; rfl
              have hl2 : i < (cs.map Ce.a).length := by rw [List.length_map]; exact lt
              have : (cs.map Ce.a)[i]? = (cs.map Ce.a)[j]? := by rw [h1, h2, z]
              exact ij ((List.getElem?_inj hl2 hD.as).mp this)
            refine ⟨old2 _ _ xf (old _ _ xt nba b1), ?_⟩
            simp only [List.mem_cons, List.mem_nil_iff, or_false, not_or]
            exact ⟨x0, xf, xn, xc, xs, xe, xl, fr _ _ b1⟩
        · rw [map_set (c' := c.to v) Ce.z hi rfl]; exact hD.zs
        · rw [map_set (c' := c.to v) Ce.a hi rfl]; exact hD.as
abbrev sKeptD : Stmt := (inClass (top 14) 3)
theorem scKeptD : FnScope ["self", "name", "work", "made"] ["self", "name", "work"] (defScope sKeptD) := ⟨rfl, rfl, rfl, by decide +kernel, rfl, by decide +kernel, by decide +kernel⟩
def spKeptD (FC DC CC KC : Addr) : Sp := fun vs H Q _ => ∃ (D : DA) (tD wk : Addr) (cs : List Ce) (xn xs : List (Key × V)) (z : Str), vs = [.ref D.d, .str z, .ref wk] ∧ DeskG FC DC CC H D tD cs xn xs .non ∧ valV (namesT cs ++ xn) (Sum.inr z) = none ∧ valV (cellsT cs ++ xs) (Sum.inr z) = none ∧ xn.length < 100 ∧ xs.length < 100 ∧
  ∀ H' a ax nt, Kp [D.nD, D.sD] H H' → H a = none → H nt = none → a ≠ nt → DeskG FC DC CC H' D tD cs (xn ++ [(Sum.inr z, .bl true)]) (xs ++ [(Sum.inr z, .ref a)]) .non → H' a = some (.ins KC ax (keptF z 0 D.f wk false .non nt)) → H' nt = some (.dK []) → Q (.ref a) H'
theorem ok_keptD {f fP fT fI : Addr} {fd dP dT dI : FuncData} (F : Fun K "kept" "Desk.kept" sKeptD f fd) (T : DkT K DC) (TF : FlT K FC) (MP : MO P w K mg base FC "check_place" 1 ["self"] (spPlace FC) fP dP) (MT : MO P w K mg base FC "take_name" 1 ["self", "name"] (spTakeN FC) fT dT)
    (MkK : Mk K KC fI) (gK : mg "Kept" = some (.ref KC)) (oK : FnOk P w K mg base CX0 1 fI dI ["self", "floor", "name", "work"] (spInitK KC)) (bK : Binds K dI ["self", "floor", "name", "work"] []) : FnOk P w K mg base CX0 3 f fd ["self", "name", "work"] (spKeptD FC DC CC KC) := by
  refine F.ok scKeptD (fun vs H Q E h => ?_) (fun cdv A outer s H vs Q E hr h => ?_)
  · obtain ⟨D, tD, wk, cs, xn, xs, z, rfl, _⟩ := h
    rfl
  · obtain ⟨D, tD, wk, cs, xn, xs, z, rfl, hD, vn, vc, lx, ly, k⟩ := h
    have nd := scKeptD.nd
    have hu := hu_of hr
    have hr1 := hr.mono (by decide : 1 ≤ 2)
    have hsl := sizeLine_eq
    have hnd := hD.nd
    simp only [List.nodup_cons, List.mem_cons, List.mem_nil_iff, or_false, not_or, List.nodup_nil, and_true, not_false_eq_true] at hnd
    obtain ⟨⟨d1, d2, d3, d4, d5, d6, d7⟩, ⟨f1, f2, f3, f4, f5, f6⟩, ⟨g1, g2, g3, g4, g5⟩, ⟨j1, j2, j3, j4⟩, ⟨m1, m2, m3⟩, ⟨p1, p2⟩, q1⟩ := hnd
    have ln : (namesT cs ++ xn).length < 1000 := by have := hD.len; rw [List.length_append]; simp [namesT]; omega
    have lc : (cellsT cs ++ xs).length < 1000 := by have := hD.len; rw [List.length_append]; simp [cellsT]; omega
    refine ⟨_, pss_cons (ps_expr (pe_meth0 (pe_fld (pv 0) rfl) TF.cl MP.m MP.o hr1 MP.b .nil pass0))
      (pss_cons (ps_expr (pe_meth (pe_fld (pv 0) rfl) TF.cl MT.m MT.o hr1 MT.b .nil pass0 (pa_cons (pv 1) pa_nil)))
      (pss_cons (ps_set (i := 3) nd rfl (Or.inl rfl) (pe_make MkK oK hr (by rfl) gK bK .nil pass0 (pa_cons (pe_fld (pv 0) rfl) (pa_cons (pv 1) (pa_cons (pv 2) pa_nil)))))
      (pss_cons (ps_dput hu (pe_fld (pe_fld (pv 0) rfl) rfl) (pv 1) (pv 3) rfl) (pss_one (ps_ret (pv 3)))))), ?_⟩
    refine ⟨_, rfl, D.d, DC, D.dx, _, _, rfl, hD.desk, T.cl, T.no, rfl, D.f, D.fx, _, rfl, hD.floor, rfl, D.f, D.fx, _, rfl, hD.floor, rfl, ?_⟩
    refine ⟨_, rfl, D.d, DC, D.dx, _, _, rfl, hD.desk, T.cl, T.no, rfl, D.f, D.fx, _, rfl, hD.floor, rfl, _, rfl, D.f, D.fx, D.nD, _, z, _, rfl, hD.floor, rfl, hD.names, vn, ln, ?_⟩
    rw [putK_new _ vn]
    obtain ⟨H1, e1⟩ : ∃ H1, upd H D.nD (.dK ((namesT cs ++ xn) ++ [(Sum.inr z, .bl true)])) = H1 := ⟨_, rfl⟩
    have n1 : H1 D.nD = some (.dK ((namesT cs ++ xn) ++ [(Sum.inr z, .bl true)])) := by rw [← e1]; exact upd_same
    have o1 : ∀ b, b ≠ D.nD → H1 b = H b := fun b n => by rw [← e1]; exact upd_ne n
    rw [e1]
    have dk1 : H1 D.d = some (.ins DC D.dx [("_floor", .ref D.f)]) := (o1 _ d2).trans hD.desk
    have fl1 := (o1 _ f1).trans hD.floor
    refine ⟨_, rfl, D.d, DC, D.dx, _, _, rfl, dk1, T.cl, T.no, rfl, _, rfl, _, rfl, fun a ax ha hax hne => ⟨a, ax, D.f, wk, z, rfl, upd_same, fun H3 nt k3 hnt a3 n3 => ⟨rfl, ?_⟩⟩⟩
    have low : ∀ {x : Addr}, H1 x = none → H x = none := fun {x} e => by
      have n : x ≠ D.nD := fun w => by rw [w, n1] at e; cases e
      rw [o1 _ n] at e; exact e
    have back : ∀ y, upd (upd H1 ax (.own a)) a (.ins KC ax []) y = none → H1 y = none ∧ y ≠ a := fun y e => by
      have n1 : y ≠ a := fun z => by rw [z, upd_same] at e; cases e
      rw [upd_ne n1] at e
      have n2 : y ≠ ax := fun z => by rw [z, upd_same] at e; cases e
      rw [upd_ne n2] at e
      exact ⟨e, n1⟩
    have o3 : ∀ b o, H1 b = some o → H3 b = some o := fun b o e => k3 b o (by simpa using ne_of_none e ha) (by rw [upd_ne (ne_of_none e ha), upd_ne (ne_of_none e hax)]; exact e)
    refine ⟨_, rfl, _, rfl, D.d, DC, D.dx, _, _, rfl, o3 _ _ dk1, T.cl, T.no, rfl, D.f, FC, D.fx, _, _, rfl, o3 _ _ fl1, TF.cl, TF.no _ (by simp), rfl, _, rfl, D.sD, _, rfl, DPut.k (k := Sum.inr z) (o3 _ _ ((o1 _ (Ne.symm g2)).trans hD.sources)) (by omega), ?_⟩
    rw [putK_new _ vc]
    obtain ⟨H5, e5⟩ : ∃ H5, upd H3 D.sD (HO.dK ((cellsT cs ++ xs) ++ [((Sum.inr z : Key), V.ref a)])) = H5 := ⟨_, rfl⟩
    have s5 : H5 D.sD = some (.dK ((cellsT cs ++ xs) ++ [(Sum.inr z, .ref a)])) := by rw [← e5]; exact upd_same
    have o5 : ∀ b, b ≠ D.sD → H5 b = H3 b := fun b n => by rw [← e5]; exact upd_ne n
    rw [e5]
    refine ⟨_, rfl, ?_⟩
    have old : ∀ b o, b ≠ D.nD → b ≠ D.sD → H b = some o → H5 b = some o := fun b o n1 n3 e => (o5 b n3).trans (o3 b o ((o1 b n1).trans e))
    have ha0 := low ha
    have hnt0 := low (back nt hnt).1
    have fr : ∀ b o, H b = some o → b ≠ a := fun b o e => ne_of_none e ha0
    have fr2 : ∀ b o, H b = some o → b ≠ nt := fun b o e => ne_of_none e hnt0
    refine k H5 a ax nt (fun b o nb e => ?_) ha0 hnt0 (back nt hnt).2.symm ?_ ?_ ?_
    · simp only [List.mem_cons, List.mem_nil_iff, or_false, not_or] at nb
      exact old b o nb.1 nb.2 e
    · refine ⟨old _ _ d2 d4 hD.desk, old _ _ f1 f3 hD.floor, ?_, old _ _ (Ne.symm g1) j1 hD.cells, ?_, old _ _ (Ne.symm g3) (Ne.symm m1) hD.eff, old _ _ (Ne.symm g4) (Ne.symm m2) hD.log, old _ _ (Ne.symm g5) (Ne.symm m3) hD.turned, hD.nd, fun c hc => ?_, hD.zs, hD.as, hD.len, by rw [List.length_append, List.length_singleton]; omega, by rw [List.length_append, List.length_singleton]; omega⟩
      · rw [← List.append_assoc]
        exact (o5 _ g2).trans (o3 _ _ n1)
      · rw [← List.append_assoc]
        exact s5
      · obtain ⟨h1, h2⟩ := hD.cell c hc
        have h3 := h2
        simp only [List.mem_cons, List.mem_nil_iff, or_false, not_or] at h3
        exact ⟨old _ _ h3.2.2.1 h3.2.2.2.2.1 h1, h2⟩
    · exact (o5 _ (fr _ _ hD.sources).symm).trans a3
    · exact (o5 _ (fr2 _ _ hD.sources).symm).trans n3
end
end My

set_option Elab.async false
set_option linter.all false
set_option maxRecDepth 100000
set_option maxHeartbeats 4000000
/-! G1: notes of any sources; answers over answers. -/
namespace My
open PySem PySem.Spec PyProof.Rows L2
theorem pe_alt {X : Cx} {e : Expr} {t1 t2 : TE} (h1 : PE X e t1) (h2 : PE X e t2) : PE X e (fun σ H Q => t1 σ H Q ∨ t2 σ H Q) :=
  ⟨fun pins s σ H Q I h => h.elim (h1.run pins s σ H Q I) (h2.run pins s σ H Q I)⟩
/-- a promise for any weaker wish -/
def spUp (sp : Sp) : Sp := fun vs H Q E => ∃ Q0 : VK, sp vs H Q0 E ∧ ∀ v H', Q0 v H' → Q v H'
theorem fnOk_up {P : Program} {w : World} {K : PySem.W.Frag} {mg : Str → Option Value} {base : Heap} {k : Nat} {f : Addr} {fd : FuncData} {ps : List Str} {sp : Sp} (o : FnOk P w K mg base CX0 k f fd ps sp) : FnOk P w K mg base CX0 k f fd ps (spUp sp) :=
  ⟨fun vs H Q E ⟨Q0, h, _⟩ => o.len vs H Q0 E h, fun A outer s H args us vs Q E hr e0 b r ⟨Q0, h, i⟩ => codeAny_mono (o.run A outer s H args us vs Q0 E hr e0 b r h) fun r s' hq => by
    cases r with
    | error e => exact hq
    | ok fl =>
      cases fl with
      | ret u =>
        obtain ⟨v, H2, a, b, c, d, e, q⟩ := hq
        exact ⟨v, H2, a, b, c, d, e, i _ _ q⟩
      | next => exact hq
      | brk => exact hq
      | cont => exact hq⟩
abbrev CurP := Hp → Addr → VK → Prop
/-- x.current(), x a cell, or an answer that keeps sp -/
def curQ (CC KC : Addr) (sp : Sp) : CurP := fun H a Q => (∃ (ax f : Addr) (z : Str) (v : Int), H a = some (.ins CC ax (cellF z f v)) ∧ Q (.int v) H) ∨ ∃ (ax : Addr) (fs : List (Str × V)), H a = some (.ins KC ax fs) ∧ fs.lookup ("current" : Str) = none ∧ spUp sp [.ref a] H Q E0
/-- what stands while notes are gone through -/
structure StepOk (FC : Addr) (H : Hp) (f fx sD nt : Addr) (fs : List (Str × V)) (src : List (Key × V)) (od : Obj) (kvs : List (Key × V)) : Prop where
  fl : H f = some (.ins FC fx fs)
  srs : H sD = some (.dK src)
  nts : H nt = some (.frz od (.dK kvs))
theorem StepOk.kp {FC : Addr} {H H' : Hp} {f fx sD nt : Addr} {fs : List (Str × V)} {src : List (Key × V)} {od : Obj} {kvs : List (Key × V)} (h : StepOk FC H f fx sD nt fs src od kvs) (k : Kp [] H H') : StepOk FC H' f fx sD nt fs src od kvs :=
  ⟨k _ _ (by simp) h.fl, k _ _ (by simp) h.srs, k _ _ (by simp) h.nts⟩
/-- the notes one after the other, up to the first that differs -/
def ordL (cur : CurP) (ok : Hp → Prop) (src : List (Key × V)) : List (Key × V) → Hp → (Bool → Hp → Prop) → Prop
  | [], H, R => R true H
  | p :: r, H, R => ∀ H1, Kp [] H H1 → ∃ (z : Str) (a : Addr) (m : Int), p = (Sum.inr z, V.int m) ∧ valV src (Sum.inr z) = some (.ref a) ∧ cur H1 a fun x H2 => ok H2 ∧ ∃ i : Int, x = .int i ∧ if i = m then ordL cur ok src r H2 R else R false H2
theorem curQ_mono {CC KC : Addr} {sp : Sp} {H : Hp} {a : Addr} {Q Q' : VK} (h : curQ CC KC sp H a Q) (i : ∀ v H', Q v H' → Q' v H') : curQ CC KC sp H a Q' := by
  rcases h with ⟨ax, f, z, v, h1, q⟩ | ⟨ax, fs, h1, h2, Q0, q, up⟩
  · exact .inl ⟨ax, f, z, v, h1, i _ _ q⟩
  · exact .inr ⟨ax, fs, h1, h2, Q0, q, fun v H' h => i v H' (up v H' h)⟩
theorem ordL_mono {CC KC : Addr} {sp : Sp} {ok : Hp → Prop} {src : List (Key × V)} : ∀ {kvs : List (Key × V)} {H : Hp} {R R' : Bool → Hp → Prop}, ordL (curQ CC KC sp) ok src kvs H R → (∀ b H', R b H' → R' b H') → ordL (curQ CC KC sp) ok src kvs H R'
  | [], H, R, R', h, i => i _ _ h
  | p :: r, H, R, R', h, i => fun H1 k1 => by
    obtain ⟨z, a, m, e1, e2, c⟩ := h H1 k1
    refine ⟨z, a, m, e1, e2, curQ_mono c fun x H2 ⟨o, j, ex, q⟩ => ⟨o, j, ex, ?_⟩⟩
    by_cases hj : j = m
    · rw [if_pos hj] at q ⊢
      exact ordL_mono q i
    · rw [if_neg hj] at q ⊢
      exact i _ _ q
section
variable {P : Program} {w : World} {K : PySem.W.Frag} {mg : Str → Option Value} {base : Heap} {FC DC CC RC KC : Addr}
def spOrdQ (FC CC KC : Addr) (sp : Sp) : Sp := fun vs H Q _ => ∃ (f fx sD nt : Addr) (fs : List (Str × V)) (src kvs : List (Key × V)), vs = [.ref f, .ref nt] ∧ H f = some (.ins FC fx fs) ∧ fs.lookup ("sources" : Str) = some (V.ref sD) ∧ H sD = some (.dK src) ∧ H nt = some (.dK kvs) ∧ nt ≠ sD ∧
  ∀ od, ordL (curQ CC KC sp) (fun H' => StepOk FC H' f fx sD nt fs src od kvs) src kvs (upd H nt (.frz od (.dK kvs))) fun b H' => StepOk FC H' f fx sD nt fs src od kvs → Q (.bl b) (upd H' nt (.dK kvs))
theorem ok_ordQ {f fC fK : Addr} {fd dC dK : FuncData} {k : Nat} {sp : Sp} (hk : 1 ≤ k) (F : Fun K "are_in_order" "Floor.are_in_order" sOrd f fd) (T : FlT K FC) (TC : CeT K CC) (TK : KpT K KC) (MC : MO P w K mg base CC "current" 1 ["self"] (spVal CC) fC dC) (MK : MO P w K mg base KC "current" k ["self"] sp fK dK) : FnOk P w K mg base CX0 (k + 1) f fd ["self", "notes"] (spOrdQ FC CC KC sp) := by
  refine F.ok scOrd (fun vs H Q E h => ?_) (fun cdv A outer s H vs Q E hr h => ?_)
  · obtain ⟨f, fx, sD, nt, fs, src, kvs, rfl, _⟩ := h
    rfl
  · obtain ⟨f, fx, sD, nt, fs, src, kvs, rfl, hf, hl, hs, hn, nns, h⟩ := h
    have nd := scOrd.nd
    have hu := hu_of hr
    have h1 := hr.mono hk
    have oK := fnOk_up MK.o
    refine ⟨_, pss_cons (ps_lock (ps_for PassesOwn.never rfl (pi_items (pv 1)) (pg_tup rfl (pgs_cons (pg_name (i := 2) nd rfl (Or.inl rfl)) (pgs_cons (pg_name (i := 3) nd rfl (Or.inl rfl)) pgs_nil)))
      (pss_one (ps_if (pt_cmpR op_ne (pe_alt (pe_meth0 (pe_dget hu (pe_fld (pv 0) rfl) (pv 2) (fun _ _ => rfl)) TC.cl MC.m MC.o h1 MC.b .nil pass0) (pe_meth0 (pe_dget hu (pe_fld (pv 0) rfl) (pv 2) (fun _ _ => rfl)) TK.cl MK.m oK hr MK.b .nil pass0)) (pv 3) (nomark _)) (pss_one (ps_ret pe_bl)) pss_nil)))) (pss_one (ps_ret pe_bl)), ?_⟩
    refine ⟨nt, _, hn, trivial, fun od => ?_⟩
    have h := h od
    have S0 : StepOk FC (upd H nt (.frz od (.dK kvs))) f fx sD nt fs src od kvs := ⟨by rw [upd_ne (fun e => by rw [e, hn] at hf; cases hf)]; exact hf, by rw [upd_ne nns.symm]; exact hs, upd_same⟩
    obtain ⟨HL, eL⟩ : ∃ HL, upd H nt (.frz od (.dK kvs)) = HL := ⟨_, rfl⟩
    rw [eL] at S0 h
    rw [eL]
    refine ⟨_, rfl, nt, od, kvs, rfl, S0.nts, ?_⟩
    refine for_it walk_items (fun i σ H' => ∃ v2 v3, σ = [some (.ref f), some (.ref nt), v2, v3] ∧ StepOk FC H' f fx sD nt fs src od kvs ∧ ordL (curQ CC KC sp) (fun H' => StepOk FC H' f fx sD nt fs src od kvs) src (kvs.drop i) H' fun b H' => StepOk FC H' f fx sD nt fs src od kvs → Q (.bl b) (upd H' nt (.dK kvs))) ⟨none, none, rfl, S0, h⟩ (fun i σ H' _ ⟨_, _, _, s, _⟩ => s.nts) ?_ ?_
    · rintro i x σ H1 H2 hi ⟨v2, v3, rfl, s1, h1'⟩ ⟨t, y1, y2, rfl, ht, rfl, e1, e2⟩
      have hd : kvs.drop i = kvs[i] :: kvs.drop (i + 1) := List.drop_eq_getElem_cons hi
      rw [hd] at h1'
      obtain ⟨z, a, m, ep, ha, hc⟩ := h1' (upd H1 t (.tup [y1, y2])) (Kp.new ht)
      have hp : kvs[i]? = some (Sum.inr z, V.int m) := by rw [List.getElem?_eq_getElem hi, ep]
      have e1 : (kvs[i]?.map fun kv => kV kv.1) = some y1 := e1
      have e2 : kvs[i]?.map Prod.snd = some y2 := e2
      rw [hp] at e1 e2
      obtain rfl : V.str z = y1 := Option.some.inj e1
      obtain rfl : V.int m = y2 := Option.some.inj e2
      have s2 := s1.kp (Kp.new (o := .tup [V.str z, .int m]) ht)
      have dg := DGet.k (k := Sum.inr z) s2.srs
      rw [ha] at dg
      have fin : ∀ (x : V) (H3 : Hp), (StepOk FC H3 f fx sD nt fs src od kvs ∧ ∃ i' : Int, x = .int i' ∧ if i' = m then ordL (curQ CC KC sp) (fun H' => StepOk FC H' f fx sD nt fs src od kvs) src (kvs.drop (i + 1)) H3 (fun b H' => StepOk FC H' f fx sD nt fs src od kvs → Q (.bl b) (upd H' nt (.dK kvs))) else (fun b H' => StepOk FC H' f fx sD nt fs src od kvs → Q (.bl b) (upd H' nt (.dK kvs))) false H3) →
          tVar 3 [some (.ref f), some (.ref nt), some (V.str z), some (V.int m)] H3 fun y H4 => rNe x y H4 fun c H5 => ∃ b, c = .bl b ∧ if b = true then H5 nt = some (.frz od (.dK kvs)) ∧ Q (.bl false) (upd H5 nt (.dK kvs)) else ∃ v2 v3, [some (V.ref f), some (.ref nt), some (V.str z), some (V.int m)] = [some (.ref f), some (.ref nt), v2, v3] ∧ StepOk FC H5 f fx sD nt fs src od kvs ∧ ordL (curQ CC KC sp) (fun H' => StepOk FC H' f fx sD nt fs src od kvs) src (kvs.drop (i + 1)) H5 fun b H' => StepOk FC H' f fx sD nt fs src od kvs → Q (.bl b) (upd H' nt (.dK kvs)) := fun x H3 ⟨s3, i', ex, q⟩ => by
        subst ex
        refine ⟨_, rfl, rfl, _, rfl, ?_⟩
        by_cases hm : i' = m
        · subst hm
          rw [if_pos rfl] at q
          rw [decide_eq_true rfl]
          exact iteF ⟨_, _, rfl, s3, q⟩
        · rw [if_neg hm] at q
          rw [decide_eq_false (fun e => hm (V.int.inj e))]
          exact iteT ⟨s3.nts, q s3⟩
      refine ⟨t, _, rfl, SqT.of upd_same, rfl, _, _, rfl, ?_⟩
      refine ⟨_, _, rfl, rfl, ?_⟩
      rcases hc with ⟨ax, ff, zz, v, hca, q⟩ | ⟨ax, ffs, hka, hno, Q0, q, up⟩
      · refine Or.inl ⟨_, rfl, f, FC, fx, fs, _, rfl, s2.fl, T.cl, T.no _ (by simp), hl, _, rfl, sD, .ref a, rfl, dg, a, ax, _, rfl, hca, rfl, a, ax, ff, zz, v, rfl, hca, ?_⟩
        exact fin _ _ q
      · refine Or.inr ⟨_, rfl, f, FC, fx, fs, _, rfl, s2.fl, T.cl, T.no _ (by simp), hl, _, rfl, sD, .ref a, rfl, dg, a, ax, _, rfl, hka, hno, ?_⟩
        exact ⟨_, q, fun v H' h => fin v H' (up v H' h)⟩
    · rintro σ H1 ⟨v2, v3, rfl, s1, h1'⟩
      rw [List.drop_length] at h1'
      exact ⟨s1.nts, h1' s1⟩
end
end My

set_option Elab.async false
set_option linter.all false
set_option maxRecDepth 100000
set_option maxHeartbeats 4000000
/-! G2: an answer over answers is read. -/
namespace My
open PySem PySem.Spec PyProof.Rows L2
theorem fnOk_or {P : Program} {w : World} {K : PySem.W.Frag} {mg : Str → Option Value} {base : Heap} {k : Nat} {f : Addr} {fd : FuncData} {ps : List Str} {sp1 sp2 : Sp} (o1 : FnOk P w K mg base CX0 k f fd ps sp1) (o2 : FnOk P w K mg base CX0 k f fd ps sp2) : FnOk P w K mg base CX0 k f fd ps (fun vs H Q E => sp1 vs H Q E ∨ sp2 vs H Q E) :=
  ⟨fun vs H Q E h => h.elim (o1.len vs H Q E) (o2.len vs H Q E), fun A outer s H args us vs Q E hr e0 b r h => h.elim (o1.run A outer s H args us vs Q E hr e0 b r) (o2.run A outer s H args us vs Q E hr e0 b r)⟩
section
variable {P : Program} {w : World} {K : PySem.W.Frag} {mg : Str → Option Value} {base : Heap} {FC DC CC RC KC : Addr}
/-- a note, whether a run is under way or not -/
def spNoteA (FC RC : Addr) : Sp := fun vs H Q E => spNote FC vs H Q E ∨ spNoteR FC RC vs H Q E
/-- a cell read, whether a run is under way or not -/
def spCallA (FC CC RC : Addr) : Sp := fun vs H Q E => spCall FC CC vs H Q E ∨ spCallR FC CC RC vs H Q E
def spCurN (P : Program) (w : World) (K : PySem.W.Frag) (mg : Str → Option Value) (base : Heap) (FC CC KC RC : Addr) (k : Nat) (spC : Sp) : Sp := fun vs H Q _ => ∃ (a ax f fx nD cD sD eL lL tD nt wk : Addr) (inm : V) (z : Str) (n : Int) (isk : Bool) (res : V) (src kvs : List (Key × V)) (m : Nat),
  vs = [.ref a] ∧ H a = some (.ins KC ax (keptF z n f wk isk res nt)) ∧ H f = some (.ins FC fx (floorG nD cD sD eL lL inm tD)) ∧ a ≠ f ∧ IsFnO H wk ∧ Free RC H z m inm ∧ H sD = some (.dK src) ∧ H nt = some (.dK kvs) ∧ nt ≠ sD ∧
  ((isk = false ∧ WKs P w K mg base FC KC RC k a ax f fx nt wk (floorG nD cD sD eL lL inm tD) z n inm H Q) ∨
   (isk = true ∧ ∀ od, ordL (curQ CC KC spC) (fun H' => StepOk FC H' f fx sD nt (floorG nD cD sD eL lL inm tD) src od kvs) src kvs (upd H nt (.frz od (.dK kvs))) fun b H' => StepOk FC H' f fx sD nt (floorG nD cD sD eL lL inm tD) src od kvs →
      upd H' nt (.dK kvs) a = some (.ins KC ax (keptF z n f wk true res nt)) ∧ upd H' nt (.dK kvs) f = some (.ins FC fx (floorG nD cD sD eL lL inm tD)) ∧ IsFnO (upd H' nt (.dK kvs)) wk ∧
      if b = true then Q res (upd H' nt (.dK kvs)) else WKs P w K mg base FC KC RC k a ax f fx nt wk (floorG nD cD sD eL lL inm tD) z n inm (upd H' nt (.dK kvs)) Q))
theorem ok_curN {f fB fO fW : Addr} {fd dB dO dW : FuncData} {k ko kk : Nat} {spC : Sp} (h1 : 1 ≤ kk) (h2 : ko ≤ kk) (h3 : k + 2 ≤ kk) (F : Fun K "current" "Kept.current" sCurK f fd) (T : KpT K KC) (TF : FlT K FC) (MB : MO P w K mg base FC "check_not_busy" 1 ["self", "name"] (spBusy FC RC) fB dB) (MO' : MO P w K mg base FC "are_in_order" ko ["self", "notes"] (spOrdQ FC CC KC spC) fO dO)
    (MW : MO P w K mg base KC "_work_out" (k + 2) ["self"] (spWout P w K mg base FC KC RC k) fW dW) : FnOk P w K mg base CX0 (kk + 1) f fd ["self"] (spCurN P w K mg base FC CC KC RC k spC) := by
  refine F.ok scCurK (fun vs H Q E h => ?_) (fun cdv A outer s H vs Q E hr h => ?_)
  · obtain ⟨a, ax, f, fx, nD, cD, sD, eL, lL, tD, nt, wk, inm, z, n, isk, res, src, kvs, m, rfl, _⟩ := h
    rfl
  · obtain ⟨a, ax, f, fx, nD, cD, sD, eL, lL, tD, nt, wk, inm, z, n, isk, res, src, kvs, m, rfl, me, fl, naf, fn, hF, srs, nts, nns, W⟩ := h
    have hb := hr.mono h1
    have ho := hr.mono h2
    have hw := hr.mono h3
    refine ⟨_, pss_cons (ps_expr (pe_meth (pe_fld (pv 0) rfl) TF.cl MB.m MB.o hb MB.b .nil pass0 (pa_cons (pe_fld (pv 0) rfl) pa_nil)))
      (C8.pss_cut (ps_if (pw_or (pt_not (pt_val (pe_fld (pv 0) rfl))) (pw_or1 (pt_not (pt_val (pe_meth (pe_fld (pv 0) rfl) TF.cl MO'.m MO'.o ho MO'.b .nil pass0 (pa_cons (pe_fld (pv 0) rfl) pa_nil)))))).pt (pss_one (ps_expr (pe_meth0 (pv 0) T.cl MW.m MW.o hw MW.b .nil pass0))) pss_nil)
      (pss_one (ps_ret (pe_fld (pv 0) rfl)))), ?_⟩
    refine ⟨_, rfl, a, KC, ax, _, _, rfl, me, T.cl, T.no _ (by simp), rfl, f, fx, _, rfl, fl, rfl, _, rfl, a, KC, ax, _, _, rfl, me, T.cl, T.no _ (by simp), rfl, f, fx, _, z, inm, m, rfl, fl, rfl, hF, ?_⟩
    refine ⟨fun σ' H' => σ' = [some (.ref a)] ∧ ∃ (v : V) (fs : List (Str × V)), H' a = some (.ins KC ax fs) ∧ fs.lookup ("_result" : Str) = some v ∧ Q v H', ?_, ?_⟩
    · refine ⟨_, rfl, a, KC, ax, _, _, rfl, me, T.cl, T.no _ (by simp), rfl, ?_⟩
      have work : ∀ (H' : Hp) (isk' : Bool) (res' : V), H' a = some (.ins KC ax (keptF z n f wk isk' res' nt)) → H' f = some (.ins FC fx (floorG nD cD sD eL lL inm tD)) → IsFnO H' wk → WKs P w K mg base FC KC RC k a ax f fx nt wk (floorG nD cD sD eL lL inm tD) z n inm H' Q →
          spWout P w K mg base FC KC RC k [.ref a] H' (fun v H' => [some (V.ref a)] = [some (V.ref a)] ∧ ∃ (v : V) (fs : List (Str × V)), H' a = some (.ins KC ax fs) ∧ fs.lookup ("_result" : Str) = some v ∧ Q v H') E0 := fun H' isk' res' me' fl' fn' W => by
        refine ⟨a, ax, f, fx, nt, wk, _, z, n, isk', res', inm, rfl, me', fl', rfl, rfl, rfl, (by show 9 < 100; decide), naf, fn', W.mono fun v H3 r nt' a3 f3 q => ?_⟩
        exact ⟨rfl, v, _, a3, rfl, q⟩
      rcases W with ⟨rfl, W⟩ | ⟨rfl, W⟩
      · exact ⟨_, rfl, iteT (iteT ⟨_, rfl, a, ax, _, rfl, me, rfl, work H _ _ me fl fn W⟩)⟩
      · refine ⟨_, rfl, iteF ?_⟩
        refine ⟨_, rfl, a, KC, ax, _, _, rfl, me, T.cl, T.no _ (by simp), rfl, f, fx, _, rfl, fl, rfl, _, rfl, a, KC, ax, _, _, rfl, me, T.cl, T.no _ (by simp), rfl, f, fx, sD, nt, _, src, kvs, rfl, fl, rfl, srs, nts, nns, fun od => ?_⟩
        refine ordL_mono (W od) fun b H' q s => ?_
        obtain ⟨me', fl', fn', q⟩ := q s
        refine ⟨_, rfl, ?_⟩
        cases b with
        | true => exact iteF ⟨rfl, res, _, me', rfl, q⟩
        | false => exact iteT ⟨_, rfl, a, ax, _, rfl, me', rfl, work _ _ _ me' fl' fn' q⟩
    · rintro σ' H' ⟨rfl, v, fs, ha', hv, q⟩
      exact ⟨_, rfl, a, KC, ax, fs, _, rfl, ha', T.cl, T.no _ (by simp), hv, q⟩
/-- an answer called -/
def spCallN (FC KC RC : Addr) (spC : Sp) : Sp := fun vs H Q _ => ∃ (a ax : Addr) (fs : List (Str × V)), vs = [.ref a] ∧ H a = some (.ins KC ax fs) ∧ fs.lookup ("current" : Str) = none ∧
  spC [.ref a] H (fun v H' => ∃ (z : Str) (n : Int) (f wk nt fx : Addr) (isk : Bool) (res : V) (ffs : List (Str × V)), H' a = some (.ins KC ax (keptF z n f wk isk res nt)) ∧ H' f = some (.ins FC fx ffs) ∧ ffs.lookup ("note" : Str) = none ∧ spNoteA FC RC [.ref f, .str z, v] H' (fun _ H'' => Q v H'') E0) E0
theorem ok_callN {f fC fN : Addr} {fd dC dN : FuncData} {k : Nat} {spC : Sp} (hk : 1 ≤ k) (F : Fun K "__call__" "Kept.__call__" sCallK f fd) (T : KpT K KC) (TF : FlT K FC) (MC : MO P w K mg base KC "current" k ["self"] spC fC dC) (MN : MO P w K mg base FC "note" 1 ["self", "name", "worth"] (spNoteA FC RC) fN dN) : FnOk P w K mg base CX0 (k + 1) f fd ["self"] (spCallN FC KC RC spC) := by
  refine F.ok scCallK (fun vs H Q E h => ?_) (fun cdv A outer s H vs Q E hr h => ?_)
  · obtain ⟨a, ax, fs, rfl, _⟩ := h
    rfl
  · obtain ⟨a, ax, fs, rfl, me, hno, W⟩ := h
    have nd := scCallK.nd
    have h1 := hr.mono hk
    refine ⟨_, pss_cons (ps_set (i := 1) nd rfl (Or.inl rfl) (pe_meth0 (pv 0) T.cl MC.m (fnOk_up MC.o) hr MC.b .nil pass0)) (pss_cons (ps_expr (pe_meth (pe_fld (pv 0) rfl) TF.cl MN.m (fnOk_up MN.o) h1 MN.b .nil pass0 (pa_cons (pe_fld (pv 0) rfl) (pa_cons (pv 1) pa_nil)))) (pss_one (ps_ret (pv 1)))), ?_⟩
    refine ⟨_, rfl, a, ax, _, rfl, me, hno, _, W, ?_⟩
    rintro v H' ⟨z, n, ff, wk, nt, fx, isk, res, ffs, me', fl', hn', q⟩
    exact ⟨_, rfl, a, KC, ax, _, _, rfl, me', T.cl, T.no _ (by simp), rfl, ff, fx, ffs, rfl, fl', hn', _, rfl, a, KC, ax, _, _, rfl, me', T.cl, T.no _ (by simp), rfl, _, rfl, _, q, fun _ H'' q' => ⟨_, rfl, q'⟩⟩
end
end My

set_option Elab.async false
set_option linter.all false
set_option maxRecDepth 100000
set_option maxHeartbeats 4000000
/-! G3: the works of a ladder. -/
namespace My
open PySem PySem.Spec PyProof.Rows L2 LamX NdefX
/-- an operator of the class of desks -/
structure SO (P : Program) (w : World) (K : PySem.W.Frag) (mg : Str → Option Value) (base : Heap) (CX : CXT) (C : Addr) (m : Str) (k : Nat) (ps : List Str) (sp : Sp) (f : Addr) (fd : FuncData) : Prop where
  m : Spc K C m f
  i : PySem.W.fnIn K f = true
  b : Binds K fd ps []
  o : FnOk P w K mg base CX k f fd ps sp
/-- the property held -/
structure PH (P : Program) (w : World) (K : PySem.W.Frag) (mg : Str → Option Value) (base : Heap) (KC p g : Addr) (dg : FuncData) : Prop where
  p : PropOf K KC "held" p g
  b : Binds K dg ["self"] []
  o : FnOk P w K mg base CX0 1 g dg ["self"] (spHeld KC)
/-- a def of the law -/
structure LD (P : Program) (w : World) (K : PySem.W.Frag) (mg : Str → Option Value) (base : Heap) (x : Str) (k : Nat) (ps : List Str) (sp : Sp) (f : Addr) (fd : FuncData) : Prop where
  a : At K mg x f
  b : Binds K fd ps []
  o : FnOk P w K mg base CX0 k f fd ps sp
theorem ixN_nat0 {n j : Nat} (hj : j < n) : ixN n (j : Int) = some j := by
  unfold ixN
  rw [if_pos (by omega), if_pos (by omega)]
  simp
def mn (b x : Int) : Int := if x < b then x else b
section
variable {P : Program} {w : World} {K : PySem.W.Frag} {mg : Str → Option Value} {base : Heap} {FC DC CC RC KC : Addr}
abbrev sWork : Stmt := (top 23)
theorem scWork : FnScope ["_law_runs", "_law_cells", "_law_answers", "_law_j", "_law_bound", "_law_cell_first", "_law_first"] ["_law_runs", "_law_cells", "_law_answers", "_law_j", "_law_bound", "_law_cell_first"] (defScope sWork) := ⟨rfl, rfl, rfl, by decide +kernel, rfl, by decide +kernel, by decide +kernel⟩
/-- the answer below is asked -/
def below (FC KC RC : Addr) (spC : Sp) (al : Addr) (i : Nat) (H : Hp) (R : Int → Hp → Prop) : Prop := ∃ (L : List V) (a ax : Addr) (fs : List (Str × V)), H al = some (.lst L) ∧ L[i]? = some (.ref a) ∧ H a = some (.ins KC ax fs) ∧ spUp (spCallN FC KC RC spC) [.ref a] H (fun v H' => ∃ i : Int, v = .int i ∧ R i H') E0
/-- the cell beside is read -/
def beside (FC CC RC : Addr) (ce : Addr) (i : Nat) (H : Hp) (R : Int → Hp → Prop) : Prop := ∃ (L : List V) (a ax : Addr) (fs : List (Str × V)), H ce = some (.lst L) ∧ L[i]? = some (.ref a) ∧ H a = some (.ins CC ax fs) ∧ spUp (spCallA FC CC RC) [.ref a] H (fun v H' => ∃ i : Int, v = .int i ∧ R i H') E0
def spWork (FC CC KC RC : Addr) (spC : Sp) : Sp := fun vs H Q _ => ∃ (rl ce al a ax f wk nt : Addr) (j n : Nat) (bd : Int) (first isk : Bool) (z : Str) (nsL L : List V), vs = [.ref rl, .ref ce, .ref al, .int (j : Int), .int bd, .bl first] ∧ H rl = some (.lst nsL) ∧ nsL[j]? = some (.int (n : Int)) ∧ H al = some (.lst L) ∧ L[j]? = some (.ref a) ∧
  H a = some (.ins KC ax (keptF z (n : Int) f wk isk .non nt)) ∧ ∀ H1, H1 = upd H rl (.lst (nsL.set j (.int ((n : Int) + 1)))) →
    ((j = 0 ∧ beside FC CC RC ce 0 H1 fun i H2 => Q (.int (mn bd i)) H2) ∨ (0 < j ∧ first = true ∧ beside FC CC RC ce j H1 fun i H2 => below FC KC RC spC al (j - 1) H2 fun i2 H3 => Q (.int (mn bd (i + i2))) H3) ∨
     (0 < j ∧ first = false ∧ below FC KC RC spC al (j - 1) H1 fun i H2 => beside FC CC RC ce j H2 fun i2 H3 => Q (.int (mn bd (i + i2))) H3))
theorem ok_work {f fC fK pH gH : Addr} {fd dC dK dH : FuncData} {k : Nat} {spC : Sp} (hk : 2 ≤ k) (F : Fun K "_law_work" "_law_work" sWork f fd) (B : Bt mg) (T : KpT K KC) (TC : CeT K CC) (C : SO P w K mg base CX0 CC "__call__" 2 ["self"] (spCallA FC CC RC) fC dC) (A' : SO P w K mg base CX0 KC "__call__" k ["self"] (spCallN FC KC RC spC) fK dK) (Ph : PH P w K mg base KC pH gH dH) :
    FnOk P w K mg base CX0 (k + 1) f fd ["_law_runs", "_law_cells", "_law_answers", "_law_j", "_law_bound", "_law_cell_first"] (spWork FC CC KC RC spC) := by
  refine F.ok scWork (fun vs H Q E h => ?_) (fun cdv A outer s H vs Q E hr h => ?_)
  · obtain ⟨rl, ce, al, a, ax, f, wk, nt, j, n, bd, first, isk, z, nsL, L, rfl, _⟩ := h
    rfl
  · obtain ⟨rl, ce, al, a, ax, f, wk, nt, j, n, bd, first, isk, z, nsL, L, rfl, hrl, hnj, hal, haj, ha, h⟩ := h
    have nd := scWork.nd
    have h2 := hr.mono hk
    have hj : j < nsL.length := (List.getElem?_eq_some_iff.mp hnj).1
    refine ⟨_, pss_cons (ps_asg (pe_ifExp (pw_and (pt_cmp (pc_isN (pe_prop (ixl (pv 2) (pv 3)) T.cl Ph.p Ph.o h2 Ph.b .nil pass0 rfl))) (pw_and1 (pt_cmpR op_eq (pe_fld (ixl (pv 2) (pv 3)) rfl) (ixl (pv 0) (pv 3)) (nomark _)))).pt (pe_op op_add (ixl (pv 0) (pv 3)) pe_int) pe_dead) (pg_sub (pv 0) (pv 3) set_list))
      (pss_cons (ps_if (pt_cmpR op_eq (pv 3) pe_int (nomark _)) (pss_one (ps_ret (pe_callB (call_min2 rfl) (by rfl) B.min boot_min (pa_cons (pv 4) (pa_cons (pe_callO0 (ixl (pv 1) pe_int) C.m C.i (fnOk_up C.o) h2 C.b pass0) pa_nil))))) pss_nil)
      (pss_cons (ps_if (pt_val (pv 5)) (pss_cons (ps_set (i := 6) nd rfl (Or.inl rfl) (pe_callO0 (ixl (pv 1) (pv 3)) C.m C.i (fnOk_up C.o) h2 C.b pass0)) (pss_one (ps_ret (pe_callB (call_min2 rfl) (by rfl) B.min boot_min (pa_cons (pv 4) (pa_cons (pe_op op_add (pv 6) (pe_callO0 (ixl (pv 2) (pe_op op_sub (pv 3) pe_int)) A'.m A'.i (fnOk_up A'.o) hr A'.b pass0)) pa_nil)))))) pss_nil)
      (pss_cons (ps_set (i := 6) nd rfl (Or.inl rfl) (pe_callO0 (ixl (pv 2) (pe_op op_sub (pv 3) pe_int)) A'.m A'.i (fnOk_up A'.o) hr A'.b pass0))
      (pss_one (ps_ret (pe_callB (call_min2 rfl) (by rfl) B.min boot_min (pa_cons (pv 4) (pa_cons (pe_op op_add (pv 6) (pe_callO0 (ixl (pv 1) (pv 3)) C.m C.i (fnOk_up C.o) h2 C.b pass0)) pa_nil)))))))), ?_⟩
    have ata : atI L (j : Int) = some (.ref a) := atI_nat haj
    have atn : atI nsL (j : Int) = some (.int (n : Int)) := atI_nat hnj
    refine ⟨_, rfl, _, rfl, al, _, j, .ref a, rfl, rfl, SqL.of hal, ata, a, ax, _, rfl, ha, a, ax, f, wk, nt, z, _, isk, .non, rfl, ha, _, rfl, iteT ?_⟩
    refine ⟨_, rfl, _, rfl, al, _, j, .ref a, rfl, rfl, SqL.of hal, ata, a, KC, ax, _, _, rfl, ha, T.cl, T.no _ (by simp), rfl, _, rfl, _, rfl, rl, _, j, _, rfl, rfl, SqL.of hrl, atn, rfl, _, rfl, ?_⟩
    rw [decide_eq_true rfl]
    refine iteT ?_
    refine ⟨_, rfl, _, rfl, rl, _, j, _, rfl, rfl, SqL.of hrl, atn, _, _, rfl, rfl, _, rfl, _, rfl, rl, _, _, j, rfl, rfl, hrl, ixN_nat0 hj, ?_⟩
    have h := h _ rfl
    obtain ⟨H1, e1⟩ : ∃ H1, upd H rl (.lst (nsL.set j (.int ((n : Int) + 1)))) = H1 := ⟨_, rfl⟩
    rw [e1] at h
    have e1' : upd H rl (.lst (nsL.set j (V.int ((n : Int) + 1)))) = H1 := e1
    rw [e1']
    refine ⟨_, rfl, rfl, _, rfl, ?_⟩
    rcases h with ⟨rfl, Lc, c, cx, cf, hce, hc, hca, h⟩ | ⟨hj0, rfl, Lc, c, cx, cf, hce, hc, hca, Q0, h, up⟩ | ⟨hj0, rfl, Lc, c, cx, cf, hce, hc, hca, Q0, h, up⟩
    · refine iteT ?_
      obtain ⟨Q0, h, up⟩ := h
      refine ⟨_, rfl, _, rfl, ce, _, 0, .ref c, rfl, rfl, SqL.of hce, atI_nat (j := 0) hc, c, cx, cf, rfl, hca, Q0, h, fun v H' q => ?_⟩
      obtain ⟨i, rfl, q'⟩ := up v H' q
      exact ⟨_, _, rfl, q'⟩
    · have e0 : decide (V.int (j : Int) = V.int 0) = false := decide_eq_false fun e => by have := V.int.inj e; omega
      rw [e0]
      refine iteF ⟨_, rfl, true, rfl, iteT ?_⟩
      refine ⟨_, rfl, _, rfl, ce, _, j, .ref c, rfl, rfl, SqL.of hce, atI_nat hc, c, cx, cf, rfl, hca, Q0, h, fun v H' q => ?_⟩
      obtain ⟨i, rfl, La, a2, ax2, af, ha2, ha3, ha4, Q1, g, up1⟩ := up v H' q
      have e3 : atI La ((j : Int) - 1) = some (.ref a2) := by
        have : ((j : Int) - 1) = ((j - 1 : Nat) : Int) := by omega
        rw [this]; exact atI_nat ha3
      refine ⟨_, rfl, _, rfl, _, rfl, _, rfl, _, _, rfl, rfl, al, _, _, .ref a2, rfl, rfl, SqL.of ha2, e3, a2, ax2, af, rfl, ha4, Q1, g, fun v2 H2 q2 => ?_⟩
      obtain ⟨i2, rfl, q'⟩ := up1 v2 H2 q2
      exact ⟨_, _, rfl, rfl, _, _, rfl, q'⟩
    · have e0 : decide (V.int (j : Int) = V.int 0) = false := decide_eq_false fun e => by have := V.int.inj e; omega
      rw [e0]
      refine iteF ⟨_, rfl, false, rfl, iteF ?_⟩
      have e3 : atI Lc ((j : Int) - 1) = some (.ref c) := by
        have : ((j : Int) - 1) = ((j - 1 : Nat) : Int) := by omega
        rw [this]; exact atI_nat hc
      refine ⟨_, rfl, _, rfl, _, _, rfl, rfl, al, _, _, .ref c, rfl, rfl, SqL.of hce, e3, c, cx, cf, rfl, hca, Q0, h, fun v H' q => ?_⟩
      obtain ⟨i, rfl, La, a2, ax2, af, ha2, ha3, ha4, Q1, g, up1⟩ := up v H' q
      refine ⟨_, rfl, _, rfl, _, rfl, _, rfl, ce, _, j, .ref a2, rfl, rfl, SqL.of ha2, atI_nat ha3, a2, ax2, af, rfl, ha4, Q1, g, fun v2 H2 q2 => ?_⟩
      obtain ⟨i2, rfl, q'⟩ := up1 v2 H2 q2
      exact ⟨_, _, rfl, rfl, _, _, rfl, q'⟩
end
end My

set_option Elab.async false
set_option linter.all false
set_option maxRecDepth 100000
set_option maxHeartbeats 4000000
/-! G4: a ladder of answers. -/
namespace My
open PySem PySem.Spec PyProof.Rows L2 LamX NdefX
section
variable {P : Program} {w : World} {K : PySem.W.Frag} {mg : Str → Option Value} {base : Heap} {FC DC CC RC KC : Addr}
/-! ### the lambda -/
abbrev sKept : Stmt := (top 24)
def retArg (st : Stmt) (i : Nat) : Expr := match st with
  | .Return (some (.Call _ as _ _)) _ => as.getD i (.Name "" ⟨0, 0, 0, 0⟩)
  | _ => .Name "" ⟨0, 0, 0, 0⟩
def lamPar : Expr → Arguments
  | .Lambda p _ _ _ => p
  | _ => ⟨[], [], none, [], [], none, []⟩
def lamBod : Expr → Expr
  | .Lambda _ b _ _ => b
  | e => e
def lamScp : Expr → Scope
  | .Lambda _ _ s _ => s
  | _ => { kind := .function, names := [], isGenerator := false, isCoroutine := false }
abbrev lamX : Expr := retArg ((defBody sKept).getD 0 (.Pass ⟨0, 0, 0, 0⟩)) 1
abbrev N6 : List Str := ["_law_runs", "_law_cells", "_law_answers", "_law_j", "_law_bound", "_law_cell_first"]
theorem lam_scope : NScope N6 [] N6 (lamScp lamX) := nscope_by (by decide +kernel)
abbrev lamN (q : Str) (cl : List (Str × Addr)) (c : Addr) : NF := ⟨"<lambda>", q, lamPar lamX, [], lamScp lamX, cl, c⟩
abbrev capV (rl ce al : Addr) (j : Nat) (bd : Int) (first : Bool) : List (Option V) := [some (.ref rl), some (.ref ce), some (.ref al), some (.int (j : Int)), some (.int bd), some (.bl first)]
theorem lam_run {fW : Addr} {dW : FuncData} {q : Str} {cl : List (Str × Addr)} {c f : Addr} {H : Hp} {Q : VK} {cs : Cells} {rl ce al : Addr} {j k : Nat} {bd : Int} {first : Bool} {spC : Sp} (W : LD P w K mg base "_law_work" (k + 1) N6 (spWork FC CC KC RC spC) fW dW)
    (hf : H f = some (LamO f (lamN q cl c) (lamBod lamX))) (hco : H c = some (CodeO c q)) (C : CsAt cl N6 (capV rl ce al j bd first) cs) (hc : ∀ c o, cs.lookup c = some o → H c = some (CO c o))
    (hq : spWork FC CC KC RC spC [.ref rl, .ref ce, .ref al, .int (j : Int), .int bd, .bl first] (dnC cs H) (fun v H2 => (∀ c o, cs.lookup c = some o → H2 c = none) → Q v (upC cs H2)) E0) : WorkCall P w K mg base (k + 2) f H Q :=
  work_lam (F := lamN q cl c) (N := N6) (fr := N6) lam_scope (fun _ _ => rfl) hf hco C hc (fun A outer s hr => pe_call W.o hr (by rfl) W.a.g W.a.k W.b .nil pass0 (pa_cons (pv 0) (pa_cons (pv 1) (pa_cons (pv 2) (pa_cons (pv 3) (pa_cons (pv 4) (pa_cons (pv 5) pa_nil))))))) ⟨_, rfl, _, rfl, _, rfl, _, rfl, _, rfl, _, rfl, hq⟩
end
/-! ### what stands -/
def nmA (i : Nat) : Str := ("k" : Str) ++ ((toString (i : Int) : String) : Str)
structure LPm where
  D : DA
  tD : Addr
  cs : List Ce
  rl : Addr
  ce : Addr
  al : Addr
  n : Nat
  a : Nat → Addr
  ax : Nat → Addr
  wk : Nat → Addr
  q : Str
  cl : Nat → List (Str × Addr)
  gs : Nat → Cells
  co : Nat → Addr
  bd : Nat → Int
  cf : Nat → Bool
abbrev Sta := Nat → Option (Int × Int)
def zC (cs : List Ce) (i : Nat) : Str := ((cs[i]?).map Ce.z).getD ""
def vC (cs : List Ce) (i : Nat) : Int := ((cs[i]?).map Ce.v).getD 0
namespace LPm
variable (p : LPm)
def valu : Nat → Int
  | 0 => 0
  | i + 1 => mn (p.bd i) (vC p.cs i + valu i)
def tgt (i : Nat) : Int × Int := (vC p.cs i, p.valu i)
def res (i : Nat) : Option (Int × Int) → V
  | none => .non
  | some x => .int (mn (p.bd i) (x.1 + x.2))
def kvs (i : Nat) : Option (Int × Int) → List (Key × V)
  | none => []
  | some x => if i = 0 then [(Sum.inr (zC p.cs 0), .int x.1)] else if p.cf i = true then [(Sum.inr (zC p.cs i), .int x.1), (Sum.inr (nmA (i - 1)), .int x.2)] else [(Sum.inr (nmA (i - 1)), .int x.2), (Sum.inr (zC p.cs i), .int x.1)]
def stU (j : Nat) (st : Sta) : Sta := fun i => if i < j then some (p.tgt i) else st i
def nsU (j : Nat) (st : Sta) (ns : Nat → Nat) : Nat → Nat := fun i => if i < j ∧ st i ≠ some (p.tgt i) then ns i + 1 else ns i
def ch (j : Nat) : List Addr := p.rl :: p.D.f :: (List.range j).map p.a
def src : List (Key × V) := cellsT p.cs ++ (List.range p.n).map fun i => (Sum.inr (nmA i), V.ref (p.a i))
theorem res_tgt (i : Nat) : p.res i (some (p.tgt i)) = .int (p.valu (i + 1)) := rfl
end LPm
/-- what asks no heap -/
structure LadS (p : LPm) : Prop where
  len : p.cs.length = p.n
  zs : (p.cs.map Ce.z).Nodup
  nm : ∀ i j, i < p.n → j < p.n → nmA i = nmA j → i = j
  nz : ∀ c ∈ p.cs, ∀ i < p.n, c.z ≠ nmA i
  aa : ∀ i j, i < p.n → j < p.n → p.a i = p.a j → i = j
  cap : ∀ i < p.n, CsAt (p.cl i) N6 (capV p.rl p.ce p.al i (p.bd i) (p.cf i)) (p.gs i)
  gsd : ∀ i j, i < p.n → j < p.n → i ≠ j → ∀ c o, (p.gs i).lookup c = some o → (p.gs j).lookup c = none
  gl : ∀ i j, i < p.n → j < p.n → (p.gs j).lookup (p.wk i) = none ∧ (p.gs j).lookup (p.co i) = none
  ap : p.rl ≠ p.ce ∧ p.rl ≠ p.al
  n8 : p.n ≤ 8
/-- the work of answer i stands -/
structure LamAt (p : LPm) (H : Hp) (i : Nat) : Prop where
  lam : H (p.wk i) = some (LamO (p.wk i) (lamN p.q (p.cl i) (p.co i)) (lamBod lamX))
  code : H (p.co i) = some (CodeO (p.co i) p.q)
  cap : ∀ c o, (p.gs i).lookup c = some o → H c = some (CO c o)
/-- the desk, and the answers below m -/
structure Lad (FC CC KC : Addr) (p : LPm) (H : Hp) (inm : V) (st : Sta) (ns : Nat → Nat) (nts : Nat → Addr) (m : Nat) : Prop where
  fl : H p.D.f = some (.ins FC p.D.fx (floorG p.D.nD p.D.cD p.D.sD p.D.eL p.D.lL inm p.tD))
  srs : H p.D.sD = some (.dK p.src)
  hce : H p.ce = some (.lst (p.cs.map fun c => V.ref c.a))
  hal : H p.al = some (.lst ((List.range p.n).map fun i => V.ref (p.a i)))
  hrl : H p.rl = some (.lst ((List.range p.n).map fun i => V.int (ns i : Nat)))
  cell : ∀ c ∈ p.cs, H c.a = some (.ins CC c.ax (cellF c.z p.D.f c.v))
  lam : ∀ i < m, LamAt p H i
  me : ∀ i < m, H (p.a i) = some (.ins KC (p.ax i) (keptF (nmA i) (ns i : Nat) p.D.f (p.wk i) (st i).isSome (p.res i (st i)) (nts i)))
  nt : ∀ i < m, H (nts i) = some (.dK (p.kvs i (st i))) ∧ nts i ≠ p.D.sD
  ntd : ∀ i j, i < m → j < m → nts i = nts j → i = j
  z0 : ∀ x, st 0 = some x → x.2 = 0
def kindO : HO → Nat
  | .ins _ _ fs => fs.length + 10
  | .dK _ => 1
  | .lst _ => 2
  | .ext _ => 3
  | _ => 4
section
variable {P : Program} {w : World} {K : PySem.W.Frag} {mg : Str → Option Value} {base : Heap} {FC DC CC RC KC : Addr} {p : LPm} {H H' : Hp} {inm inm' : V} {st : Sta} {ns ns' : Nat → Nat} {nts : Nat → Addr} {m j : Nat}
theorem Lad.le (h : Lad FC CC KC p H inm st ns nts m) (e : j ≤ m) : Lad FC CC KC p H inm st ns nts j :=
  { h with lam := fun i hi => h.lam i (by omega), me := fun i hi => h.me i (by omega), nt := fun i hi => h.nt i (by omega), ntd := fun i k hi hk => h.ntd i k (by omega) (by omega) }
/-- what a ladder speaks of, but for the floor and the list of runs -/
def LIn (p : LPm) (nts : Nat → Addr) (m : Nat) (x : Addr) : Prop := x = p.D.sD ∨ x = p.ce ∨ x = p.al ∨ (∃ c ∈ p.cs, x = c.a) ∨ ∃ i < m, x = p.wk i ∨ x = p.co i ∨ (∃ o, (p.gs i).lookup x = some o) ∨ x = p.a i ∨ x = nts i
/-- so it stands there -/
theorem Lad.kind (h : Lad FC CC KC p H inm st ns nts m) {x : Addr} (hx : LIn p nts m x) : ∃ o, H x = some o ∧ ((kindO o = 1 ∧ (x = p.D.sD ∨ ∃ i < m, x = nts i)) ∨ (kindO o = 2 ∧ (x = p.ce ∨ x = p.al)) ∨ kindO o = 13 ∨ (kindO o = 3 ∧ ∃ i < m, x = p.wk i ∨ x = p.co i ∨ ∃ o, (p.gs i).lookup x = some o) ∨ (kindO o = 17 ∧ ∃ i < m, x = p.a i)) := by
  rcases hx with rfl | rfl | rfl | ⟨c, hc, rfl⟩ | ⟨i, hi, hx⟩
  · exact ⟨_, h.srs, .inl ⟨rfl, .inl rfl⟩⟩
  · exact ⟨_, h.hce, .inr (.inl ⟨rfl, .inl rfl⟩)⟩
  · exact ⟨_, h.hal, .inr (.inl ⟨rfl, .inr rfl⟩)⟩
  · exact ⟨_, h.cell c hc, .inr (.inr (.inl rfl))⟩
  · rcases hx with rfl | rfl | ⟨o, ho⟩ | rfl | rfl
    · exact ⟨_, (h.lam i hi).lam, .inr (.inr (.inr (.inl ⟨rfl, i, hi, .inl rfl⟩)))⟩
    · exact ⟨_, (h.lam i hi).code, .inr (.inr (.inr (.inl ⟨rfl, i, hi, .inr (.inl rfl)⟩)))⟩
    · exact ⟨_, (h.lam i hi).cap _ _ ho, .inr (.inr (.inr (.inl ⟨rfl, i, hi, .inr (.inr ⟨o, ho⟩)⟩)))⟩
    · exact ⟨_, h.me i hi, .inr (.inr (.inr (.inr ⟨rfl, i, hi, rfl⟩)))⟩
    · exact ⟨_, (h.nt i hi).1, .inl ⟨rfl, .inr ⟨i, hi, rfl⟩⟩⟩
/-- what is none of these -/
theorem Lad.out (h : Lad FC CC KC p H inm st ns nts m) {x : Addr} {o : HO} (e : H x = some o) (k1 : kindO o ≠ 1 ∨ (x ≠ p.D.sD ∧ ∀ i < m, x ≠ nts i)) (k2 : kindO o ≠ 2 ∨ (x ≠ p.ce ∧ x ≠ p.al)) (k3 : kindO o ≠ 3 ∨ ∀ i < m, x ≠ p.wk i ∧ x ≠ p.co i ∧ (p.gs i).lookup x = none) (k4 : kindO o ≠ 13) (k5 : kindO o ≠ 17 ∨ ∀ i < m, x ≠ p.a i) : ¬ LIn p nts m x := fun hx => by
  obtain ⟨o', e', q⟩ := h.kind hx
  rw [e] at e'
  cases e'
  rcases q with ⟨a, b⟩ | ⟨a, b⟩ | a | ⟨a, i, hi, b⟩ | ⟨a, i, hi, b⟩
  · rcases k1 with k | ⟨n1, n2⟩
    · exact k a
    · rcases b with b | ⟨i, hi, b⟩
      · exact n1 b
      · exact n2 i hi b
  · rcases k2 with k | ⟨n1, n2⟩
    · exact k a
    · rcases b with b | b
      · exact n1 b
      · exact n2 b
  · exact k4 a
  · rcases k3 with k | n
    · exact k a
    · obtain ⟨n1, n2, n3⟩ := n i hi
      rcases b with b | b | ⟨o, b⟩
      · exact n1 b
      · exact n2 b
      · rw [n3] at b; cases b
  · rcases k5 with k | n
    · exact k a
    · exact n i hi b
theorem Lad.new (h : Lad FC CC KC p H inm st ns nts m) {x : Addr} (e : H x = none) : ¬ LIn p nts m x := fun hx => by
  obtain ⟨o, e', _⟩ := h.kind hx
  rw [e] at e'; cases e'
theorem Lad.kpS {S : List Addr} (h : Lad FC CC KC p H inm st ns nts m) (k : Kp S H H') (hS : ∀ x ∈ S, ¬ LIn p nts m x) (hf : H' p.D.f = some (.ins FC p.D.fx (floorG p.D.nD p.D.cD p.D.sD p.D.eL p.D.lL inm' p.tD))) (hr : H' p.rl = some (.lst ((List.range p.n).map fun i => V.int (ns' i : Nat)))) (hn : ∀ i < m, ns' i = ns i) : Lad FC CC KC p H' inm' st ns' nts m := by
  have g : ∀ {x : Addr} {o : HO}, LIn p nts m x → H x = some o → H' x = some o := fun {x o} i e => k x o (fun z => hS x z i) e
  refine ⟨hf, g (.inl rfl) h.srs, g (.inr (.inl rfl)) h.hce, g (.inr (.inr (.inl rfl))) h.hal, hr, fun c hc => g (.inr (.inr (.inr (.inl ⟨c, hc, rfl⟩)))) (h.cell c hc), fun i hi => ⟨g (.inr (.inr (.inr (.inr ⟨i, hi, .inl rfl⟩)))) (h.lam i hi).lam, g (.inr (.inr (.inr (.inr ⟨i, hi, .inr (.inl rfl)⟩)))) (h.lam i hi).code, fun c o e => g (.inr (.inr (.inr (.inr ⟨i, hi, .inr (.inr (.inl ⟨o, e⟩))⟩)))) ((h.lam i hi).cap c o e)⟩,
    fun i hi => ?_, fun i hi => ⟨g (.inr (.inr (.inr (.inr ⟨i, hi, .inr (.inr (.inr (.inr rfl)))⟩)))) (h.nt i hi).1, (h.nt i hi).2⟩, h.ntd, h.z0⟩
  rw [hn i hi]
  exact g (.inr (.inr (.inr (.inr ⟨i, hi, .inr (.inr (.inr (.inl rfl)))⟩)))) (h.me i hi)
theorem Lad.kp {S : List Addr} (h : Lad FC CC KC p H inm st ns nts m) (k : Kp S H H') (hS : ∀ x ∈ S, ¬ LIn p nts m x ∧ x ≠ p.D.f ∧ x ≠ p.rl) : Lad FC CC KC p H' inm st ns nts m :=
  h.kpS k (fun x hx => (hS x hx).1) (k _ _ (fun z => (hS _ z).2.1 rfl) h.fl) (k _ _ (fun z => (hS _ z).2.2 rfl) h.hrl) fun _ _ => rfl
theorem Free.kpS {S : List Addr} {z : Str} (k : Kp S H H') (hS : ∀ x ∈ S, ∀ o, H x = some o → kindO o ≠ 15) : ∀ {n : Nat} {o : V}, Free RC H z n o → Free RC H' z n o
  | 0, _, h => h
  | n + 1, _, ⟨r, rx, nt, z', ia, o, q, e, h1, h2, h3⟩ => ⟨r, rx, nt, z', ia, o, q, e, k _ _ (fun hx => hS r hx _ h1 rfl) h1, h2, Free.kpS k hS h3⟩
/-- no run stands in what a climb changes -/
theorem Lad.noRun (h : Lad FC CC KC p H inm st ns nts m) (e : j ≤ m) : ∀ x ∈ p.ch j, ∀ o, H x = some o → kindO o ≠ 15 := fun x hx o ho => by
  rcases List.mem_cons.mp hx with rfl | hx
  · rw [h.hrl] at ho; cases ho; exact (by decide : ¬ (2 = 15))
  · rcases List.mem_cons.mp hx with rfl | hx
    · rw [h.fl] at ho; cases ho
      exact (by decide : 9 + 10 ≠ 15)
    · obtain ⟨i, hi, rfl⟩ := List.mem_map.mp hx
      rw [h.me i (Nat.lt_of_lt_of_le (List.mem_range.mp hi) e)] at ho; cases ho
      exact (by decide : 7 + 10 ≠ 15)
/-- what a climb changes is neither a dict nor a cell -/
theorem Lad.chOut (h : Lad FC CC KC p H inm st ns nts m) (e : j ≤ m) {x : Addr} {o : HO} (ho : H x = some o) (k1 : kindO o ≠ 2 ∨ x ≠ p.rl) (k2 : kindO o ≠ 19) (k3 : kindO o ≠ 17 ∨ ∀ i < j, x ≠ p.a i) : x ∉ p.ch j := fun hx => by
  rcases List.mem_cons.mp hx with z | hx
  · rcases k1 with k | k
    · rw [z, h.hrl] at ho; cases ho; exact k rfl
    · exact k z
  · rcases List.mem_cons.mp hx with z | hx
    · rw [z, h.fl] at ho; cases ho
      exact k2 rfl
    · obtain ⟨i, hi, rfl⟩ := List.mem_map.mp hx
      rcases k3 with k | k
      · rw [h.me i (Nat.lt_of_lt_of_le (List.mem_range.mp hi) e)] at ho; cases ho
        exact k rfl
      · exact k i (List.mem_range.mp hi) rfl
theorem LPm.stU_self (p : LPm) (j : Nat) (st : Sta) : p.stU j st j = st j := by unfold LPm.stU; rw [if_neg (Nat.lt_irrefl j)]
theorem LPm.nsU_self (p : LPm) (j : Nat) (st : Sta) (ns : Nat → Nat) : p.nsU j st ns j = ns j := by unfold LPm.nsU; rw [if_neg (fun h => Nat.lt_irrefl j h.1)]
theorem LPm.ch_sub (p : LPm) {i j : Nat} (e : i ≤ j) : ∀ x ∈ p.ch i, x ∈ p.ch j := fun x hx => by
  rcases List.mem_cons.mp hx with rfl | hx
  · exact List.mem_cons_self ..
  · rcases List.mem_cons.mp hx with rfl | hx
    · exact List.mem_cons_of_mem _ (List.mem_cons_self ..)
    · obtain ⟨k, hk, rfl⟩ := List.mem_map.mp hx
      refine List.mem_cons_of_mem _ (List.mem_cons_of_mem _ (List.mem_map_of_mem (List.mem_range.mpr ?_)))
      have := List.mem_range.mp hk; omega
end
end My

set_option Elab.async false
set_option linter.all false
set_option maxRecDepth 100000
set_option maxHeartbeats 4000000
/-! G5: the work of an answer of a ladder. -/
namespace My
open PySem PySem.Spec PyProof.Rows L2 LamX NdefX
theorem up_get {cs : Cells} {H : Hp} {b : Addr} {u : HO} (n : ∀ c o, cs.lookup c = some o → H c = none) (e : H b = some u) : upC cs H b = some u := by
  cases hl : cs.lookup b with
  | some o => rw [n b o hl] at e; cases e
  | none => rw [upC_out hl]; exact e
theorem out_of {cs : Cells} {H : Hp} {b : Addr} {u : HO} (n : ∀ c o, cs.lookup c = some o → H c = some (CO c o)) (x : ∀ φ, u ≠ .ext φ) (e : H b = some u) : cs.lookup b = none := by
  cases hl : cs.lookup b with
  | some o => rw [n b o hl] at e; exact absurd (Option.some.inj e) (co_ne x)
  | none => rfl
theorem dn_get {cs : Cells} {H : Hp} {b : Addr} {u : HO} (n : ∀ c o, cs.lookup c = some o → H c = some (CO c o)) (x : ∀ φ, u ≠ .ext φ) (e : H b = some u) : dnC cs H b = some u := by
  rw [dnC_out (out_of n x e)]; exact e
theorem look_out {α : Type} {l : List (Addr × α)} {b : Addr} (h : b ∉ l.map Prod.fst) : l.lookup b = none := by
  cases e : l.lookup b with
  | none => rfl
  | some o => exact absurd (List.mem_map_of_mem (f := Prod.fst) (lookup_mem e)) h
theorem look_in {α : Type} {l : List (Addr × α)} {b : Addr} (h : b ∈ l.map Prod.fst) : ∃ o, l.lookup b = some o := by
  obtain ⟨⟨x, o⟩, hx, rfl⟩ := List.mem_map.mp h
  exact mem_lookup' hx
theorem range_at {α : Type} (f : Nat → α) {n i : Nat} (h : i < n) : ((List.range n).map f)[i]? = some (f i) := by
  rw [List.getElem?_map, List.getElem?_range h]; rfl
theorem range_set {α : Type} (f g : Nat → α) {n j : Nat} (h : ∀ i, i ≠ j → g i = f i) : ((List.range n).map f).set j (g j) = (List.range n).map g := by
  refine List.ext_getElem? fun i => ?_
  by_cases hi : i < n
  · by_cases e : j = i
    · subst e
      rw [List.getElem?_set_self (by rw [List.length_map, List.length_range]; exact hi), range_at _ hi]
    · rw [List.getElem?_set_ne e, range_at _ hi, range_at _ hi, h i (fun z => e z.symm)]
  · rw [List.getElem?_eq_none (by rw [List.length_set, List.length_map, List.length_range]; omega), List.getElem?_eq_none (by rw [List.length_map, List.length_range]; omega)]
theorem LPm.stU_zero (p : LPm) (st : Sta) : p.stU 0 st = st := by
  funext i; unfold LPm.stU; rw [if_neg (Nat.not_lt_zero i)]
theorem LPm.nsU_zero (p : LPm) (st : Sta) (ns : Nat → Nat) : p.nsU 0 st ns = ns := by
  funext i; unfold LPm.nsU; rw [if_neg (fun h => Nat.not_lt_zero i h.1)]
theorem LPm.kvs_t (p : LPm) {i : Nat} (x : Int × Int) (h : p.cf (i + 1) = true) : p.kvs (i + 1) (some x) = [(Sum.inr (zC p.cs (i + 1)), .int x.1), (Sum.inr (nmA i), .int x.2)] := by
  simp [LPm.kvs, h]
theorem LPm.kvs_f (p : LPm) {i : Nat} (x : Int × Int) (h : p.cf (i + 1) = false) : p.kvs (i + 1) (some x) = [(Sum.inr (nmA i), .int x.2), (Sum.inr (zC p.cs (i + 1)), .int x.1)] := by
  simp [LPm.kvs, h]
/-- one run more of answer j -/
def bump (j : Nat) (ns : Nat → Nat) : Nat → Nat := fun i => if i = j then ns j + 1 else ns i
theorem bump_self (j : Nat) (ns : Nat → Nat) : bump j ns j = ns j + 1 := if_pos rfl
theorem bump_ne {j i : Nat} {ns : Nat → Nat} (h : i ≠ j) : bump j ns i = ns i := if_neg h
theorem LPm.nsU_bump (p : LPm) (j : Nat) (st : Sta) (ns : Nat → Nat) : p.nsU j st (bump j ns) = bump j (p.nsU j st ns) := by
  funext i
  by_cases e : i = j
  · subst e
    rw [p.nsU_self, bump_self, bump_self, p.nsU_self]
  · rw [bump_ne e]
    unfold LPm.nsU
    rw [bump_ne e]
section
variable {P : Program} {w : World} {K : PySem.W.Frag} {mg : Str → Option Value} {base : Heap} {FC DC CC RC KC : Addr} {p : LPm} {H H' : Hp} {inm inm' : V} {st : Sta} {ns ns' : Nat → Nat} {nts : Nat → Addr} {m j i : Nat} {spC : Sp} {r rx nt : Addr} {z : Str} {ia : Bool} {o : V} {kvs : List (Key × V)}
theorem LadS.at_ (s : LadS p) (hi : i < p.n) : ∃ c ∈ p.cs, p.cs[i]? = some c ∧ zC p.cs i = c.z ∧ vC p.cs i = c.v := by
  have h : i < p.cs.length := by rw [s.len]; exact hi
  refine ⟨p.cs[i], List.getElem_mem _, List.getElem?_eq_getElem h, ?_, ?_⟩
  · unfold zC; rw [List.getElem?_eq_getElem h]; rfl
  · unfold vC; rw [List.getElem?_eq_getElem h]; rfl
/-- reading answer j brings all up to it into order -/
def Climb (FC CC KC RC : Addr) (p : LPm) (spC : Sp) (j : Nat) : Prop := ∀ (H : Hp) (inm : V) (st : Sta) (ns : Nat → Nat) (nts : Nat → Addr) (Q : VK), Lad FC CC KC p H inm st ns nts (j + 1) → (∀ i ≤ j, ∃ d, Free RC H (nmA i) d inm) →
  (∀ H' nts', Kp (p.ch (j + 1)) H H' → Lad FC CC KC p H' inm (p.stU (j + 1) st) (p.nsU (j + 1) st ns) nts' (j + 1) → (∀ i ≤ j, nts' i = nts i ∨ H (nts' i) = none) → Q (.int (p.valu (j + 1))) H') → spC [.ref (p.a j)] H Q E0
theorem besideL (s : LadS p) (h : Lad FC CC KC p H (.ref r) st ns nts m) (hi : i < p.n) (hr : H r = some (.ins RC rx (runF z ia o nt 0))) (hn : H nt = some (.dK kvs)) (hl : kvs.length < 1000) {R : Int → Hp → Prop}
    (q : ∀ H', Kp [nt] H H' → H' nt = some (.dK (setd kvs (Sum.inr (zC p.cs i)) (.int (vC p.cs i)))) → R (vC p.cs i) H') : beside FC CC RC p.ce i H R := by
  obtain ⟨c, hc, ei, ez, ev⟩ := s.at_ hi
  rw [ez, ev] at q
  refine ⟨_, c.a, c.ax, _, h.hce, by rw [List.getElem?_map, ei]; rfl, h.cell c hc, _, .inr ⟨c.a, c.ax, p.D.f, p.D.fx, r, rx, nt, _, c.z, z, c.v, o, ia, kvs, rfl, h.cell c hc, h.fl, rfl, rfl, hr, hn, hl, fun H' k e => ?_⟩, fun v H' h => h⟩
  exact ⟨_, rfl, q H' k e⟩
theorem belowL (C : Climb FC CC KC RC p spC i) (hi : i < p.n) (h : Lad FC CC KC p H (.ref r) st ns nts (i + 1)) (hr : H r = some (.ins RC rx (runF z ia o nt 0))) (hn : H nt = some (.dK kvs)) (hl : kvs.length < 1000) (nns : ∀ k ≤ i, nts k ≠ nt) (nsd : nt ≠ p.D.sD) (hF : ∀ k ≤ i, ∃ d, Free RC H (nmA k) d (.ref r)) {R : Int → Hp → Prop}
    (q : ∀ H' nts', Kp (nt :: p.ch (i + 1)) H H' → Lad FC CC KC p H' (.ref r) (p.stU (i + 1) st) (p.nsU (i + 1) st ns) nts' (i + 1) → (∀ k ≤ i, nts' k = nts k ∨ H (nts' k) = none) → H' nt = some (.dK (setd kvs (Sum.inr (nmA i)) (.int (p.valu (i + 1))))) → H' r = some (.ins RC rx (runF z ia o nt 0)) → R (p.valu (i + 1)) H') :
    below FC KC RC spC p.al i H R := by
  refine ⟨_, p.a i, p.ax i, _, h.hal, range_at _ hi, h.me i (Nat.lt_succ_self i), _, ⟨p.a i, p.ax i, _, rfl, h.me i (Nat.lt_succ_self i), rfl, C H (.ref r) st ns nts _ h hF fun H' nts' k' h' fr => ?_⟩, fun v H' h => h⟩
  have hr' := k' _ _ (h.chOut (Nat.le_refl _) hr (.inl (by show ¬ (5 + 10 = 2); decide)) (by show ¬ (5 + 10 = 19); decide) (.inl (by show ¬ (5 + 10 = 17); decide))) hr
  have hn' := k' _ _ (h.chOut (Nat.le_refl _) hn (.inl (by show ¬ (1 = 2); decide)) (by show ¬ (1 = 19); decide) (.inl (by show ¬ (1 = 17); decide))) hn
  refine ⟨nmA i, _, p.D.f, p.wk i, nts' i, p.D.fx, _, _, _, h'.me i (Nat.lt_succ_self i), h'.fl, rfl, .inr ⟨p.D.f, p.D.fx, r, rx, nt, _, nmA i, z, _, o, ia, kvs, rfl, h'.fl, rfl, hr', hn', hl, fun H'' k'' e'' => ?_⟩⟩
  have nrn : r ≠ nt := fun e => by rw [e, hn] at hr; cases hr
  refine ⟨_, rfl, q H'' nts' ((k'.mono fun x hx => List.mem_cons_of_mem _ hx).trans (k''.mono (by simp))) (h'.kp k'' fun x hx => ?_) fr e'' (k'' _ _ (by simpa using nrn) hr')⟩
  obtain rfl : x = nt := by simpa using hx
  refine ⟨h'.out hn' (.inr ⟨nsd, fun k hk e => ?_⟩) (.inl (by show ¬ (1 = 2); decide)) (.inl (by show ¬ (1 = 3); decide)) (by show ¬ (1 = 13); decide) (.inl (by show ¬ (1 = 17); decide)), fun e => ?_, fun e => ?_⟩
  · rcases fr k (Nat.le_of_lt_succ hk) with z | z
    · exact nns k (Nat.le_of_lt_succ hk) (z ▸ e.symm)
    · rw [← e, hn] at z; cases z
  · rw [e, h'.fl] at hn'; cases hn'
  · rw [e, h'.hrl] at hn'; cases hn'
theorem setd_nil (k : Key) (v : V) : setd [] k v = [(k, v)] := rfl
theorem setd_one {k1 k2 : Key} {v1 v2 : V} (h : k1 ≠ k2) : setd [(k1, v1)] k2 v2 = [(k1, v1), (k2, v2)] := by
  unfold setd
  rw [valV_neg (p := (k1, v1)) h]
  rfl
/-- THE RULE: the work of answer j, those below it as they may be -/
theorem runJ {fW : Addr} {dW : FuncData} {k : Nat} (s : LadS p) (hj : j < p.n) (W : LD P w K mg base "_law_work" (k + 1) N6 (spWork FC CC KC RC spC) fW dW) (C : ∀ i, i + 1 = j → Climb FC CC KC RC p spC i)
    (h : Lad FC CC KC p H inm st ns nts j) (y : LamAt p H j) {isk : Bool} {res : V} {nt0 : Addr} (me : H (p.a j) = some (.ins KC (p.ax j) (keptF (nmA j) (ns j : Nat) p.D.f (p.wk j) isk res nt0))) (hF : ∀ i < j, ∃ d, Free RC H (nmA i) d inm) {R : VK}
    (q : ∀ H' nts' nt', Kp (p.ch (j + 1)) H H' → Lad FC CC KC p H' inm (p.stU j st) (bump j (p.nsU j st ns)) nts' j → (∀ i < j, nts' i = nts i ∨ H (nts' i) = none) → H nt' = none → (∀ i < j, nts' i ≠ nt') → H' (p.a j) = some (.ins KC (p.ax j) (keptF (nmA j) ((ns j : Nat) + 1) p.D.f (p.wk j) true (.int (p.valu (j + 1))) nt')) → H' nt' = some (.dK (p.kvs j (some (p.tgt j)))) → R (.int (p.valu (j + 1))) H') :
    WKs P w K mg base FC KC RC (k + 2) (p.a j) (p.ax j) p.D.f p.D.fx nt0 (p.wk j) (floorG p.D.nD p.D.cD p.D.sD p.D.eL p.D.lL inm p.tD) (nmA j) (ns j : Nat) inm H R := by
  intro H1 r rx nt' k1 hr0 hnt0 nrn a1 f1 r1 n1
  have ext1 : ∀ {x : Addr} {φ : Heap → Prop}, H x = some (.ext φ) → H1 x = some (.ext φ) := fun {x φ} e => k1 x _ (fun hx => by
    simp only [List.mem_cons, List.mem_nil_iff, or_false] at hx
    rcases hx with z | z
    · rw [z, me] at e; cases e
    · rw [z, h.fl] at e; cases e) e
  have y1 : LamAt p H1 j := ⟨ext1 y.lam, ext1 y.code, fun c o e => ext1 (y.cap c o e)⟩
  refine lam_run W y1.lam y1.code (s.cap j hj) y1.cap ?_
  have gsH : ∀ c o, (p.gs j).lookup c = some o → H c = some (CO c o) := y.cap
  have f1' : H1 p.D.f = some (.ins FC p.D.fx (floorG p.D.nD p.D.cD p.D.sD p.D.eL p.D.lL (.ref r) p.tD)) := f1
  obtain ⟨HA, eA⟩ : ∃ HA, dnC (p.gs j) H1 = HA := ⟨_, rfl⟩
  have dn : ∀ {b : Addr} {u : HO}, H1 b = some u → (∀ φ, u ≠ .ext φ) → HA b = some u := fun e x => by rw [← eA]; exact dn_get y1.cap x e
  have KA : Kp (p.D.f :: p.a j :: (p.gs j).map Prod.fst) H HA := fun b u nb e => by
    simp only [List.mem_cons, not_or] at nb
    rw [← eA, dnC_out (look_out nb.2.2)]
    exact k1 b u (by simp only [List.mem_cons, List.mem_nil_iff, or_false, not_or]; exact ⟨nb.2.1, nb.1⟩) e
  have naf : p.a j ≠ p.D.f := fun e => by
    rw [e, h.fl] at me
    exact absurd (congrArg List.length (HO.ins.inj (Option.some.inj me)).2.2) (by show ¬ (9 : Nat) = 7; decide)
  have nra : p.rl ≠ p.a j := fun e => by have := h.hrl; rw [e, me] at this; cases this
  have nrf : p.rl ≠ p.D.f := fun e => by have := h.hrl; rw [e, h.fl] at this; cases this
  have keys : ∀ x ∈ (p.gs j).map Prod.fst, ∃ o, (p.gs j).lookup x = some o ∧ H x = some (CO x o) := fun x hx => by
    obtain ⟨o, ho⟩ := look_in hx
    exact ⟨o, ho, gsH x o ho⟩
  have fA := dn f1' (fun _ z => by cases z)
  have aA := dn a1 (fun _ z => by cases z)
  have rA := dn r1 (fun _ z => by cases z)
  have nA := dn n1 (fun _ z => by cases z)
  have hA : ∀ {b : Addr} {u : HO}, H b = some u → (∀ φ, u ≠ .ext φ) → (∀ C dx fs, u ≠ .ins C dx fs) → HA b = some u := fun {b u} e x1 x2 => dn (k1 b u (fun hx => by
    simp only [List.mem_cons, List.mem_nil_iff, or_false] at hx
    rcases hx with z | z
    · rw [z, me] at e; cases e; exact x2 _ _ _ rfl
    · rw [z, h.fl] at e; cases e; exact x2 _ _ _ rfl) e) x1
  have rlA := hA h.hrl (fun _ z => by cases z) (fun _ _ _ z => by cases z)
  have alA := hA h.hal (fun _ z => by cases z) (fun _ _ _ z => by cases z)
  -- the list of runs is put
  obtain ⟨HB, eB⟩ : ∃ HB, upd HA p.rl (.lst ((List.range p.n).map fun i => V.int (bump j ns i : Nat))) = HB := ⟨_, rfl⟩
  have oB : ∀ {b : Addr}, b ≠ p.rl → HB b = HA b := fun n => by rw [← eB]; exact upd_ne n
  have KB : Kp (p.rl :: p.D.f :: p.a j :: (p.gs j).map Prod.fst) H HB := fun b u nb e => by
    simp only [List.mem_cons, not_or] at nb
    rw [oB nb.1]
    exact KA b u (by simp only [List.mem_cons, not_or]; exact nb.2) e
  have fB := (oB nrf.symm).trans fA
  have aB := (oB nra.symm).trans aA
  have rB := (oB (fun e => by rw [e, h.hrl] at hr0; cases hr0)).trans rA
  have nB := (oB (fun e => by rw [e, h.hrl] at hnt0; cases hnt0)).trans nA
  have rlB : HB p.rl = some (.lst ((List.range p.n).map fun i => V.int (bump j ns i : Nat))) := by rw [← eB]; exact upd_same
  have kA : ∀ x ∈ p.rl :: p.D.f :: p.a j :: (p.gs j).map Prod.fst, ¬ LIn p nts j x ∧ ∀ o, H x = some o → kindO o ≠ 15 := fun x hx => by
    rcases List.mem_cons.mp hx with rfl | hx
    · exact ⟨h.out h.hrl (.inl (by show ¬ (2 = 1); decide)) (.inr s.ap) (.inl (by show ¬ (2 = 3); decide)) (by show ¬ (2 = 13); decide) (.inl (by show ¬ (2 = 17); decide)), fun o ho => by rw [h.hrl] at ho; cases ho; exact (by decide : ¬ (2 = 15))⟩
    · rcases List.mem_cons.mp hx with rfl | hx
      · exact ⟨h.out h.fl (.inl (by show ¬ (9 + 10 = 1); decide)) (.inl (by show ¬ (9 + 10 = 2); decide)) (.inl (by show ¬ (9 + 10 = 3); decide)) (by show ¬ (9 + 10 = 13); decide) (.inl (by show ¬ (9 + 10 = 17); decide)), fun o ho => by rw [h.fl] at ho; cases ho; exact (by decide : ¬ (9 + 10 = 15))⟩
      · rcases List.mem_cons.mp hx with rfl | hx
        · exact ⟨h.out me (.inl (by show ¬ (7 + 10 = 1); decide)) (.inl (by show ¬ (7 + 10 = 2); decide)) (.inl (by show ¬ (7 + 10 = 3); decide)) (by show ¬ (7 + 10 = 13); decide) (.inr fun i hi e => Nat.ne_of_gt hi (s.aa _ _ hj (by omega) e)), fun o ho => by rw [me] at ho; cases ho; exact (by decide : ¬ (7 + 10 = 15))⟩
        · obtain ⟨o, ho, hx0⟩ := keys x hx
          refine ⟨h.out hx0 (.inl (by show ¬ (3 = 1); decide)) (.inl (by show ¬ (3 = 2); decide)) (.inr fun i hi => ⟨fun e => ?_, fun e => ?_, s.gsd j i hj (by omega) (Nat.ne_of_gt hi) x o ho⟩) (by show ¬ (3 = 13); decide) (.inl (by show ¬ (3 = 17); decide)), fun o' ho' => by rw [hx0] at ho'; cases ho'; exact (by decide : ¬ (3 = 15))⟩
          · rw [e, (s.gl i j (by omega) hj).1] at ho; cases ho
          · rw [e, (s.gl i j (by omega) hj).2] at ho; cases ho
  have LB : Lad FC CC KC p HB (.ref r) st (bump j ns) nts j := h.kpS KB (fun x hx => (kA x hx).1) fB rlB fun i hi => bump_ne (Nat.ne_of_lt hi)
  have FB : ∀ i < j, ∃ d, Free RC HB (nmA i) d (.ref r) := fun i hi => by
    obtain ⟨d, hd⟩ := hF i hi
    exact ⟨d + 1, r, rx, nt', nmA j, true, inm, 0, rfl, rB, fun e => Nat.ne_of_gt hi (s.nm _ _ hj (by omega) e), Free.kpS KB (fun x hx => (kA x hx).2) hd⟩
  have lowB : ∀ {x : Addr} {o : HO}, HB x = none → H x = some o → x ∈ (p.gs j).map Prod.fst := fun {x o} e1 e => by
    by_cases hx : x ∈ p.rl :: p.D.f :: p.a j :: (p.gs j).map Prod.fst
    · rcases List.mem_cons.mp hx with rfl | hx
      · rw [rlB] at e1; cases e1
      · rcases List.mem_cons.mp hx with rfl | hx
        · rw [fB] at e1; cases e1
        · rcases List.mem_cons.mp hx with rfl | hx
          · rw [aB] at e1; cases e1
          · exact hx
    · rw [KB x o hx e] at e1; cases e1
  have nnt : ∀ i < j, nts i ≠ nt' := fun i hi e => by
    have := (h.nt i hi).1
    rw [e, hnt0] at this; cases this
  have nsd : nt' ≠ p.D.sD := fun e => by rw [e, h.srs] at hnt0; cases hnt0
  have nan : p.a j ≠ nt' := fun e => by rw [e, hnt0] at me; cases me
  have nfn : p.D.f ≠ nt' := fun e => by have := h.fl; rw [e, hnt0] at this; cases this
  have nrn2 : p.rl ≠ nt' := fun e => by have := h.hrl; rw [e, hnt0] at this; cases this
  -- behind the work
  have fin : ∀ (H2 : Hp) (nts' : Nat → Addr), Kp (nt' :: p.ch j) HB H2 → Lad FC CC KC p H2 (.ref r) (p.stU j st) (p.nsU j st (bump j ns)) nts' j → (∀ i < j, nts' i = nts i ∨ HB (nts' i) = none) → H2 nt' = some (.dK (p.kvs j (some (p.tgt j)))) → H2 r = some (.ins RC rx (runF (nmA j) true inm nt' 0)) →
      (∀ c o, (p.gs j).lookup c = some o → H2 c = none) → upC (p.gs j) H2 (p.a j) = some (.ins KC (p.ax j) (keptF (nmA j) (ns j : Nat) p.D.f (p.wk j) false .non nt0)) ∧ upC (p.gs j) H2 p.D.f = some (.ins FC p.D.fx (putF "inmost" (.ref r) (floorG p.D.nD p.D.cD p.D.sD p.D.eL p.D.lL inm p.tD))) ∧ upC (p.gs j) H2 r = some (.ins RC rx (runF (nmA j) true inm nt' 0)) ∧
      ∀ H3, Kp [p.a j, p.D.f] (upC (p.gs j) H2) H3 → H3 (p.a j) = some (.ins KC (p.ax j) (keptF (nmA j) ((ns j : Nat) + 1) p.D.f (p.wk j) true (.int (p.valu (j + 1))) nt')) → H3 p.D.f = some (.ins FC p.D.fx (putF "inmost" inm (putF "inmost" (.ref r) (floorG p.D.nD p.D.cD p.D.sD p.D.eL p.D.lL inm p.tD)))) → R (.int (p.valu (j + 1))) H3 := fun H2 nts' k2 h2 fr nt2 r2 no => by
    have upK : Kp [] H2 (upC (p.gs j) H2) := fun b u _ e => up_get no e
    have a2 : H2 (p.a j) = some (.ins KC (p.ax j) (keptF (nmA j) (ns j : Nat) p.D.f (p.wk j) false .non nt0)) := k2 _ _ (fun hx => by
      rcases List.mem_cons.mp hx with z | hx
      · exact nan z
      · exact LB.chOut (Nat.le_refl _) aB (.inl (by show ¬ (7 + 10 = 2); decide)) (by show ¬ (7 + 10 = 19); decide) (.inr fun i hi e => Nat.ne_of_gt hi (s.aa _ _ hj (by omega) e)) hx) aB
    refine ⟨upK _ _ (by simp) a2, upK _ _ (by simp) h2.fl, upK _ _ (by simp) r2, fun H3 k3 a3 f3 => ?_⟩
    have K23 : Kp [p.a j, p.D.f] H2 H3 := (upK.mono (by simp)).trans k3
    have rl3 := K23 _ _ (by simp only [List.mem_cons, List.mem_nil_iff, or_false, not_or]; exact ⟨nra, nrf⟩) h2.hrl
    rw [p.nsU_bump] at h2 rl3
    refine q H3 nts' nt' (fun b u nb e => ?_) (h2.kpS K23 (fun x hx => ?_) f3 rl3 fun _ _ => rfl) (fun i hi => ?_) hnt0 (fun i hi e => ?_) a3 (K23 _ _ (by simp only [List.mem_cons, List.mem_nil_iff, or_false, not_or]; exact ⟨nan.symm, nfn.symm⟩) nt2)
    · have nb1 : b ≠ p.rl := fun z => nb (z ▸ List.mem_cons_self ..)
      have nb2 : b ≠ p.D.f := fun z => nb (z ▸ List.mem_cons_of_mem _ (List.mem_cons_self ..))
      have nb3 : b ≠ p.a j := fun z => nb (z ▸ List.mem_cons_of_mem _ (List.mem_cons_of_mem _ (List.mem_map_of_mem (List.mem_range.mpr (Nat.lt_succ_self j)))))
      have n2 : b ∉ [p.a j, p.D.f] := by simp only [List.mem_cons, List.mem_nil_iff, or_false, not_or]; exact ⟨nb3, nb2⟩
      cases hl : (p.gs j).lookup b with
      | some o =>
        rw [gsH b o hl] at e
        cases e
        exact k3 _ _ n2 (upC_in hl)
      | none =>
        refine K23 _ _ n2 (k2 _ _ (fun hx => ?_) ?_)
        · rcases List.mem_cons.mp hx with z | hx
          · rw [z, hnt0] at e; cases e
          · exact nb (p.ch_sub (Nat.le_succ j) b hx)
        · have nk : b ∉ (p.gs j).map Prod.fst := fun hx => by
            obtain ⟨o, ho⟩ := look_in hx
            rw [hl] at ho; cases ho
          exact KB b u (by simp only [List.mem_cons, not_or]; exact ⟨nb1, nb2, nb3, nk⟩) e
    · simp only [List.mem_cons, List.mem_nil_iff, or_false] at hx
      rcases hx with rfl | rfl
      · exact h2.out a2 (.inl (by show ¬ (7 + 10 = 1); decide)) (.inl (by show ¬ (7 + 10 = 2); decide)) (.inl (by show ¬ (7 + 10 = 3); decide)) (by show ¬ (7 + 10 = 13); decide) (.inr fun i hi e => Nat.ne_of_gt hi (s.aa _ _ hj (by omega) e))
      · exact h2.out h2.fl (.inl (by show ¬ (9 + 10 = 1); decide)) (.inl (by show ¬ (9 + 10 = 2); decide)) (.inl (by show ¬ (9 + 10 = 3); decide)) (by show ¬ (9 + 10 = 13); decide) (.inl (by show ¬ (9 + 10 = 17); decide))
    · rcases fr i hi with z | z
      · exact .inl z
      · refine .inr ?_
        cases e : H (nts' i) with
        | none => rfl
        | some u =>
          obtain ⟨o, ho⟩ := look_in (lowB z e)
          have := (h2.nt i hi).1
          rw [no _ o ho] at this; cases this
    · rcases fr i hi with z | z
      · exact nnt i hi (z ▸ e)
      · rw [e, nB] at z; cases z
  refine ⟨p.rl, p.ce, p.al, p.a j, p.ax j, p.D.f, p.wk j, nt0, j, ns j, p.bd j, p.cf j, false, nmA j, _, _, rfl, by rw [eA]; exact rlA, range_at _ hj, by rw [eA]; exact alA, range_at _ hj, by rw [eA]; exact aA, fun HB' eB' => ?_⟩
  have es : ((List.range p.n).map fun i => V.int (ns i : Nat)).set j (.int ((ns j : Nat) + 1)) = (List.range p.n).map fun i => V.int (bump j ns i : Nat) := by
    rw [← range_set (fun i => V.int (ns i : Nat)) (fun i => V.int (bump j ns i : Nat)) (j := j) fun i hi => by rw [bump_ne hi], bump_self]
    rfl
  rw [eA, es, eB] at eB'
  rw [eB']
  clear eB'
  cases j with
  | zero =>
    refine .inl ⟨rfl, besideL s LB hj rB nB (by show 0 < 1000; decide) fun H2 k2 e2 => ?_⟩
    have ev : mn (p.bd 0) (vC p.cs 0) = p.valu 1 := by show _ = mn (p.bd 0) (vC p.cs 0 + 0); rw [Int.add_zero]
    show (∀ c o, _ → _) → _
    rw [ev]
    have r2 := k2 _ _ (by simpa using nrn) rB
    refine fin H2 nts (k2.mono (by simp)) ?_ (fun i hi => absurd hi (Nat.not_lt_zero i)) e2 r2
    rw [p.stU_zero, p.nsU_zero]
    refine LB.kp k2 fun x hx => ?_
    obtain rfl : x = nt' := by simpa using hx
    exact ⟨LB.out nB (.inr ⟨nsd, fun i hi => absurd hi (Nat.not_lt_zero i)⟩) (.inl (by show ¬ (1 = 2); decide)) (.inl (by show ¬ (1 = 3); decide)) (by show ¬ (1 = 13); decide) (.inl (by show ¬ (1 = 17); decide)), nfn.symm, nrn2.symm⟩
  | succ i =>
    have nz : (Sum.inr (zC p.cs (i + 1)) : Key) ≠ Sum.inr (nmA i) := fun e => by
      obtain ⟨c, hc, _, ez, _⟩ := s.at_ hj
      exact s.nz c hc i (by omega) (by rw [← ez]; exact Sum.inr.inj e)
    cases hcf : p.cf (i + 1) with
    | true =>
      refine .inr (.inl ⟨Nat.succ_pos i, rfl, besideL s LB hj rB nB (by show 0 < 1000; decide) fun H2 k2 e2 => ?_⟩)
      have L2' : Lad FC CC KC p H2 (.ref r) st (bump (i + 1) ns) nts (i + 1) := LB.kp k2 fun x hx => by
        obtain rfl : x = nt' := by simpa using hx
        exact ⟨LB.out nB (.inr ⟨nsd, fun i hi e => nnt i hi e.symm⟩) (.inl (by show ¬ (1 = 2); decide)) (.inl (by show ¬ (1 = 3); decide)) (by show ¬ (1 = 13); decide) (.inl (by show ¬ (1 = 17); decide)), nfn.symm, nrn2.symm⟩
      have r2 := k2 _ _ (by simpa using nrn) rB
      have F2 : ∀ k ≤ i, ∃ d, Free RC H2 (nmA k) d (.ref r) := fun k hk => by
        obtain ⟨d, hd⟩ := FB k (by omega)
        refine ⟨d, Free.kpS k2 (fun x hx o ho => ?_) hd⟩
        obtain rfl : x = nt' := by simpa using hx
        rw [nB] at ho; cases ho; exact (by decide : ¬ (1 = 15))
      refine belowL (C i rfl) (by omega) L2' r2 e2 (by show 1 < 1000; decide) (fun k hk => nnt k (by omega)) nsd F2 fun H3 nts' k3 h3 fr e3 r3 => ?_
      show (∀ c o, _ → _) → _
      refine fin H3 nts' ((k2.mono (by simp)).trans k3) h3 (fun k hk => ?_) ?_ r3
      · rcases fr k (by omega) with z | z
        · exact .inl z
        · refine .inr ?_
          cases e : HB (nts' k) with
          | none => rfl
          | some u =>
            by_cases hx : nts' k = nt'
            · rw [hx, e2] at z; cases z
            · rw [k2 _ u (by simpa using hx) e] at z; cases z
      · rw [e3, setd_nil, setd_one nz]
        rw [p.kvs_t _ hcf]
        rfl
    | false =>
      refine .inr (.inr ⟨Nat.succ_pos i, rfl, belowL (C i rfl) (by omega) LB rB nB (by show 0 < 1000; decide) (fun k hk => nnt k (by omega)) nsd (fun k hk => FB k (by omega)) fun H2 nts' k2 h2 fr e2 r2 => ?_⟩)
      refine besideL s h2 hj r2 e2 (by show 1 < 1000; decide) fun H3 k3 e3 => ?_
      have ev : mn (p.bd (i + 1)) (p.valu (i + 1) + vC p.cs (i + 1)) = p.valu (i + 1 + 1) := by show _ = mn (p.bd (i + 1)) (vC p.cs (i + 1) + p.valu (i + 1)); rw [Int.add_comm]
      show (∀ c o, _ → _) → _
      rw [ev]
      have r3 := k3 _ _ (by simpa using nrn) r2
      refine fin H3 nts' (k2.trans (k3.mono (by simp))) (h2.kp k3 fun x hx => ?_) (fun k hk => fr k (by omega)) ?_ r3
      · obtain rfl : x = nt' := by simpa using hx
        refine ⟨h2.out e2 (.inr ⟨nsd, fun k hk e => ?_⟩) (.inl (by show ¬ (1 = 2); decide)) (.inl (by show ¬ (1 = 3); decide)) (by show ¬ (1 = 13); decide) (.inl (by show ¬ (1 = 17); decide)), nfn.symm, nrn2.symm⟩
        rcases fr k (by omega) with z | z
        · exact nnt k hk (by rw [← z]; exact e.symm)
        · rw [← e, nB] at z; cases z
      · rw [e3, setd_nil, setd_one nz.symm]
        rw [p.kvs_f _ hcf]
        rfl
end
end My

set_option Elab.async false
set_option linter.all false
set_option maxRecDepth 100000
set_option maxHeartbeats 4000000
/-! G6: reading an answer of a ladder. -/
namespace My
open PySem PySem.Spec PyProof.Rows L2 LamX NdefX
def spCN (P : Program) (w : World) (K : PySem.W.Frag) (mg : Str → Option Value) (base : Heap) (FC CC KC RC : Addr) : Nat → Sp
  | 0 => fun _ _ _ _ => False
  | n + 1 => spCurN P w K mg base FC CC KC RC (6 * n + 4) (spCN P w K mg base FC CC KC RC n)
theorem valV_none {kvs : List (Key × V)} {k : Key} (h : ∀ x ∈ kvs, x.1 ≠ k) : valV kvs k = none := by
  induction kvs with
  | nil => rfl
  | cons x r ih =>
    rw [valV_neg (p := x) (h x (by simp))]
    exact ih fun y hy => h y (List.mem_cons_of_mem _ hy)
theorem valV_uniq {kvs : List (Key × V)} {k : Key} {v : V} (hm : (k, v) ∈ kvs) (h : ∀ x ∈ kvs, x.1 = k → x.2 = v) : valV kvs k = some v := by
  induction kvs with
  | nil => cases hm
  | cons x r ih =>
    by_cases e : x.1 = k
    · rw [valV_pos (p := x) e, h x (by simp) e]
    · rw [valV_neg (p := x) e]
      refine ih ?_ fun y hy => h y (List.mem_cons_of_mem _ hy)
      rcases List.mem_cons.mp hm with rfl | hm
      · exact absurd rfl e
      · exact hm
section
variable {P : Program} {w : World} {K : PySem.W.Frag} {mg : Str → Option Value} {base : Heap} {FC DC CC RC KC : Addr} {p : LPm} {H H' HL : Hp} {inm inm' : V} {st st' : Sta} {ns ns' : Nat → Nat} {nts nts' : Nat → Addr} {m j i : Nat} {spC : Sp} {v : Int} {r : List (Key × V)} {ok : Hp → Prop} {R : Bool → Hp → Prop} {x : Addr}
theorem LadS.srcC (s : LadS p) {c : Ce} (hc : c ∈ p.cs) : valV p.src (Sum.inr c.z) = some (.ref c.a) := by
  unfold LPm.src
  rw [valV_app, valV_cell hc s.zs]
theorem LadS.srcA (s : LadS p) (hi : i < p.n) : valV p.src (Sum.inr (nmA i)) = some (.ref (p.a i)) := by
  unfold LPm.src
  rw [valV_app, valV_none (kvs := cellsT p.cs) fun x hx => ?_]
  · refine valV_uniq (List.mem_map.mpr ⟨i, List.mem_range.mpr hi, rfl⟩) fun x hx e => ?_
    obtain ⟨k, hk, rfl⟩ := List.mem_map.mp hx
    rw [s.nm k i (List.mem_range.mp hk) hi (Sum.inr.inj e)]
  · obtain ⟨c, hc, rfl⟩ := List.mem_map.mp hx
    exact fun e => s.nz c hc i hi (Sum.inr.inj e)
theorem Lad.low (h : Lad FC CC KC p H' inm st ns nts m) (k : Kp (p.ch j) H H') (hj : ∀ i < j, ∃ o, H' (p.a i) = some o) (e : H' x = none) : H x = none := by
  cases hx : H x with
  | none => rfl
  | some o =>
    by_cases hm : x ∈ p.ch j
    · rcases List.mem_cons.mp hm with z | hm
      · rw [z, h.hrl] at e; cases e
      · rcases List.mem_cons.mp hm with z | hm
        · rw [z, h.fl] at e; cases e
        · obtain ⟨i, hi, z⟩ := List.mem_map.mp hm
          obtain ⟨o, ho⟩ := hj i (List.mem_range.mp hi)
          rw [← z, ho] at e; cases e
    · rw [k x o hm hx] at e; cases e
/-- one rung more -/
theorem Lad.add (h : Lad FC CC KC p H inm st ns nts j) (y : LamAt p H j) {a : Option (Int × Int)} {nt : Addr} (me : H (p.a j) = some (.ins KC (p.ax j) (keptF (nmA j) (ns j : Nat) p.D.f (p.wk j) a.isSome (p.res j a) nt))) (hn : H nt = some (.dK (p.kvs j a))) (nsd : nt ≠ p.D.sD) (nnt : ∀ i < j, nts i ≠ nt) (e1 : ∀ i < j, st' i = st i) (e2 : st' j = a) (z0 : ∀ x, st' 0 = some x → x.2 = 0) :
    Lad FC CC KC p H inm st' ns (fun i => if i = j then nt else nts i) (j + 1) := by
  refine ⟨h.fl, h.srs, h.hce, h.hal, h.hrl, h.cell, fun i hi => ?_, fun i hi => ?_, fun i hi => ?_, fun i k hi hk e => ?_, z0⟩
  · by_cases e : i = j
    · exact e ▸ y
    · exact h.lam i (by omega)
  · by_cases e : i = j
    · subst e
      rw [e2, if_pos rfl]; exact me
    · rw [e1 i (by omega), if_neg e]; exact h.me i (by omega)
  · by_cases e : i = j
    · subst e
      rw [e2, if_pos rfl]; exact ⟨hn, nsd⟩
    · rw [e1 i (by omega), if_neg e]; exact h.nt i (by omega)
  · by_cases a : i = j <;> by_cases b : k = j
    · rw [a, b]
    · have e : (if i = j then nt else nts i) = if k = j then nt else nts k := e
      rw [if_pos a, if_neg b] at e
      exact absurd e.symm (nnt k (by omega))
    · have e : (if i = j then nt else nts i) = if k = j then nt else nts k := e
      rw [if_neg a, if_pos b] at e
      exact absurd e (nnt i (by omega))
    · have e : (if i = j then nt else nts i) = if k = j then nt else nts k := e
      rw [if_neg a, if_neg b] at e
      exact h.ntd i k (by omega) (by omega) e
theorem LamAt.kp {S : List Addr} (y : LamAt p H j) (k : Kp S H H') (n : ∀ x ∈ S, ∀ o, H x = some o → kindO o ≠ 3) : LamAt p H' j :=
  ⟨k _ _ (fun z => n _ z _ y.lam rfl) y.lam, k _ _ (fun z => n _ z _ y.code rfl) y.code, fun c o e => k _ _ (fun z => n _ z _ (y.cap c o e) rfl) (y.cap c o e)⟩
/-- a note of a cell is held against it -/
theorem ordC (s : LadS p) (h : Lad FC CC KC p HL inm st ns nts m) (hi : i < p.n) (q : ∀ H1, Kp [] HL H1 → ok H1 ∧ if vC p.cs i = v then ordL (curQ CC KC spC) ok p.src r H1 R else R false H1) : ordL (curQ CC KC spC) ok p.src ((Sum.inr (zC p.cs i), V.int v) :: r) HL R := fun H1 k1 => by
  obtain ⟨c, hc, ei, ez, ev⟩ := s.at_ hi
  refine ⟨_, c.a, v, rfl, by rw [ez]; exact s.srcC hc, .inl ⟨c.ax, p.D.f, c.z, c.v, k1 _ _ (by simp) (h.cell c hc), (q H1 k1).1, c.v, rfl, ?_⟩⟩
  rw [← ev]; exact (q H1 k1).2
/-- a note of an answer is held against it -/
theorem ordA (s : LadS p) (C : Climb FC CC KC RC p spC i) (h : Lad FC CC KC p HL inm st ns nts (i + 1)) (hi : i < p.n) (hF : ∀ k ≤ i, ∃ d, Free RC HL (nmA k) d inm) (q : ∀ H1 nts', Kp (p.ch (i + 1)) HL H1 → Lad FC CC KC p H1 inm (p.stU (i + 1) st) (p.nsU (i + 1) st ns) nts' (i + 1) → (∀ k ≤ i, nts' k = nts k ∨ HL (nts' k) = none) →
    ok H1 ∧ if p.valu (i + 1) = v then ordL (curQ CC KC spC) ok p.src r H1 R else R false H1) : ordL (curQ CC KC spC) ok p.src ((Sum.inr (nmA i), V.int v) :: r) HL R := fun H1 k1 => by
  have h1 := h.kp k1 (fun x hx => absurd hx (by simp))
  refine ⟨_, p.a i, v, rfl, s.srcA hi, .inr ⟨p.ax i, _, h1.me i (Nat.lt_succ_self i), rfl, _, C H1 inm st ns nts _ h1 (fun k hk => (hF k hk).imp fun d hd => Free.kp k1 hd) fun H2 nts' k2 h2 fr => ?_, fun v H' h => h⟩⟩
  have low : ∀ x, H1 x = none → HL x = none := fun x e => by
    cases hx : HL x with
    | none => rfl
    | some o => rw [k1 x o (by simp) hx] at e; cases e
  have qq := q H2 nts' ((k1.mono (by simp)).trans k2) h2 fun k hk => (fr k hk).imp id (low _)
  exact ⟨qq.1, _, rfl, qq.2⟩
theorem LPm.stU_lt (p : LPm) {i j : Nat} (st : Sta) (h : i < j) : p.stU j st i = some (p.tgt i) := if_pos h
theorem LPm.stU_idem (p : LPm) (j : Nat) (st : Sta) : p.stU j (p.stU j st) = p.stU j st := by
  funext i; unfold LPm.stU
  by_cases h : i < j
  · rw [if_pos h, if_pos h]
  · rw [if_neg h]
theorem LPm.nsU_idem (p : LPm) (j : Nat) (st : Sta) (ns : Nat → Nat) : p.nsU j (p.stU j st) ns = ns := by
  funext i; unfold LPm.nsU
  rw [if_neg (fun h => h.2 (p.stU_lt st h.1))]
theorem LPm.nsU_ne (p : LPm) {j : Nat} {st : Sta} (ns : Nat → Nat) (h : st j ≠ some (p.tgt j)) : p.nsU (j + 1) st ns = bump j (p.nsU j st ns) := by
  funext i
  by_cases e : i = j
  · subst e
    rw [bump_self, p.nsU_self]
    unfold LPm.nsU
    rw [if_pos ⟨Nat.lt_succ_self i, h⟩]
  · rw [bump_ne e]
    unfold LPm.nsU
    by_cases c : i < j ∧ st i ≠ some (p.tgt i)
    · rw [if_pos c, if_pos ⟨by omega, c.2⟩]
    · rw [if_neg c, if_neg fun d => c ⟨by omega, d.2⟩]
theorem LPm.nsU_eq (p : LPm) {j : Nat} {st : Sta} (ns : Nat → Nat) (h : st j = some (p.tgt j)) : p.nsU (j + 1) st ns = p.nsU j st ns := by
  funext i
  unfold LPm.nsU
  by_cases c : i < j ∧ st i ≠ some (p.tgt i)
  · rw [if_pos c, if_pos ⟨by omega, c.2⟩]
  · rw [if_neg c, if_neg fun d => ?_]
    by_cases e : i = j
    · exact d.2 (e ▸ h)
    · exact c ⟨by omega, d.2⟩
theorem Lad.z0U (h : Lad FC CC KC p H inm st ns nts m) (j : Nat) : ∀ x, p.stU j st 0 = some x → x.2 = 0 := fun x e => by
  by_cases c : 0 < j
  · rw [p.stU_lt st c] at e; cases e; rfl
  · have : j = 0 := by omega
    subst this
    rw [p.stU_zero] at e
    exact h.z0 x e
/-- THE RULE: reading answer j -/
theorem climb (s : LadS p) (W : ∀ j < p.n, ∃ (fW : Addr) (dW : FuncData), LD P w K mg base "_law_work" (6 * j + 3) N6 (spWork FC CC KC RC (spCN P w K mg base FC CC KC RC j)) fW dW) : ∀ j, j < p.n → Climb FC CC KC RC p (spCN P w K mg base FC CC KC RC (j + 1)) j := by
  intro j
  induction j with
  | zero => exact fun hj => go 0 hj fun i e => absurd e (Nat.succ_ne_zero i)
  | succ i ih => exact fun hj => go (i + 1) hj fun k e => by cases e; exact ih (by omega)
where
  go (j : Nat) (hj : j < p.n) (C : ∀ i, i + 1 = j → Climb FC CC KC RC p (spCN P w K mg base FC CC KC RC j) i) : Climb FC CC KC RC p (spCN P w K mg base FC CC KC RC (j + 1)) j := by
    intro H inm st ns nts Q h hF k
    obtain ⟨fW, dW, WJ⟩ := W j hj
    obtain ⟨d, hd⟩ := hF j (Nat.le_refl j)
    have jj := Nat.lt_succ_self j
    have me := h.me j jj
    have naf : p.a j ≠ p.D.f := fun e => by
      rw [e, h.fl] at me
      exact absurd (congrArg List.length (HO.ins.inj (Option.some.inj me)).2.2) (by show ¬ (9 : Nat) = 7; decide)
    have haj : p.a j ∉ p.ch j := h.chOut (Nat.le_of_lt jj) me (.inl (by show ¬ (7 + 10 = 2); decide)) (by show ¬ (7 + 10 = 19); decide) (.inr fun i hi e => Nat.ne_of_gt hi (s.aa _ _ hj (by omega) e))
    have noL : ∀ {H' : Hp} {st' ns' nts' m'}, Lad FC CC KC p H' inm st' ns' nts' m' → j ≤ m' → ∀ x ∈ p.ch j, ∀ o, H' x = some o → kindO o ≠ 3 := fun {H' st' ns' nts' m'} h' e x hx o ho => by
      rcases List.mem_cons.mp hx with z | hx
      · rw [z, h'.hrl] at ho; cases ho; exact (by decide : ¬ (2 = 3))
      · rcases List.mem_cons.mp hx with z | hx
        · rw [z, h'.fl] at ho; cases ho; exact (by decide : ¬ (9 + 10 = 3))
        · obtain ⟨i, hi, z⟩ := List.mem_map.mp hx
          rw [← z, h'.me i (Nat.lt_of_lt_of_le (List.mem_range.mp hi) e)] at ho; cases ho; exact (by decide : ¬ (7 + 10 = 3))
    -- the work, when all below stands at H' as it may
    have run : ∀ {H' : Hp} {st' : Sta} {ns' : Nat → Nat} {nts' : Nat → Addr}, Kp (p.ch j) H H' → Lad FC CC KC p H' inm st' ns' nts' j → (∀ i < j, nts' i = nts i ∨ H (nts' i) = none) → p.stU j st' = p.stU j st → p.nsU j st' ns' = p.nsU j st ns → ns' j = ns j → st j ≠ some (p.tgt j) →
        WKs P w K mg base FC KC RC (6 * j + 4) (p.a j) (p.ax j) p.D.f p.D.fx (nts j) (p.wk j) (floorG p.D.nD p.D.cD p.D.sD p.D.eL p.D.lL inm p.tD) (nmA j) (ns j : Nat) inm H' Q := fun {H' st' ns' nts'} k' h' fr es en ej hne => by
      have me' := k' _ _ haj me
      have y' : LamAt p H' j := (h.lam j jj).kp k' (noL h (Nat.le_of_lt jj))
      have lw : ∀ {x}, H' x = none → H x = none := fun e => h'.low k' (fun i hi => ⟨_, h'.me i hi⟩) e
      have F' : ∀ i < j, ∃ d, Free RC H' (nmA i) d inm := fun i hi => (hF i (by omega)).imp fun d hd => Free.kpS k' (h.noRun (Nat.le_of_lt jj)) hd
      have t := runJ (R := Q) s hj WJ C h' y' (by rw [ej]; exact me') F' fun H3 nts3 nt3 k3 h3 fr3 hn0 nn3 a3 n3 => ?_
      · rw [ej] at t; exact t
      · rw [es, en] at h3
        have y3 : LamAt p H3 j := y'.kp k3 fun x hx o ho => by
          rcases List.mem_cons.mp hx with z | hx
          · rw [z, h'.hrl] at ho; cases ho; exact (by decide : ¬ (2 = 3))
          · rcases List.mem_cons.mp hx with z | hx
            · rw [z, h'.fl] at ho; cases ho; exact (by decide : ¬ (9 + 10 = 3))
            · obtain ⟨i, hi, z⟩ := List.mem_map.mp hx
              rcases Nat.lt_or_eq_of_le (Nat.le_of_lt_succ (List.mem_range.mp hi)) with hi | hi
              · rw [← z, h'.me i hi] at ho; cases ho; exact (by decide : ¬ (7 + 10 = 3))
              · rw [← z, hi, me'] at ho; cases ho; exact (by decide : ¬ (7 + 10 = 3))
        have nsd : nt3 ≠ p.D.sD := fun e => by rw [e, h'.srs] at hn0; cases hn0
        have eb : bump j (p.nsU j st ns) j = ns j + 1 := by rw [bump_self, p.nsU_self]
        have h4 := h3.add (st' := p.stU (j + 1) st) (a := some (p.tgt j)) y3 (by rw [eb, p.res_tgt]; rw [ej] at a3; exact a3) n3 nsd nn3 (fun i hi => by rw [p.stU_lt st (by omega), p.stU_lt st hi]) (p.stU_lt st jj) (h.z0U (j + 1))
        rw [← p.nsU_ne ns hne] at h4
        refine k H3 _ ((k'.mono (p.ch_sub (Nat.le_succ j))).trans k3) h4 fun i hi => ?_
        by_cases e : i = j
        · refine .inr ?_
          show H (if i = j then nt3 else nts3 i) = none
          rw [if_pos e]; exact lw hn0
        · show (if i = j then nt3 else nts3 i) = nts i ∨ H (if i = j then nt3 else nts3 i) = none
          rw [if_neg e]
          rcases fr3 i (by omega) with z | z
          · rw [z]; exact fr i (by omega)
          · exact .inr (lw z)
    refine ⟨p.a j, p.ax j, p.D.f, p.D.fx, p.D.nD, p.D.cD, p.D.sD, p.D.eL, p.D.lL, p.tD, nts j, p.wk j, inm, nmA j, _, _, _, p.src, p.kvs j (st j), d, rfl, me, h.fl, naf, lamO_fn (h.lam j jj).lam, hd, h.srs, (h.nt j jj).1, (h.nt j jj).2, ?_⟩
    cases hst : st j with
    | none => exact .inl ⟨rfl, run (Kp.refl H) (h.le (Nat.le_of_lt jj)) (fun i hi => .inl rfl) rfl rfl rfl (by rw [hst]; exact fun z => by cases z)⟩
    | some x =>
      refine .inr ⟨rfl, fun od => ?_⟩
      have hn := (h.nt j jj).1
      rw [hst] at hn me
      obtain ⟨HL, eL⟩ : ∃ HL, upd H (nts j) (.frz od (.dK (p.kvs j (some x)))) = HL := ⟨_, rfl⟩
      rw [eL]
      have nL : HL (nts j) = some (.frz od (.dK (p.kvs j (some x)))) := by rw [← eL]; exact upd_same
      have kL : Kp [nts j] H HL := by rw [← eL]; exact Kp.put (by simp)
      have hL : Lad FC CC KC p HL inm st ns nts j := (h.le (Nat.le_of_lt jj)).kp kL fun y hy => by
        obtain rfl : y = nts j := by simpa using hy
        refine ⟨(h.le (Nat.le_of_lt jj)).out hn (.inr ⟨(h.nt j jj).2, fun i hi e => Nat.ne_of_gt hi (h.ntd j i jj (by omega) e)⟩) (.inl (by show ¬ (1 = 2); decide)) (.inl (by show ¬ (1 = 3); decide)) (by show ¬ (1 = 13); decide) (.inl (by show ¬ (1 = 17); decide)), fun e => ?_, fun e => ?_⟩
        · rw [e, h.fl] at hn; cases hn
        · rw [e, h.hrl] at hn; cases hn
      have FL : ∀ i ≤ j, ∃ d, Free RC HL (nmA i) d inm := fun i hi => (hF i hi).imp fun d hd => Free.kpS kL (fun y hy o ho => by
        obtain rfl : y = nts j := by simpa using hy
        rw [hn] at ho; cases ho; exact (by decide : ¬ (1 = 15))) hd
      have lowL : ∀ {y}, HL y = none → H y = none := fun {y} e => by
        by_cases hy : y = nts j
        · rw [hy, nL] at e; cases e
        · cases z : H y with
          | none => rfl
          | some o => rw [kL y o (by simpa using hy) z] at e; cases e
      -- behind the check
      have back : ∀ {H' : Hp}, Kp (p.ch j) HL H' → Kp (p.ch j) H (upd H' (nts j) (.dK (p.kvs j (some x)))) := fun {H'} k' b u nb e => by
        by_cases hb : b = nts j
        · rw [hb, upd_same, ← hn, ← hb]; exact e
        · rw [upd_ne hb]; exact k' b u nb (kL b u (by simpa using hb) e)
      have lad : ∀ {H' : Hp} {st' : Sta} {ns' : Nat → Nat} {nts' : Nat → Addr}, Kp (p.ch j) HL H' → Lad FC CC KC p H' inm st' ns' nts' j → Lad FC CC KC p (upd H' (nts j) (.dK (p.kvs j (some x)))) inm st' ns' nts' j := fun {H' st' ns' nts'} k' h' => by
        have n' : H' (nts j) = some (.frz od (.dK (p.kvs j (some x)))) := k' _ _ (hL.chOut (Nat.le_refl _) nL (.inl (by show ¬ (4 = 2); decide)) (by show ¬ (4 = 19); decide) (.inl (by show ¬ (4 = 17); decide))) nL
        refine h'.kp (Kp.put (S := [nts j]) (by simp)) fun y hy => ?_
        obtain rfl : y = nts j := by simpa using hy
        refine ⟨h'.out n' (.inl (by show ¬ (4 = 1); decide)) (.inl (by show ¬ (4 = 2); decide)) (.inl (by show ¬ (4 = 3); decide)) (by show ¬ (4 = 13); decide) (.inl (by show ¬ (4 = 17); decide)), fun e => ?_, fun e => ?_⟩
        · rw [e, h'.fl] at n'; cases n'
        · rw [e, h'.hrl] at n'; cases n'
      have stp : ∀ {H' : Hp} {st' : Sta} {ns' : Nat → Nat} {nts' : Nat → Addr}, Kp (p.ch j) HL H' → Lad FC CC KC p H' inm st' ns' nts' j → StepOk FC H' p.D.f p.D.fx p.D.sD (nts j) (floorG p.D.nD p.D.cD p.D.sD p.D.eL p.D.lL inm p.tD) p.src od (p.kvs j (some x)) := fun {H' st' ns' nts'} k' h' =>
        ⟨h'.fl, h'.srs, k' _ _ (hL.chOut (Nat.le_refl _) nL (.inl (by show ¬ (4 = 2); decide)) (by show ¬ (4 = 19); decide) (.inl (by show ¬ (4 = 17); decide))) nL⟩
      have pre : ∀ {H' : Hp} {st' : Sta} {ns' : Nat → Nat} {nts' : Nat → Addr} (k' : Kp (p.ch j) HL H') (h' : Lad FC CC KC p H' inm st' ns' nts' j), upd H' (nts j) (.dK (p.kvs j (some x))) (p.a j) = some (.ins KC (p.ax j) (keptF (nmA j) (ns j : Nat) p.D.f (p.wk j) true (p.res j (some x)) (nts j))) ∧
          upd H' (nts j) (.dK (p.kvs j (some x))) p.D.f = some (.ins FC p.D.fx (floorG p.D.nD p.D.cD p.D.sD p.D.eL p.D.lL inm p.tD)) ∧ IsFnO (upd H' (nts j) (.dK (p.kvs j (some x)))) (p.wk j) := fun {H' st' ns' nts'} k' h' =>
        ⟨back k' _ _ haj me, (lad k' h').fl, lamO_fn ((h.lam j jj).kp (back k') (noL h (Nat.le_of_lt jj))).lam⟩
      have finF : ∀ {H' : Hp} {st' : Sta} {ns' : Nat → Nat} {nts' : Nat → Addr}, Kp (p.ch j) HL H' → Lad FC CC KC p H' inm st' ns' nts' j → (∀ i < j, nts' i = nts i ∨ HL (nts' i) = none) → p.stU j st' = p.stU j st → p.nsU j st' ns' = p.nsU j st ns → ns' j = ns j → some x ≠ some (p.tgt j) →
          upd H' (nts j) (.dK (p.kvs j (some x))) (p.a j) = some (.ins KC (p.ax j) (keptF (nmA j) (ns j : Nat) p.D.f (p.wk j) true (p.res j (some x)) (nts j))) ∧ upd H' (nts j) (.dK (p.kvs j (some x))) p.D.f = some (.ins FC p.D.fx (floorG p.D.nD p.D.cD p.D.sD p.D.eL p.D.lL inm p.tD)) ∧ IsFnO (upd H' (nts j) (.dK (p.kvs j (some x)))) (p.wk j) ∧
          WKs P w K mg base FC KC RC (6 * j + 4) (p.a j) (p.ax j) p.D.f p.D.fx (nts j) (p.wk j) (floorG p.D.nD p.D.cD p.D.sD p.D.eL p.D.lL inm p.tD) (nmA j) (ns j : Nat) inm (upd H' (nts j) (.dK (p.kvs j (some x)))) Q := fun {H' st' ns' nts'} k' h' fr es en ej hne => by
        obtain ⟨a1, a2, a3⟩ := pre k' h'
        exact ⟨a1, a2, a3, run (back k') (lad k' h') (fun i hi => (fr i hi).imp id lowL) es en ej (by rw [hst]; exact hne)⟩
      have finT : ∀ {H' : Hp} {nts' : Nat → Addr}, Kp (p.ch j) HL H' → Lad FC CC KC p H' inm (p.stU j st) (p.nsU j st ns) nts' j → (∀ i < j, nts' i = nts i ∨ HL (nts' i) = none) → x = p.tgt j → Q (p.res j (some x)) (upd H' (nts j) (.dK (p.kvs j (some x)))) := fun {H' nts'} k' h' fr e => by
        have K2 := back k'
        have y2 := (h.lam j jj).kp K2 (noL h (Nat.le_of_lt jj))
        have ht : st j = some (p.tgt j) := by rw [hst, e]
        have nn : ∀ i < j, nts' i ≠ nts j := fun i hi q => by
          rcases fr i hi with z | z
          · exact Nat.ne_of_lt hi (h.ntd i j (by omega) jj (z.symm.trans q))
          · rw [q, nL] at z; cases z
        have h4 := (lad k' h').add (st' := p.stU (j + 1) st) (a := some x) (nt := nts j) y2 (by rw [p.nsU_self]; exact (pre k' h').1) upd_same (h.nt j jj).2 nn (fun i hi => by rw [p.stU_lt st (by omega), p.stU_lt st hi]) (by rw [e]; exact p.stU_lt st jj) (h.z0U (j + 1))
        rw [← p.nsU_eq ns ht] at h4
        have hk := k _ _ (K2.mono (p.ch_sub (Nat.le_succ j))) h4 fun i hi => ?_
        · rw [← p.res_tgt, ← e] at hk; exact hk
        · show (if i = j then nts j else nts' i) = nts i ∨ H (if i = j then nts j else nts' i) = none
          by_cases c : i = j
          · rw [if_pos c, c]; exact .inl rfl
          · rw [if_neg c]; exact (fr i (by omega)).imp id lowL
      cases j with
      | zero =>
        have ex : p.kvs 0 (some x) = [(Sum.inr (zC p.cs 0), .int x.1)] := rfl
        have x2 : x.2 = 0 := h.z0 x hst
        show ordL _ _ _ (p.kvs 0 (some x)) _ _
        conv => arg 4; rw [ex]
        refine ordC s hL hj fun H1 k1 => ?_
        have k1' : Kp (p.ch 0) HL H1 := k1.mono (by simp)
        have h1 := hL.kp k1 (fun x hx => absurd hx (by simp))
        refine ⟨stp k1' h1, ?_⟩
        by_cases e : vC p.cs 0 = x.1
        · rw [if_pos e]
          intro _
          obtain ⟨a1, a2, a3⟩ := pre k1' h1
          refine ⟨a1, a2, a3, ?_⟩
          rw [if_pos rfl]
          refine finT k1' (by rw [p.stU_zero, p.nsU_zero]; exact h1) (fun i hi => absurd hi (Nat.not_lt_zero i)) ?_
          show x = (vC p.cs 0, 0)
          rw [e, ← x2]
        · rw [if_neg e]
          intro _
          obtain ⟨a1, a2, a3, a4⟩ := finF k1' h1 (fun i hi => absurd hi (Nat.not_lt_zero i)) rfl rfl rfl fun z => e (by rw [Option.some.inj z]; rfl)
          exact ⟨a1, a2, a3, by rw [if_neg (by decide)]; exact a4⟩
      | succ i =>
        have Ci := C i rfl
        cases hcf : p.cf (i + 1) with
        | true =>
          have ex : p.kvs (i + 1) (some x) = [(Sum.inr (zC p.cs (i + 1)), .int x.1), (Sum.inr (nmA i), .int x.2)] := p.kvs_t x hcf
          conv => arg 4; rw [ex]
          refine ordC s hL hj fun H1 k1 => ?_
          have k1' : Kp (p.ch (i + 1)) HL H1 := k1.mono (by simp)
          have h1 := hL.kp k1 (fun x hx => absurd hx (by simp))
          refine ⟨stp k1' h1, ?_⟩
          by_cases e : vC p.cs (i + 1) = x.1
          · rw [if_pos e]
            refine ordA s Ci h1 (by omega) (fun k hk => (FL k (by omega)).imp fun d hd => Free.kp k1 hd) fun H2 nts2 k2 h2 fr2 => ?_
            have k2' := k1'.trans k2
            have low1 : ∀ {y}, H1 y = none → HL y = none := fun {y} e => by
              cases z : HL y with
              | none => rfl
              | some o => rw [k1 y o (by simp) z] at e; cases e
            have fr2' : ∀ k < i + 1, nts2 k = nts k ∨ HL (nts2 k) = none := fun k hk => (fr2 k (by omega)).imp id low1
            refine ⟨stp k2' h2, ?_⟩
            by_cases e2 : p.valu (i + 1) = x.2
            · rw [if_pos e2]
              intro _
              obtain ⟨a1, a2, a3⟩ := pre k2' h2
              refine ⟨a1, a2, a3, ?_⟩
              rw [if_pos rfl]
              exact finT k2' h2 fr2' (by show x = (vC p.cs (i + 1), p.valu (i + 1)); rw [e, e2])
            · rw [if_neg e2]
              intro _
              obtain ⟨a1, a2, a3, a4⟩ := finF k2' h2 fr2' (p.stU_idem _ _) (p.nsU_idem _ _ _) (p.nsU_self _ _ _) fun z => e2 (by rw [Option.some.inj z]; rfl)
              exact ⟨a1, a2, a3, by rw [if_neg (by decide)]; exact a4⟩
          · rw [if_neg e]
            intro _
            obtain ⟨a1, a2, a3, a4⟩ := finF k1' h1 (fun i hi => .inl rfl) rfl rfl rfl fun z => e (by rw [Option.some.inj z]; rfl)
            exact ⟨a1, a2, a3, by rw [if_neg (by decide)]; exact a4⟩
        | false =>
          have ex : p.kvs (i + 1) (some x) = [(Sum.inr (nmA i), .int x.2), (Sum.inr (zC p.cs (i + 1)), .int x.1)] := p.kvs_f x hcf
          conv => arg 4; rw [ex]
          refine ordA s Ci hL (by omega) (fun k hk => FL k (by omega)) fun H2 nts2 k2 h2 fr2 => ?_
          have fr2' : ∀ k < i + 1, nts2 k = nts k ∨ HL (nts2 k) = none := fun k hk => fr2 k (by omega)
          refine ⟨stp k2 h2, ?_⟩
          by_cases e2 : p.valu (i + 1) = x.2
          · rw [if_pos e2]
            refine ordC s h2 hj fun H3 k3 => ?_
            have k3' : Kp (p.ch (i + 1)) HL H3 := k2.trans (k3.mono (by simp))
            have h3 := h2.kp k3 (fun x hx => absurd hx (by simp))
            refine ⟨stp k3' h3, ?_⟩
            by_cases e : vC p.cs (i + 1) = x.1
            · rw [if_pos e]
              intro _
              obtain ⟨a1, a2, a3⟩ := pre k3' h3
              refine ⟨a1, a2, a3, ?_⟩
              rw [if_pos rfl]
              exact finT k3' h3 fr2' (by show x = (vC p.cs (i + 1), p.valu (i + 1)); rw [e, e2])
            · rw [if_neg e]
              intro _
              obtain ⟨a1, a2, a3, a4⟩ := finF k3' h3 fr2' (p.stU_idem _ _) (p.nsU_idem _ _ _) (p.nsU_self _ _ _) fun z => e (by rw [Option.some.inj z]; rfl)
              exact ⟨a1, a2, a3, by rw [if_neg (by decide)]; exact a4⟩
          · rw [if_neg e2]
            intro _
            obtain ⟨a1, a2, a3, a4⟩ := finF k2 h2 fr2' (p.stU_idem _ _) (p.nsU_idem _ _ _) (p.nsU_self _ _ _) fun z => e2 (by rw [Option.some.inj z]; rfl)
            exact ⟨a1, a2, a3, by rw [if_neg (by decide)]; exact a4⟩
end
end My

set_option Elab.async false
set_option linter.all false
set_option maxRecDepth 100000
set_option maxHeartbeats 8000000
/-! G7: an answer of a ladder is made; a desk's item is put. -/
namespace My
open PySem PySem.Spec PyProof.Rows L2 LamX NdefX
/-- a def of the written part, and its code object -/
structure FunC (K : PySem.W.Frag) (x qual : Str) (st : Stmt) (f : Addr) (fd : FuncData) (c : Addr) : Prop where
  ex : ∃ (oc : Value) (od : Option Addr) (kV doc pm : Value) (an : Option Addr) (ct : Value) (osl : Array (Option Value)), fd = PySem.W.fnOf x qual (defArgs st) (defBody st) (defScope st) .none kV doc pm an (.ref c) ct ∧
    K.lookup f = some ⟨oc, od, .func (PySem.W.fnOf x qual (defArgs st) (defBody st) (defScope st) .none kV doc pm an (.ref c) ct), osl⟩ ∧ PySem.W.codeIn K (.ref c) qual = true
theorem nmA_len : ∀ i < 8, ((toString ((i : Nat) : Int) : String) : Str).length ≤ 10 := by decide +kernel
theorem log8 : ∀ i < 8, ((i : Nat) : Int).natAbs.log2 < 1920 := by decide +kernel
theorem Kp.wr {S : List Addr} {H H1 : Hp} {p : Addr} {o : HO} (k : Kp S H H1) (h : H p = Option.none) : Kp S H (upd H1 p o) := fun q u nq e => by
  rw [upd_ne (ne_of_none e h)]
  exact k q u nq e
section
variable {P : Program} {w : World} {K : PySem.W.Frag} {mg : Str → Option Value} {base : Heap} {FC DC CC RC KC : Addr}
abbrev NKept : List Str := ["_law_desk", "_law_runs", "_law_cells", "_law_answers", "_law_j", "_law_bound", "_law_cell_first"]
theorem scKept : FnScope NKept NKept (defScope sKept) := ⟨rfl, rfl, rfl, by decide +kernel, rfl, by decide +kernel, by decide +kernel⟩
abbrev qLam : Str := (envOfC "_law_kept" (defScope sKept) 0 0 .none).qual ++ "<lambda>"
def spKeptL (FC DC CC KC PT : Addr) : Sp := fun vs H Q _ => ∃ (D : DA) (tD rl ce al : Addr) (j : Nat) (bd : Int) (first : Bool) (cs : List Ce) (xn xs : List (Key × V)), vs = [.ref D.d, .ref rl, .ref ce, .ref al, .int (j : Int), .int bd, .bl first] ∧ DeskG FC DC CC H D tD cs xn xs .non ∧ j < 8 ∧
  valV (namesT cs ++ xn) (Sum.inr (nmA j)) = none ∧ valV (cellsT cs ++ xs) (Sum.inr (nmA j)) = none ∧ xn.length < 100 ∧ xs.length < 100 ∧ TabS H PT qLam ∧ PT ∉ foot D tD cs ∧
  ∀ (H' : Hp) (a ax nt lf c' : Addr) (cl : List (Str × Addr)) (gs : Cells), Kp [PT, D.nD, D.sD] H H' → H a = none → H nt = none → H lf = none → a ≠ nt → DeskG FC DC CC H' D tD cs (xn ++ [(Sum.inr (nmA j), .bl true)]) (xs ++ [(Sum.inr (nmA j), .ref a)]) .non → H' a = some (.ins KC ax (keptF (nmA j) 0 D.f lf false .non nt)) → H' nt = some (.dK []) → TabS H' PT qLam →
    H' lf = some (LamO lf (lamN qLam cl c') (lamBod lamX)) → H' c' = some (CodeO c' qLam) → CsAt cl N6 (capV rl ce al j bd first) gs → (∀ c o, gs.lookup c = some o → H c = none ∧ H' c = some (CO c o) ∧ ∃ x, o.data = .cell x) → gs.lookup lf = none → gs.lookup c' = none → Q (.ref a) H'
theorem ok_kept {f c PT fK : Addr} {fd dK : FuncData} (F : FunC K "_law_kept" "_law_kept" sKept f fd c) (TB : TabB base mg c PT) (B : Bt mg) (TD : DkT K DC) (MK : MO P w K mg base DC "kept" 3 ["self", "name", "work"] (spKeptD FC DC CC KC) fK dK) : FnOk P w K mg base CX0 4 f fd NKept (spKeptL FC DC CC KC PT) := by
  obtain ⟨oc, od, kV, doc, pm, an, ct, osl, rfl, lk, hcd⟩ := F.ex
  refine fn_ret1 (lsc := lamScp lamX) (fr := N6) (js := [1, 2, 3, 4, 5, 6]) lk hcd scKept (fun vs H Q E h => ?_) (ndef_free (sc := defScope sKept) (nsc := lamScp lamX) (fr := N6) (by decide +kernel)) (ndef_fr (sc := defScope sKept) (nsc := lamScp lamX) (fr := N6) (by decide +kernel)) rfl (fun A outer s H vs Q E hr h => ?_)
  · obtain ⟨D, tD, rl, ce, al, j, bd, first, cs, xn, xs, rfl, _⟩ := h
    rfl
  · obtain ⟨D, tD, rl, ce, al, j, bd, first, cs, xn, xs, rfl, hD, hj, vn, vc, lx, ly, hT, nPT, k⟩ := h
    have hsl := sizeLine_eq
    refine ⟨_, pe_meth (pv 0) TD.cl MK.m MK.o hr MK.b .nil pass0 (pa_cons (pe_op op_add_str pe_str (pe_callTy call_str_int (by rfl) B.str boot_str' (pa_cons (pv 4) pa_nil))) (pa_cons (pe_lamE TB rfl rfl (fun ok y hy e => ?_)) pa_nil)), ?_⟩
    · exact ok.has _ (ndef_free (sc := defScope sKept) (nsc := lamScp lamX) (fr := N6) (by decide +kernel) y hy e)
    have hcat : ("k" : Str).length + ((toString ((j : Nat) : Int) : String) : Str).length ≤ sizeLine := by
      have g1 := nmA_len j hj
      have g2 : ("k" : Str).length = 1 := by decide +kernel
      omega
    refine ⟨_, rfl, D.d, D.dx, _, rfl, hD.desk, rfl, _, rfl, j, rfl, log8 j hj, _, _, rfl, rfl, hcat, hT, fun lf c' H1 kP nn tab1 flf lam1 code1 => ?_⟩
    have k1 : Kp [PT] H H1 := fun q u nq e => kP q u (by simpa using nq) e
    have D1 := hD.kp k1 fun x hx e => nPT (by rw [← List.mem_singleton.mp e]; exact hx)
    have inD : ∀ x ∈ [D.nD, D.sD], x ∈ foot D tD cs := fun x hx => by
      simp only [List.mem_cons, List.mem_nil_iff, or_false] at hx
      rcases hx with rfl | rfl <;> exact List.mem_append_left _ (by simp)
    have PTn : PT ∉ [D.nD, D.sD] := fun hm => nPT (inD _ hm)
    refine ⟨D, tD, lf, cs, xn, xs, nmA j, rfl, D1, vn, vc, lx, ly, fun H2 a ax nt k2 ha hnt ne DG me hnt' => fun gs hC hn => ?_⟩
    have ext2 : ∀ {x : Addr} {φ : Heap → Prop}, H1 x = some (.ext φ) → H2 x = some (.ext φ) := fun {x φ} e => k2 _ _ (fun hm => by
      simp only [List.mem_cons, List.mem_nil_iff, or_false] at hm
      rcases hm with z | z
      · have := D1.names; rw [← z, e] at this; cases this
      · have := D1.sources; rw [← z, e] at this; cases this) e
    have k02 : Kp [PT, D.nD, D.sD] H H2 := (k1.mono (by simp)).trans (k2.mono fun x hx => List.mem_cons_of_mem _ hx)
    have low : ∀ {x : Addr}, H1 x = none → H x = none := fun {x} e => nn x e
    have up : Kp [] H2 (upC gs H2) := fun b u _ e => by
      cases hl : gs.lookup b with
      | some o => rw [(hn b o hl).2.1] at e; cases e
      | none => rw [upC_out hl]; exact e
    have U0 : ∀ {x : Addr} {u : HO}, H2 x = some u → gs.lookup x = none := fun {x u} e => by
      cases hl : gs.lookup x with
      | some o => rw [(hn x o hl).2.1] at e; cases e
      | none => rfl
    have tab2 : TabS H2 PT qLam := by
      obtain ⟨ps, h1, h2, h3⟩ := tab1
      refine ⟨ps, k2 _ _ PTn h1, h2, fun pos cv hc => ?_⟩
      obtain ⟨c0, e1, e2⟩ := h3 pos cv hc
      exact ⟨c0, e1, ext2 e2⟩
    have tab3 : TabS (upC gs H2) PT qLam := by
      obtain ⟨ps, h1, h2, h3⟩ := tab2
      refine ⟨ps, up _ _ (by simp) h1, h2, fun pos cv hc => ?_⟩
      obtain ⟨c0, e1, e2⟩ := h3 pos cv hc
      exact ⟨c0, e1, up _ _ (by simp) e2⟩
    exact k (upC gs H2) a ax nt lf c' _ gs (k02.trans (up.mono (by simp))) (low ha) (low hnt) flf ne (DG.kp up (fun _ _ => by simp)) (up _ _ (by simp) me) (up _ _ (by simp) hnt') tab3 (up _ _ (by simp) (ext2 lam1)) (up _ _ (by simp) (ext2 code1)) hC (fun c o e => ⟨(hn c o e).1, upC_in e, (hn c o e).2.2⟩) (U0 (ext2 lam1)) (U0 (ext2 code1))
def spSetG (FC DC CC : Addr) : Sp := fun vs H Q _ => ∃ (D : DA) (t0 : Addr) (cs : List Ce) (xn xs : List (Key × V)) (i : Nat) (c : Ce) (v : Int), vs = [.ref D.d, .str c.z, .int v] ∧ DeskG FC DC CC H D t0 cs xn xs .non ∧ cs[i]? = some c ∧ ∀ H' tD, Kp [D.f, t0, c.a] H H' → H tD = none → DeskG FC DC CC H' D tD (cs.set i (c.to v)) xn xs .non → Q .non H'
theorem ok_setG {f fP fC : Addr} {fd dP dC : FuncData} (F : Fun K "__setitem__" "Desk.__setitem__" sSet f fd) (B : Bt mg) (T : DkT K DC) (TF : FlT K FC) (TC : CeT K CC) (MP : MO P w K mg base CC "put" 3 ["self", "value"] (spPutG FC DC CC) fP dP)
    (MC : MO P w K mg base FC "check_place" 1 ["self"] (spPlace FC) fC dC) : FnOk P w K mg base CX0 4 f fd ["self", "at", "worth"] (spSetG FC DC CC) := by
  refine F.ok scSet (fun vs H Q E h => ?_) (fun cdv A' outer s H vs Q E hr h => ?_)
  · obtain ⟨D, tD, cs, xn, xs, i, c, v, rfl, _⟩ := h
    rfl
  · obtain ⟨D, tD, cs, xn, xs, i, ce, v, rfl, hD, hi, q⟩ := h
    have hu := hu_of hr
    have h1 := hr.mono (by decide : 1 ≤ 3)
    refine ⟨_, pss_cons (ps_expr (pe_meth0 (pe_fld (pv 0) rfl) TF.cl MC.m MC.o h1 MC.b .nil pass0))
      (pss_cons (ps_if (pw_or (pt_not (pt_val (pe_callB call_isi (by rfl) B.isinstance boot_isi' (pa_cons (pv 1) (pa_cons (tyS (by rfl) B.str) pa_nil))))) (pw_or1 (pt_cmp (pc_dnotin hu (pv 1) (pe_fld (pe_fld (pv 0) rfl) rfl))))).pt pss_dead pss_nil)
      (pss_one (ps_expr (pe_meth (pe_dget hu (pe_fld (pe_fld (pv 0) rfl) rfl) (pv 1) (fun _ _ => rfl)) TC.cl MP.m MP.o hr MP.b .nil pass0 (pa_cons (pv 2) pa_nil))))), ?_⟩
    refine ⟨_, rfl, D.d, DC, D.dx, _, _, rfl, hD.desk, T.cl, T.no, rfl, D.f, D.fx, _, rfl, hD.floor, rfl, D.f, D.fx, _, rfl, hD.floor, rfl, ?_⟩
    have hc : ce ∈ cs := List.mem_of_getElem? hi
    refine ⟨_, rfl, _, _, _, _, _, rfl, .ty _, .base (.str ce.z), kit_ty (r := true) (by decide +kernel), _, rfl, iteF ?_⟩
    refine ⟨_, rfl, _, rfl, D.d, DC, D.dx, _, _, rfl, hD.desk, T.cl, T.no, rfl, D.f, FC, D.fx, _, _, rfl, hD.floor, TF.cl, TF.no _ (by simp), rfl, D.cD, _, rfl, DGet.k (k := Sum.inr ce.z) hD.cells, _, rfl, ?_⟩
    have vc := valV_cell hc hD.zs
    rw [vc]
    refine iteF ⟨_, rfl, D.d, DC, D.dx, _, _, rfl, hD.desk, T.cl, T.no, rfl, D.f, FC, D.fx, _, _, rfl, hD.floor, TF.cl, TF.no _ (by simp), rfl, _, rfl, D.cD, .ref ce.a, rfl, ?_, ce.a, ce.ax, _, rfl, (hD.cell ce hc).1, rfl, _, rfl, D, tD, cs, xn, xs, i, ce, v, rfl, hD, hi, q⟩
    rw [← vc]
    exact DGet.k (k := Sum.inr ce.z) hD.cells
end
end My

set_option Elab.async false
set_option linter.all false
set_option maxRecDepth 100000
set_option maxHeartbeats 8000000
/-! G8: the law's own account of a ladder. -/
namespace My
open PySem PySem.Spec PyProof.Rows L2 LamX NdefX
/-- two ints in a tuple -/
theorem eqv_two (a b c d : Int) : PyData.eqv (.tuple [.int a, .int b]) (.tuple [.int c, .int d]) = (decide (a = c) && decide (b = d)) := by
  have e : ∀ x y : Int, (x == y) = decide (x = y) := fun x y => by by_cases h : x = y <;> simp [h]
  simp [PyData.eqv, PyData.eqvAll, e]
theorem dp_two {K : PySem.W.Frag} {H : Hp} {u : Addr} {a b : Int} (h : H u = some (.tup [.int a, .int b])) : Dp K H (.ref u) (.tuple [.int a, .int b]) := .tup (SqT.of h) (.cons (.int a) (.cons (.int b) .nil))
theorem sh_two (a b : Int) : SeqAt.shaped (.tuple [.int a, .int b]) = true := by rfl
/-- what the law holds of answer i -/
def LastI (p : LPm) (H : Hp) (i : Nat) (v : Option V) : Option (Int × Int) → Prop
  | none => v = some .non
  | some x => ∃ t u : Addr, v = some (.ref t) ∧ H t = some (.tup [.ref u, .int (mn (p.bd i) (x.1 + x.2))]) ∧ H u = some (.tup [.int x.1, .int x.2])
theorem LastI.kp {p : LPm} {S : List Addr} {H H' : Hp} {i : Nat} {v : Option V} {a : Option (Int × Int)} (h : LastI p H i v a) (k : Kp S H H') (s : ∀ x ∈ S, ∀ ys, H x ≠ some (.tup ys)) : LastI p H' i v a := by
  cases a with
  | none => exact h
  | some x =>
    obtain ⟨t, u, e, h1, h2⟩ := h
    exact ⟨t, u, e, k _ _ (fun z => s _ z _ h1) h1, k _ _ (fun z => s _ z _ h2) h2⟩
structure LastAt (p : LPm) (H : Hp) (ll : Addr) (st : Sta) : Prop where
  ex : ∃ L : List V, H ll = some (.lst L) ∧ L.length = p.n ∧ ∀ i < p.n, LastI p H i L[i]? (st i)
theorem LastAt.kp {p : LPm} {S : List Addr} {H H' : Hp} {ll : Addr} {st : Sta} (h : LastAt p H ll st) (k : Kp S H H') (n : ll ∉ S) (s : ∀ x ∈ S, ∀ ys, H x ≠ some (.tup ys)) : LastAt p H' ll st := by
  obtain ⟨L, h1, h2, h3⟩ := h.ex
  exact ⟨L, k _ _ n h1, h2, fun i hi => (h3 i hi).kp k s⟩
def intsN (n : Nat) (ns : Nat → Nat) : List V := (List.range n).map fun i => V.int (ns i : Nat)
section
variable {P : Program} {w : World} {K : PySem.W.Frag} {mg : Str → Option Value} {base : Heap} {FC DC CC RC KC : Addr}
abbrev sRead : Stmt := (top 25)
abbrev NRead : List Str := ["_law_top", "_law_worths", "_law_bounds", "_law_last", "_law_due_runs", "_law_value", "_law_j", "_law_wanted"]
theorem scRead : FnScope NRead ["_law_top", "_law_worths", "_law_bounds", "_law_last", "_law_due_runs"] (defScope sRead) := ⟨rfl, rfl, rfl, by decide +kernel, rfl, by decide +kernel, by decide +kernel⟩
def spRead : Sp := fun vs H Q _ => ∃ (p : LPm) (top : Nat) (wl bl ll dl : Addr) (st : Sta) (ns : Nat → Nat), vs = [.int (top : Int), .ref wl, .ref bl, .ref ll, .ref dl] ∧ p.cs.length = p.n ∧ top < p.n ∧ p.n ≤ 8 ∧ H wl = some (.lst (p.cs.map fun c => V.int c.v)) ∧ H bl = some (.lst ((List.range p.n).map fun i => V.int (p.bd i))) ∧ LastAt p H ll st ∧ H dl = some (.lst (intsN p.n ns)) ∧
  wl ∉ [ll, dl] ∧ bl ∉ [ll, dl] ∧ ll ≠ dl ∧ ∀ H', Kp [ll, dl] H H' → LastAt p H' ll (p.stU (top + 1) st) → H' dl = some (.lst (intsN p.n (p.nsU (top + 1) st ns))) → Q (.int (p.valu (top + 1))) H'
theorem ok_read {f : Addr} {fd : FuncData} (F : Fun K "_law_read" "_law_read" sRead f fd) (B : Bt mg) : FnOk P w K mg base CX0 1 f fd ["_law_top", "_law_worths", "_law_bounds", "_law_last", "_law_due_runs"] spRead := by
  refine F.ok scRead (fun vs H Q E h => ?_) (fun cdv A outer s H vs Q E hr h => ?_)
  · obtain ⟨p, top, wl, bl, ll, dl, st, ns, rfl, _⟩ := h
    rfl
  · obtain ⟨p, top, wl, bl, ll, dl, st, ns, rfl, len, ht, n8, hw, hb, hL, hd, nw, nb, nld, k⟩ := h
    have nd := scRead.nd
    have hsl := sizeLine_eq
    refine ⟨_, pss_cons (ps_set (i := 5) nd rfl (Or.inl rfl) pe_int) (pss_cons (ps_for PassesOwn.never rfl (pi_range1 rfl B.range (pa_cons (pe_op op_add (pv 0) pe_int) pa_nil)) (pg_name (i := 6) nd rfl (Or.inl rfl))
      (pss_cons (ps_set (i := 7) nd rfl (Or.inl rfl) (pe_tup (pa_cons (ixl (pv 1) (pv 6)) (pa_cons (pv 5) pa_nil))))
      (C8.pss_cut (ps_if (pw_or (pt_cmp (pc_isN (ixl (pv 3) (pv 6)))) (pw_or1 (pt_cmpR (op_neD hr.units) (ixt (ixl (pv 3) (pv 6)) pe_int) (pv 7) (nomark _)))).pt
        (pss_cons (ps_asg (pe_tup (pa_cons (pv 7) (pa_cons (pe_callB (call_min2 rfl) (by rfl) B.min boot_min (pa_cons (ixl (pv 2) (pv 6)) (pa_cons (pe_op op_add (ixl (pv 1) (pv 6)) (pv 5)) pa_nil))) pa_nil))) (pg_sub (pv 3) (pv 6) set_list))
          (pss_one (ps_asg (pe_op op_add (ixl (pv 4) (pv 6)) pe_int) (pg_sub (pv 4) (pv 6) set_list)))) pss_nil)
      (pss_one (ps_set (i := 5) nd rfl (Or.inl rfl) (ixt (ixl (pv 3) (pv 6)) pe_int)))))) (pss_one (ps_ret (pv 5)))), ?_⟩
    refine ⟨_, rfl, _, _, rfl, rfl, (top : Int) + 1, rfl, by omega, by omega, for_range (lo := 0) (n := ((top : Int) + 1).toNat) (fun i σ H' => ∃ v6 v7, σ = [some (.int (top : Int)), some (.ref wl), some (.ref bl), some (.ref ll), some (.ref dl), some (.int (p.valu i)), v6, v7] ∧ Kp [ll, dl] H H' ∧ LastAt p H' ll (p.stU i st) ∧ H' dl = some (.lst (intsN p.n (p.nsU i st ns))))
      ⟨none, none, rfl, Kp.refl H, by rw [p.stU_zero]; exact hL, by rw [p.nsU_zero]; exact hd⟩ ?_ ?_⟩
    · rintro i σ H1 hi ⟨v6, v7, rfl, k1, L1, d1⟩
      have hi : i < p.n := by omega
      have w1 := k1 _ _ nw hw
      have b1 := k1 _ _ nb hb
      have hic : i < p.cs.length := by omega
      have gw : atI (p.cs.map fun c => V.int c.v) (i : Int) = some (.int (vC p.cs i)) := atI_nat (by rw [List.getElem?_map, List.getElem?_eq_getElem hic]; unfold vC; rw [List.getElem?_eq_getElem hic]; rfl)
      have gb : atI ((List.range p.n).map fun i => V.int (p.bd i)) (i : Int) = some (.int (p.bd i)) := atI_nat (range_at _ hi)
      have gd : atI (intsN p.n (p.nsU i st ns)) (i : Int) = some (.int (p.nsU i st ns i : Nat)) := atI_nat (range_at _ hi)
      simp only [Int.zero_add]
      refine ⟨_, rfl, _, rfl, wl, _, _, _, rfl, rfl, SqL.of w1, gw, _, rfl, (by show 2 ≤ sizeLine; omega), fun t ht1 => ?_⟩
      obtain ⟨H2, e2⟩ : ∃ H2, upd H1 t (.tup [.int (vC p.cs i), .int (p.valu i)]) = H2 := ⟨_, rfl⟩
      have t2 : H2 t = some (.tup [.int (vC p.cs i), .int (p.valu i)]) := by rw [← e2]; exact upd_same
      have k12 : Kp [] H1 H2 := by rw [← e2]; exact Kp.new ht1
      rw [e2]
      have L2 := L1.kp k12 (by simp) (fun x hx => absurd hx (by simp))
      have d2 := k12 _ _ (by simp) d1
      have w2 := k12 _ _ (by simp) w1
      have b2 := k12 _ _ (by simp) b1
      have K2 : Kp [ll, dl] H H2 := k1.trans (k12.mono (by simp))
      obtain ⟨L, l1, l2, l3⟩ := L2.ex
      have l4 := l3 i hi
      rw [p.stU_self] at l4
      refine ⟨fun σ' H' => σ' = [some (.int (top : Int)), some (.ref wl), some (.ref bl), some (.ref ll), some (.ref dl), some (.int (p.valu i)), some (.int (i : Int)), some (.ref t)] ∧ Kp [ll, dl] H H' ∧ LastAt p H' ll (p.stU (i + 1) st) ∧ H' dl = some (.lst (intsN p.n (p.nsU (i + 1) st ns))), ?_, ?_⟩
      · -- a run more
        have ni : t ∉ [ll, dl] := fun hm => by
          simp only [List.mem_cons, List.mem_nil_iff, or_false] at hm
          rcases hm with z | z
          · rw [z, l1] at t2; cases t2
          · rw [z, d2] at t2; cases t2
        have lt : i < L.length := by omega
        have upd2 : st i ≠ some (p.tgt i) → ∀ (q : Addr) (H3 H4 H5 : Hp), H2 q = none → upd H2 q (.tup [.ref t, .int (mn (p.bd i) (vC p.cs i + p.valu i))]) = H3 → upd H3 ll (.lst (L.set i (.ref q))) = H4 → upd H4 dl (.lst ((intsN p.n (p.nsU i st ns)).set i (.int ((p.nsU i st ns i : Nat) + 1)))) = H5 →
            Kp [ll, dl] H H5 ∧ LastAt p H5 ll (p.stU (i + 1) st) ∧ H5 dl = some (.lst (intsN p.n (p.nsU (i + 1) st ns))) := fun hne q H3 H4 H5 hq e3 e4 e5 => by
          have k23 : Kp [] H2 H3 := by rw [← e3]; exact Kp.new hq
          have k34 : Kp [ll, dl] H3 H4 := by rw [← e4]; exact Kp.put (by simp)
          have k45 : Kp [ll, dl] H4 H5 := by rw [← e5]; exact Kp.put (by simp)
          have q3 : H3 q = some (.tup [.ref t, .int (mn (p.bd i) (vC p.cs i + p.valu i))]) := by rw [← e3]; exact upd_same
          have nq : q ∉ [ll, dl] := fun hm => by
            simp only [List.mem_cons, List.mem_nil_iff, or_false] at hm
            rcases hm with z | z
            · rw [z, l1] at hq; cases hq
            · rw [z, d2] at hq; cases hq
          have k25 : Kp [ll, dl] H2 H5 := ((k23.mono (by simp)).trans k34).trans k45
          have t5 := k25 _ _ ni t2
          have q5 := k45 _ _ nq (k34 _ _ nq q3)
          refine ⟨K2.trans k25, ⟨L.set i (.ref q), by rw [← e5, upd_ne nld, ← e4]; exact upd_same, by rw [List.length_set]; exact l2, fun m hm => ?_⟩, ?_⟩
          · by_cases e : i = m
            · subst e
              rw [List.getElem?_set_self lt, p.stU_lt st (Nat.lt_succ_self i)]
              exact ⟨q, t, rfl, q5, t5⟩
            · rw [List.getElem?_set_ne e]
              have := (l3 m hm).kp k25 fun x hx ys hy => by
                simp only [List.mem_cons, List.mem_nil_iff, or_false] at hx
                rcases hx with z | z
                · rw [z, l1] at hy; cases hy
                · rw [z, d2] at hy; cases hy
              have es : p.stU (i + 1) st m = p.stU i st m := by
                unfold LPm.stU
                by_cases c : m < i
                · rw [if_pos c, if_pos (by omega)]
                · rw [if_neg c, if_neg (by omega)]
              rw [es]; exact this
          · rw [← e5, upd_same, p.nsU_ne ns hne]
            have es := range_set (n := p.n) (fun m => V.int (p.nsU i st ns m : Nat)) (fun m => V.int (bump i (p.nsU i st ns) m : Nat)) (j := i) fun m hm => by rw [bump_ne hm]
            rw [bump_self] at es
            exact congrArg (fun l => some (HO.lst l)) es
        cases hst : st i with
        | none =>
          rw [hst] at l4
          have l4 : L[i]? = some .non := l4
          have ne : st i ≠ some (p.tgt i) := by rw [hst]; exact fun z => by cases z
          refine ⟨_, rfl, _, rfl, ll, _, _, _, rfl, rfl, SqL.of l1, atI_nat l4, _, rfl, iteT (iteT ?_)⟩
          refine ⟨_, rfl, _, rfl, _, rfl, bl, _, _, _, rfl, rfl, SqL.of b2, gb, _, rfl, _, rfl, wl, _, _, _, rfl, rfl, SqL.of w2, gw, _, rfl, _, _, rfl, rfl, _, _, rfl, (by show 2 ≤ sizeLine; omega), fun q hq => ?_⟩
          obtain ⟨H3, e3⟩ : ∃ H3, upd H2 q (.tup [.ref t, .int (mn (p.bd i) (vC p.cs i + p.valu i))]) = H3 := ⟨_, rfl⟩
          have e3' : upd H2 q (.tup [.ref t, .int (if vC p.cs i + p.valu i < p.bd i then vC p.cs i + p.valu i else p.bd i)]) = H3 := e3
          rw [e3']
          have l31 : H3 ll = some (.lst L) := by rw [← e3, upd_ne (ne_of_none l1 hq)]; exact l1
          have d31 : H3 dl = some (.lst (intsN p.n (p.nsU i st ns))) := by rw [← e3, upd_ne (ne_of_none d2 hq)]; exact d2
          refine ⟨_, rfl, _, rfl, ll, _, _, i, rfl, rfl, l31, ixN_nat0 lt, ?_⟩
          obtain ⟨H4, e4⟩ : ∃ H4, upd H3 ll (.lst (L.set i (.ref q))) = H4 := ⟨_, rfl⟩
          rw [e4]
          have d41 : H4 dl = some (.lst (intsN p.n (p.nsU i st ns))) := by rw [← e4, upd_ne nld.symm]; exact d31
          refine ⟨_, rfl, _, rfl, dl, _, _, _, rfl, rfl, SqL.of d41, gd, ?_⟩
          refine ⟨_, _, rfl, rfl, _, rfl, _, rfl, dl, _, _, i, rfl, rfl, d41, ixN_nat0 (by unfold intsN; rw [List.length_map, List.length_range]; exact hi), ?_⟩
          exact ⟨rfl, upd2 ne q H3 H4 _ hq e3 e4 rfl⟩
        | some x =>
          rw [hst] at l4
          obtain ⟨t', u', g1, g2, g3⟩ := l4
          refine ⟨_, rfl, _, rfl, ll, _, _, _, rfl, rfl, SqL.of l1, atI_nat g1, _, rfl, iteF ?_⟩
          refine ⟨_, rfl, _, rfl, ll, _, _, _, rfl, rfl, SqL.of l1, atI_nat g1, t', _, _, _, rfl, rfl, SqT.of g2, rfl, _, rfl, _, _, dp_two g3, dp_two t2, sh_two _ _, sh_two _ _, ?_⟩
          rw [eqv_two]
          by_cases ex : x = p.tgt i
          · have e1 : x.1 = vC p.cs i := by rw [ex]; rfl
            have e2 : x.2 = p.valu i := by rw [ex]; rfl
            rw [decide_eq_true e1, decide_eq_true e2]
            refine ⟨_, rfl, iteF ⟨rfl, K2, ⟨L, l1, l2, fun m hm => ?_⟩, ?_⟩⟩
            · have := l3 m hm
              by_cases c : m = i
              · subst c
                rw [p.stU_lt st (Nat.lt_succ_self m), ← ex, ← hst]
                rw [p.stU_self] at this
                exact this
              · have es : p.stU (i + 1) st m = p.stU i st m := by
                  unfold LPm.stU
                  by_cases c : m < i
                  · rw [if_pos c, if_pos (by omega)]
                  · rw [if_neg c, if_neg (by omega)]
                rw [es]; exact this
            · rw [p.nsU_eq ns (by rw [hst, ex])]; exact d2
          · have ne : st i ≠ some (p.tgt i) := by rw [hst]; exact fun z => ex (Option.some.inj z)
            have ef : (decide (x.1 = vC p.cs i) && decide (x.2 = p.valu i)) = false := by
              rw [← Bool.not_eq_true, Bool.and_eq_true, decide_eq_true_eq, decide_eq_true_eq]
              exact fun ⟨h1, h2⟩ => ex (Prod.ext h1 h2)
            rw [ef]
            refine ⟨_, rfl, iteT ?_⟩
            refine ⟨_, rfl, _, rfl, _, rfl, bl, _, _, _, rfl, rfl, SqL.of b2, gb, _, rfl, _, rfl, wl, _, _, _, rfl, rfl, SqL.of w2, gw, _, rfl, _, _, rfl, rfl, _, _, rfl, (by show 2 ≤ sizeLine; omega), fun q hq => ?_⟩
            obtain ⟨H3, e3⟩ : ∃ H3, upd H2 q (.tup [.ref t, .int (mn (p.bd i) (vC p.cs i + p.valu i))]) = H3 := ⟨_, rfl⟩
            have e3' : upd H2 q (.tup [.ref t, .int (if vC p.cs i + p.valu i < p.bd i then vC p.cs i + p.valu i else p.bd i)]) = H3 := e3
            rw [e3']
            have l31 : H3 ll = some (.lst L) := by rw [← e3, upd_ne (ne_of_none l1 hq)]; exact l1
            have d31 : H3 dl = some (.lst (intsN p.n (p.nsU i st ns))) := by rw [← e3, upd_ne (ne_of_none d2 hq)]; exact d2
            refine ⟨_, rfl, _, rfl, ll, _, _, i, rfl, rfl, l31, ixN_nat0 lt, ?_⟩
            obtain ⟨H4, e4⟩ : ∃ H4, upd H3 ll (.lst (L.set i (.ref q))) = H4 := ⟨_, rfl⟩
            rw [e4]
            have d41 : H4 dl = some (.lst (intsN p.n (p.nsU i st ns))) := by rw [← e4, upd_ne nld.symm]; exact d31
            refine ⟨_, rfl, _, rfl, dl, _, _, _, rfl, rfl, SqL.of d41, gd, _, _, rfl, rfl, _, rfl, _, rfl, dl, _, _, i, rfl, rfl, d41, ixN_nat0 (by unfold intsN; rw [List.length_map, List.length_range]; exact hi), ?_⟩
            exact ⟨rfl, upd2 ne q H3 H4 _ hq e3 e4 rfl⟩
      · rintro σ' H3 ⟨rfl, k3, L3, d3⟩
        obtain ⟨L', m1, m2, m3⟩ := L3.ex
        have m4 := m3 i hi
        rw [p.stU_lt st (Nat.lt_succ_self i)] at m4
        obtain ⟨t', u', g1, g2, g3⟩ := m4
        exact ⟨_, rfl, _, rfl, ll, _, _, _, rfl, rfl, SqL.of m1, atI_nat g1, t', _, _, _, rfl, rfl, SqT.of g2, rfl, _, _, rfl, k3, L3, d3⟩
    · rintro σ H1 ⟨v6, v7, rfl, k1, L1, d1⟩
      have e : ((top : Int) + 1).toNat = top + 1 := by omega
      rw [e] at L1 d1
      refine ⟨_, rfl, ?_⟩
      rw [e]
      exact k H1 k1 L1 d1
end
end My

set_option Elab.async false
set_option linter.all false
set_option maxRecDepth 100000
set_option maxHeartbeats 4000000
/-! G9: how the law sets its things up. -/
namespace My
open PySem PySem.Spec PyProof.Rows L2 LamX NdefX
/-! ### flat data -/
def datV : V → PyData
  | .int i => .int i
  | _ => .none
def FlatI (v : V) : Prop := v = .non ∨ ∃ i, v = .int i
theorem dpAll_flat {K : PySem.W.Frag} {H : Hp} : ∀ {xs : List V}, (∀ v ∈ xs, FlatI v) → DpAll K H xs (xs.map datV)
  | [], _ => .nil
  | v :: r, h => by
    refine .cons ?_ (dpAll_flat fun x hx => h x (List.mem_cons_of_mem _ hx))
    rcases h v (by simp) with rfl | ⟨i, rfl⟩
    · exact .non
    · exact .int i
theorem flat_lay : ∀ {xs : List V}, (∀ v ∈ xs, FlatI v) → PyData.canLayAll0 (xs.map datV) = true ∧ PyData.depthAll (xs.map datV) = 0
  | [], _ => ⟨by simp [PyData.canLayAll0], by simp [PyData.depthAll]⟩
  | v :: r, h => by
    obtain ⟨a, b⟩ := flat_lay fun x hx => h x (List.mem_cons_of_mem _ hx)
    rcases h v (by simp) with rfl | ⟨i, rfl⟩
    · simp [PyData.canLayAll0, PyData.canLay0, PyData.depthAll, PyData.depth, datV, a, b]
    · simp [PyData.canLayAll0, PyData.canLay0, PyData.depthAll, PyData.depth, datV, a, b]
theorem flat_shL {xs : List V} (h : ∀ v ∈ xs, FlatI v) : SeqAt.shaped (.list (xs.map datV)) = true := by
  obtain ⟨a, b⟩ := flat_lay h
  unfold SeqAt.shaped
  simp [PyData.canLay0, PyData.depth, a, b]
theorem flat_shT {xs : List V} (h : ∀ v ∈ xs, FlatI v) : SeqAt.shaped (.tuple (xs.map datV)) = true := by
  obtain ⟨a, b⟩ := flat_lay h
  unfold SeqAt.shaped
  simp [PyData.canLay0, PyData.depth, a, b]
theorem flat_eqA : ∀ {xs : List V}, (∀ v ∈ xs, FlatI v) → PyData.eqvAll (xs.map datV) (xs.map datV) = true
  | [], _ => by simp [PyData.eqvAll]
  | v :: r, h => by
    have a := flat_eqA fun x hx => h x (List.mem_cons_of_mem _ hx)
    rcases h v (by simp) with rfl | ⟨i, rfl⟩
    · simp [PyData.eqvAll, PyData.eqv, datV, a]
    · simp [PyData.eqvAll, PyData.eqv, datV, a]
theorem flat_eqL {xs : List V} (h : ∀ v ∈ xs, FlatI v) : PyData.eqv (.list (xs.map datV)) (.list (xs.map datV)) = true := by
  simp [PyData.eqv, flat_eqA h]
theorem flat_eqT {xs : List V} (h : ∀ v ∈ xs, FlatI v) : PyData.eqv (.tuple (xs.map datV)) (.tuple (xs.map datV)) = true := by
  simp [PyData.eqv, flat_eqA h]
theorem flat_ints (l : List Int) : ∀ v ∈ l.map V.int, FlatI v := fun v hv => by
  obtain ⟨i, _, rfl⟩ := List.mem_map.mp hv
  exact .inr ⟨i, rfl⟩
theorem foot_to {D : DA} {tD t' x : Addr} {cs cs' : List Ce} (e : cs'.map Ce.a = cs.map Ce.a) (h : x ∈ foot D t' cs') : x = t' ∨ x ∈ foot D tD cs := by
  unfold foot at h ⊢
  rw [e] at h
  rcases List.mem_append.mp h with h | h
  · simp only [List.mem_cons, List.mem_nil_iff, or_false] at h
    rcases h with h | h | h | h | h | h | h | h
    · exact .inr (List.mem_append_left _ (by simp [h]))
    · exact .inr (List.mem_append_left _ (by simp [h]))
    · exact .inr (List.mem_append_left _ (by simp [h]))
    · exact .inr (List.mem_append_left _ (by simp [h]))
    · exact .inr (List.mem_append_left _ (by simp [h]))
    · exact .inr (List.mem_append_left _ (by simp [h]))
    · exact .inr (List.mem_append_left _ (by simp [h]))
    · exact .inl h
  · exact .inr (List.mem_append_right _ h)
theorem tabs_kp {H H' : Hp} {S : List Addr} {PT : Addr} {q : Str} (t : TabS H PT q) (k : Kp S H H') (s : ∀ x ∈ S, ∀ o, H x = some o → (∀ φ, o ≠ .ext φ) ∧ ∀ ps, o ≠ .tbl ps) : TabS H' PT q := by
  obtain ⟨ps, h1, h2, h3⟩ := t
  refine ⟨ps, k _ _ (fun e => (s _ e _ h1).2 _ rfl) h1, h2, fun pos cv hc => ?_⟩
  obtain ⟨c, e1, e2⟩ := h3 pos cv hc
  exact ⟨c, e1, k _ _ (fun e => (s _ e _ e2).1 _ rfl) e2⟩
/-- what the law has done since H0: b and the table alone are not as they were -/
structure Out (H0 : Hp) (b PT : Addr) (q : Str) (H : Hp) : Prop where
  kp : Kp [b, PT] H0 H
  tab : TabS H PT q
  bag : ∃ l, H b = some (.lst l)
theorem Out.nil0 {H0 H : Hp} {b PT : Addr} {q : Str} (o : Out H0 b PT q H) {x : Addr} (h : H x = none) : H0 x = none := by
  cases e : H0 x with
  | none => rfl
  | some u =>
    by_cases hb : x = b
    · obtain ⟨l, hl⟩ := o.bag
      rw [hb, hl] at h; cases h
    · by_cases hp : x = PT
      · obtain ⟨ps, h1, _⟩ := o.tab
        rw [hp, h1] at h; cases h
      · rw [o.kp x u (by simp only [List.mem_cons, List.mem_nil_iff, or_false, not_or]; exact ⟨hb, hp⟩) e] at h; cases h
/-- of the kinds that the law writes -/
def Hard (u : HO) : Prop := (∀ φ, u ≠ .ext φ) ∧ (∀ ys, u ≠ .tup ys) ∧ ∀ ps, u ≠ .tbl ps
theorem hard_l {l : List V} : Hard (.lst l) := ⟨fun _ z => (by cases z), fun _ z => (by cases z), fun _ z => (by cases z)⟩
theorem hard_i {C dx : Addr} {fs : List (Str × V)} : Hard (.ins C dx fs) := ⟨fun _ z => (by cases z), fun _ z => (by cases z), fun _ z => (by cases z)⟩
theorem hard_d {l : List (Key × V)} : Hard (.dK l) := ⟨fun _ z => (by cases z), fun _ z => (by cases z), fun _ z => (by cases z)⟩
theorem Out.step {H0 H H' : Hp} {b PT : Addr} {q : Str} {S : List Addr} (o : Out H0 b PT q H) (k : Kp S H H') (hb : ∃ l, H' b = some (.lst l)) (s : ∀ x ∈ S, (x = b ∨ H0 x = none) ∧ ∃ u, H x = some u ∧ Hard u) : Out H0 b PT q H' := by
  refine ⟨fun x u nx e => ?_, tabs_kp o.tab k (fun x hx u hu => ?_), hb⟩
  · by_cases hS : x ∈ S
    · rcases (s x hS).1 with z | z
      · exact absurd (by rw [z]; simp) nx
      · rw [z] at e; cases e
    · exact k x u hS (o.kp x u nx e)
  · obtain ⟨_, v, hv, h1, _, h2⟩ := s x hx
    rw [hv] at hu
    cases hu
    exact ⟨h1, h2⟩
theorem Out.new {H0 H H' : Hp} {b PT : Addr} {q : Str} (o : Out H0 b PT q H) (k : Kp [] H H') : Out H0 b PT q H' := o.step k (let ⟨l, h⟩ := o.bag; ⟨l, k _ _ (by simp) h⟩) fun _ h => nomatch h
theorem made_back {H : Hp} {x dx y : Addr} {o : HO} (e : upd (upd H dx (.own x)) x o y = none) : H y = none := by
  have n1 : y ≠ x := fun z => by rw [z, upd_same] at e; cases e
  rw [upd_ne n1] at e
  have n2 : y ≠ dx := fun z => by rw [z, upd_same] at e; cases e
  rw [upd_ne n2] at e
  exact e
theorem made_kp {H H' : Hp} {x dx : Addr} {o : HO} (hx : H x = none) (hdx : H dx = none) (k : Kp [x] (upd (upd H dx (.own x)) x o) H') : Kp [] H H' := fun q u _ e =>
  k q u (by simpa using ne_of_none e hx) (by rw [upd_ne (ne_of_none e hx), upd_ne (ne_of_none e hdx)]; exact e)
theorem Kp.none {T : List Addr} {H H1 : Hp} {x : Addr} (k : Kp T H H1) (h : H1 x = none) (ht : ∀ y ∈ T, ∃ o, H1 y = some o) : H x = none := by
  cases e : H x with
  | none => rfl
  | some o =>
    by_cases hx : x ∈ T
    · obtain ⟨u, hu⟩ := ht x hx
      rw [hu] at h; cases h
    · rw [k x o hx e] at h; cases h
theorem BagAt.there {H : Hp} {b : Addr} {n : Int} (h : BagAt H b n) : ∀ y ∈ [b], ∃ o, H y = some o := fun y hy => by
  obtain ⟨_, _, _, hb, _⟩ := h
  rw [List.mem_singleton.mp hy]; exact ⟨_, hb⟩
/-- the names of the cells -/
def nmK (i : Nat) : Str := ("c" : Str) ++ ((toString (i : Int) : String) : Str)
theorem nm_nd : ((List.range 8).map nmK).Nodup := by decide +kernel
theorem nm_len : ∀ i < 8, ((toString ((i : Nat) : Int) : String) : Str).length ≤ 10 := by decide +kernel
theorem nmA_nd : ((List.range 8).map nmA).Nodup := by decide +kernel
theorem nmA_nmK : ∀ i < 8, ∀ j < 8, nmK i ≠ nmA j := by decide +kernel
theorem range_sub {i n : Nat} (h : i ≤ n) : (List.range i).Sublist (List.range n) := by
  have : List.range i = (List.range n).take i := by
    rw [List.take_range, Nat.min_eq_left h]
  rw [this]
  exact List.take_sublist _ _
theorem nm_new {i : Nat} (h : i < 8) : nmK i ∉ (List.range i).map nmK := fun hm => by
  have nd := (nm_nd.sublist ((range_sub (show i + 1 ≤ 8 by omega)).map nmK))
  rw [List.range_succ, List.map_append, List.nodup_append] at nd
  exact nd.2.2 _ hm _ (by simp) rfl
theorem nmA_inj {i j : Nat} (hi : i < 8) (hj : j < 8) (e : nmA i = nmA j) : i = j := by
  have h1 : ((List.range 8).map nmA)[i]? = some (nmA i) := range_at _ hi
  have h2 : ((List.range 8).map nmA)[j]? = some (nmA j) := range_at _ hj
  have hl : i < ((List.range 8).map nmA).length := by rw [List.length_map, List.length_range]; exact hi
  exact (List.getElem?_inj hl nmA_nd).mp (by rw [h1, h2, e])
/-- so far -/
structure SetUp (FC DC CC : Addr) (H0 : Hp) (b PT : Addr) (q : Str) (H : Hp) (D : DA) (tD : Addr) (cs : List Ce) (ls : List Addr) (n : Int) : Prop where
  out : Out H0 b PT q H
  b0 : ∃ o, H0 b = some o
  t0 : ∃ o, H0 PT = some o
  nbt : b ≠ PT
  bag : BagAt H b n
  desk : DeskAt FC DC CC H D tD cs
  newl : ∀ x ∈ ls, H0 x = none ∧ ∃ l, H x = some (.lst l)
  ndl : ls.Nodup
  newf : ∀ x ∈ foot D tD cs, H0 x = none ∧ x ∉ ls
section
variable {FC DC CC : Addr} {H0 H H' : Hp} {b PT L : Addr} {q : Str} {D : DA} {tD : Addr} {cs : List Ce} {ls : List Addr} {n m : Int} {l : List V}
theorem SetUp.kp0 (s : SetUp FC DC CC H0 b PT q H D tD cs ls n) (k : Kp [] H H') : SetUp FC DC CC H0 b PT q H' D tD cs ls n :=
  ⟨s.out.new k, s.b0, s.t0, s.nbt, s.bag.kp k (by simp), s.desk.kp k (fun _ _ => by simp), fun x hx => ⟨(s.newl x hx).1, let ⟨l, h⟩ := (s.newl x hx).2; ⟨l, k _ _ (by simp) h⟩⟩, s.ndl, s.newf⟩
theorem SetUp.nb (s : SetUp FC DC CC H0 b PT q H D tD cs ls n) {x : Addr} (h : H0 x = none) : x ≠ b := fun e => by
  obtain ⟨o, ho⟩ := s.b0
  rw [e, ho] at h; cases h
theorem SetUp.np (s : SetUp FC DC CC H0 b PT q H D tD cs ls n) {x : Addr} (h : H0 x = none) : x ≠ PT := fun e => by
  obtain ⟨o, ho⟩ := s.t0
  rw [e, ho] at h; cases h
theorem SetUp.add (s : SetUp FC DC CC H0 b PT q H D tD cs ls n) (k : Kp [b] H H') (hL : H L = none) (h : H' L = some (.lst l)) (hb : BagAt H' b m) : SetUp FC DC CC H0 b PT q H' D tD cs (L :: ls) m := by
  have L0 : H0 L = none := s.out.nil0 hL
  obtain ⟨_, _, _, hb0, _⟩ := s.bag
  obtain ⟨_, _, _, hb1, _⟩ := id hb
  refine ⟨s.out.step k ⟨_, hb1⟩ (fun x hx => ?_), s.b0, s.t0, s.nbt, hb, s.desk.kp k (fun x hx => by simpa using s.nb (s.newf x hx).1), fun x hx => ?_, ?_, fun x hx => ⟨(s.newf x hx).1, ?_⟩⟩
  · rw [List.mem_singleton.mp hx]
    exact ⟨.inl rfl, _, hb0, hard_l⟩
  · rcases List.mem_cons.mp hx with rfl | hx
    · exact ⟨L0, l, h⟩
    · obtain ⟨l', hl'⟩ := (s.newl x hx).2
      exact ⟨(s.newl x hx).1, l', k _ _ (by simpa using s.nb (s.newl x hx).1) hl'⟩
  · refine List.nodup_cons.mpr ⟨fun hm => ?_, s.ndl⟩
    obtain ⟨l', hl'⟩ := (s.newl L hm).2
    rw [hL] at hl'; cases hl'
  · intro hm
    rcases List.mem_cons.mp hm with e | hm
    · obtain ⟨o, ho⟩ := s.desk.there x hx
      rw [e, hL] at ho; cases ho
    · exact (s.newf x hx).2 hm
theorem SetUp.lam (s : SetUp FC DC CC H0 b PT q H D tD cs ls n) (k : Kp [PT] H H') (t : TabS H' PT q) : SetUp FC DC CC H0 b PT q H' D tD cs ls n := by
  obtain ⟨l, hl⟩ := s.out.bag
  exact ⟨⟨s.out.kp.trans (k.mono (by simp)), t, l, k _ _ (by simpa using s.nbt) hl⟩, s.b0, s.t0, s.nbt, s.bag.kp k (by simpa using s.nbt), s.desk.kp k (fun x hx => by simpa using s.np (s.newf x hx).1), fun x hx => ⟨(s.newl x hx).1, let ⟨l, h⟩ := (s.newl x hx).2; ⟨l, k _ _ (by simpa using s.np (s.newl x hx).1) h⟩⟩, s.ndl, s.newf⟩
theorem SetUp.cells (s : SetUp FC DC CC H0 b PT q H D tD [] ls n) (k : Kp [D.nD, D.cD, D.sD] H H') (hL : H L = none) (h : H' L = some (.lst l)) (hD : DeskAt FC DC CC H' D tD cs) (nf : ∀ x ∈ foot D tD cs, x ∈ foot D tD [] ∨ (H x = none ∧ x ≠ L)) : SetUp FC DC CC H0 b PT q H' D tD cs (L :: ls) n := by
  have L0 : H0 L = none := s.out.nil0 hL
  have three : ∀ x ∈ [D.nD, D.cD, D.sD], x ∈ foot D tD [] := fun x hx => by
    simp only [List.mem_cons, List.mem_nil_iff, or_false] at hx
    rcases hx with rfl | rfl | rfl <;> exact List.mem_append_left _ (by simp)
  have nob : b ∉ [D.nD, D.cD, D.sD] := fun hm => s.nb (s.newf b (three b hm)).1 rfl
  obtain ⟨_, _, _, hb0, _⟩ := s.bag
  refine ⟨s.out.step k ⟨_, k _ _ nob hb0⟩ (fun x hx => ⟨.inr (s.newf x (three x hx)).1, ?_⟩), s.b0, s.t0, s.nbt, s.bag.kp k nob, hD, fun x hx => ?_, ?_, fun x hx => ⟨?_, ?_⟩⟩
  · simp only [List.mem_cons, List.mem_nil_iff, or_false] at hx
    rcases hx with rfl | rfl | rfl
    · exact ⟨_, s.desk.names, hard_d⟩
    · exact ⟨_, s.desk.cells, hard_d⟩
    · exact ⟨_, s.desk.sources, hard_d⟩
  · rcases List.mem_cons.mp hx with rfl | hx
    · exact ⟨L0, l, h⟩
    · obtain ⟨l', hl'⟩ := (s.newl x hx).2
      exact ⟨(s.newl x hx).1, l', k _ _ (fun hm => (s.newf x (three x hm)).2 hx) hl'⟩
  · refine List.nodup_cons.mpr ⟨fun hm => ?_, s.ndl⟩
    obtain ⟨l', hl'⟩ := (s.newl L hm).2
    rw [hL] at hl'; cases hl'
  · rcases nf x hx with e | ⟨e, _⟩
    · exact (s.newf x e).1
    · exact s.out.nil0 e
  · intro hm
    rcases nf x hx with e | ⟨e, ne⟩
    · rcases List.mem_cons.mp hm with z | hm
      · obtain ⟨o, ho⟩ := s.desk.there x e
        rw [z, hL] at ho; cases ho
      · exact (s.newf x e).2 hm
    · rcases List.mem_cons.mp hm with z | hm
      · exact ne z
      · obtain ⟨l', hl'⟩ := (s.newl x hm).2
        rw [e] at hl'; cases hl'
theorem foot_snoc {x : Addr} {c : Ce} (h : x ∈ foot D tD (cs ++ [c])) : x ∈ foot D tD cs ∨ x = c.a := by
  unfold foot at h ⊢
  rw [List.map_append] at h
  rcases List.mem_append.mp h with h | h
  · exact .inl (List.mem_append_left _ h)
  · rcases List.mem_append.mp h with h | h
    · exact .inl (List.mem_append_right _ h)
    · exact .inr (List.mem_singleton.mp h)
end
end My

set_option Elab.async false
set_option linter.all false
set_option maxRecDepth 100000
set_option maxHeartbeats 4000000
/-! G10: the law's state. -/
namespace My
open PySem PySem.Spec PyProof.Rows L2 LamX NdefX
def ex {α : Type} (m : Nat) (f : Nat → α) (x : α) : Nat → α := fun i => if i = m then x else f i
theorem ex_self {α : Type} {m : Nat} {f : Nat → α} {x : α} : ex m f x m = x := if_pos rfl
theorem ex_ne {α : Type} {m i : Nat} {f : Nat → α} {x : α} (h : i < m) : ex m f x i = f i := if_neg (Nat.ne_of_lt h)
theorem ex_map {α β : Type} {m : Nat} {f : Nat → α} {x : α} (g : Nat → α → β) : ((List.range (m + 1)).map fun i => g i (ex m f x i)) = ((List.range m).map fun i => g i (f i)) ++ [g m x] := by
  rw [List.range_succ, List.map_append]
  congr 1
  · refine List.map_congr_left fun i hi => ?_
    rw [ex_ne (List.mem_range.mp hi)]
  · show [g m (ex m f x m)] = _
    rw [ex_self]
/-- a cell's object is no code object -/
theorem co_code {c : Addr} {o : Obj} {q : Str} {v : Option Value} (hd : o.data = .cell v) : CO c o ≠ CodeO c q := fun e => by
  have e1 : (fun h : Heap => h.get? c = some o) = fun h => ∃ (oc : Obj) (vs : Array Value) (t : Tok), h.get? c = some oc ∧ oc.data = .fields vs ∧ vs[1]? = some (.str q t) := HO.ext.inj e
  have e2 := congrFun e1 ⟨Array.replicate (c + 1) o, {}⟩
  have g : (Heap.mk (Array.replicate (c + 1) o) {}).get? c = some o := by
    obtain ⟨oc, od, d, sl⟩ := o
    cases hd
    unfold Heap.get?
    simp
  obtain ⟨oc, vs, t, h1, h2, _⟩ := e2.mp g
  rw [g] at h1
  cases h1
  rw [hd] at h2; cases h2
def xnA (m : Nat) : List (Key × V) := (List.range m).map fun i => (Sum.inr (nmA i), V.bl true)
def xsA (p : LPm) : List (Key × V) := (List.range p.n).map fun i => (Sum.inr (nmA i), V.ref (p.a i))
abbrev lsts (p : LPm) (wl bl ll dl : Addr) : List Addr := [wl, bl, ll, dl, p.rl, p.ce, p.al]
/-- the desk and the law's lists, whatever the answers are -/
structure LB (FC DC CC : Addr) (H0 : Hp) (b PT : Addr) (H : Hp) (p : LPm) (nts : Nat → Addr) (many : Nat) (wl bl ll dl : Addr) (n : Int) : Prop where
  out : Out H0 b PT qLam H
  b0 : ∃ o, H0 b = some o
  t0 : ∃ o, H0 PT = some o
  nbt : b ≠ PT
  bag : BagAt H b n
  desk : DeskG FC DC CC H p.D p.tD p.cs (xnA p.n) (xsA p) .non
  hce : H p.ce = some (.lst (p.cs.map fun c => V.ref c.a))
  hwl : H wl = some (.lst (p.cs.map fun c => V.int c.v))
  hbl : H bl = some (.lst ((List.range many).map fun i => V.int (p.bd i)))
  zs : p.cs.map Ce.z = (List.range many).map nmK
  m8 : many ≤ 8
  ap : (lsts p wl bl ll dl).Nodup
  new : ∀ x ∈ lsts p wl bl ll dl, H0 x = none
  newf : ∀ x ∈ foot p.D p.tD p.cs, H0 x = none ∧ x ∉ lsts p wl bl ll dl
  fa : ∀ i < p.n, p.a i ∉ foot p.D p.tD p.cs ∧ H0 (p.a i) = none
  fn : ∀ i < p.n, nts i ∉ foot p.D p.tD p.cs
section
variable {FC DC CC KC : Addr} {H0 H H' : Hp} {b PT : Addr} {p : LPm} {nts : Nat → Addr} {many : Nat} {wl bl ll dl : Addr} {n m : Int}
theorem LB.nb (h : LB FC DC CC H0 b PT H p nts many wl bl ll dl n) {x : Addr} (e : H0 x = none) : x ≠ b := fun z => by
  obtain ⟨o, ho⟩ := h.b0
  rw [z, ho] at e; cases e
theorem LB.np (h : LB FC DC CC H0 b PT H p nts many wl bl ll dl n) {x : Addr} (e : H0 x = none) : x ≠ PT := fun z => by
  obtain ⟨o, ho⟩ := h.t0
  rw [z, ho] at e; cases e
theorem LB.len (h : LB FC DC CC H0 b PT H p nts many wl bl ll dl n) : p.cs.length = many := by
  have := congrArg List.length h.zs
  rwa [List.length_map, List.length_map, List.length_range] at this
theorem LB.up (h : LB FC DC CC H0 b PT H p nts many wl bl ll dl n) (e : n ≤ m) : LB FC DC CC H0 b PT H p nts many wl bl ll dl m := { h with bag := h.bag.up e }
theorem LB.bagL (h : LB FC DC CC H0 b PT H p nts many wl bl ll dl n) : ∃ l, H b = some (.lst l) := by
  obtain ⟨_, _, _, h, _⟩ := h.bag
  exact ⟨_, h⟩
/-- lists that are not spoken of -/
theorem LB.step {S : List Addr} (h : LB FC DC CC H0 b PT H p nts many wl bl ll dl n) (k : Kp S H H') (hS : ∀ x ∈ S, x ∈ [ll, dl, p.rl, p.al] ∧ ∃ l, H x = some (.lst l)) : LB FC DC CC H0 b PT H' p nts many wl bl ll dl n := by
  have sub : ∀ x ∈ [ll, dl, p.rl, p.al], x ∈ lsts p wl bl ll dl := fun x hx => by
    simp only [List.mem_cons, List.mem_nil_iff, or_false] at hx ⊢
    rcases hx with z | z | z | z <;> simp [z]
  have nS : ∀ {x}, x ∈ S → H0 x = none := fun hx => h.new _ (sub _ (hS _ hx).1)
  have nbS : b ∉ S := fun hx => h.nb (nS hx) rfl
  have ap := h.ap
  simp only [lsts, List.nodup_cons, List.mem_cons, List.mem_nil_iff, or_false, not_or, List.nodup_nil, and_true, not_false_eq_true] at ap
  obtain ⟨⟨w1, w2, w3, w4, w5, w6⟩, ⟨b2, b3, b4, b5, b6⟩, ⟨l3, l4, l5, l6⟩, ⟨d4, d5, d6⟩, ⟨r5, r6⟩, c6⟩ := ap
  have no : ∀ x, x ∈ [wl, bl, p.ce] → x ∉ S := fun x hx hs => by
    have := (hS x hs).1
    simp only [List.mem_cons, List.mem_nil_iff, or_false] at hx this
    rcases hx with rfl | rfl | rfl
    · rcases this with z | z | z | z
      · exact w2 z
      · exact w3 z
      · exact w4 z
      · exact w6 z
    · rcases this with z | z | z | z
      · exact b2 z
      · exact b3 z
      · exact b4 z
      · exact b6 z
    · rcases this with z | z | z | z
      · exact l5 z.symm
      · exact d5 z.symm
      · exact r5 z.symm
      · exact c6 z
  obtain ⟨l, hl⟩ := h.bagL
  exact ⟨h.out.step k ⟨l, k _ _ nbS hl⟩ fun x hx => ⟨.inr (nS hx), let ⟨l, hl⟩ := (hS x hx).2; ⟨_, hl, hard_l⟩⟩, h.b0, h.t0, h.nbt, h.bag.kp k nbS, h.desk.kp k (fun x hx hs => (h.newf x hx).2 (sub x (hS x hs).1)), k _ _ (no _ (by simp)) h.hce, k _ _ (no _ (by simp)) h.hwl, k _ _ (no _ (by simp)) h.hbl, h.zs, h.m8, h.ap, h.new, h.newf, h.fa, h.fn⟩
theorem LB.kp0 (h : LB FC DC CC H0 b PT H p nts many wl bl ll dl n) (k : Kp [] H H') : LB FC DC CC H0 b PT H' p nts many wl bl ll dl n := h.step k fun _ hx => nomatch hx
theorem LB.draw (h : LB FC DC CC H0 b PT H p nts many wl bl ll dl n) (k : Kp [b] H H') (hb : BagAt H' b m) : LB FC DC CC H0 b PT H' p nts many wl bl ll dl m := by
  obtain ⟨l, hl⟩ := h.bagL
  obtain ⟨_, _, _, hb1, _⟩ := id hb
  have nl : ∀ x ∈ lsts p wl bl ll dl, x ∉ [b] := fun x hx => by simpa using h.nb (h.new x hx)
  refine ⟨h.out.step k ⟨_, hb1⟩ (fun x hx => ?_), h.b0, h.t0, h.nbt, hb, h.desk.kp k (fun x hx => by simpa using h.nb (h.newf x hx).1), k _ _ (nl _ (by simp)) h.hce, k _ _ (nl _ (by simp)) h.hwl, k _ _ (nl _ (by simp)) h.hbl, h.zs, h.m8, h.ap, h.new, h.newf, h.fa, h.fn⟩
  rw [List.mem_singleton.mp hx]
  exact ⟨.inl rfl, _, hl, hard_l⟩
end
/-- answers are being made -/
structure Mk1 (FC DC CC KC : Addr) (H0 : Hp) (b PT : Addr) (H : Hp) (p : LPm) (nts : Nat → Addr) (many : Nat) (wl bl ll dl : Addr) (n : Int) : Prop where
  lb : LB FC DC CC H0 b PT H p nts many wl bl ll dl n
  le : p.n ≤ many
  q : p.q = qLam
  hal : H p.al = some (.lst ((List.range p.n).map fun i => V.ref (p.a i)))
  hrl : H p.rl = some (.lst (intsN many fun _ => 0))
  hll : H ll = some (.lst (List.replicate many V.non))
  hdl : H dl = some (.lst (intsN many fun _ => 0))
  lam : ∀ i < p.n, LamAt p H i
  me : ∀ i < p.n, H (p.a i) = some (.ins KC (p.ax i) (keptF (nmA i) 0 p.D.f (p.wk i) false .non (nts i)))
  nt : ∀ i < p.n, H (nts i) = some (.dK [])
  ntd : ∀ i j, i < p.n → j < p.n → nts i = nts j → i = j
  aa : ∀ i j, i < p.n → j < p.n → p.a i = p.a j → i = j
  cap : ∀ i < p.n, CsAt (p.cl i) N6 (capV p.rl p.ce p.al i (p.bd i) (p.cf i)) (p.gs i)
  gsd : ∀ i j, i < p.n → j < p.n → i ≠ j → ∀ c o, (p.gs i).lookup c = some o → (p.gs j).lookup c = none
  gl : ∀ i j, i < p.n → j < p.n → (p.gs j).lookup (p.wk i) = none ∧ (p.gs j).lookup (p.co i) = none
  gc : ∀ i < p.n, ∀ c o, (p.gs i).lookup c = some o → ∃ x, o.data = .cell x
section
variable {FC DC CC KC : Addr} {H0 H H' H'' : Hp} {b PT : Addr} {p : LPm} {nts : Nat → Addr} {many : Nat} {wl bl ll dl : Addr} {n m : Int}
theorem Mk1.draw (h : Mk1 FC DC CC KC H0 b PT H p nts many wl bl ll dl n) (k : Kp [b] H H') (hb : BagAt H' b m) : Mk1 FC DC CC KC H0 b PT H' p nts many wl bl ll dl m := by
  obtain ⟨l, hl⟩ := h.lb.bagL
  have nl : ∀ x ∈ lsts p wl bl ll dl, x ∉ [b] := fun x hx => by simpa using h.lb.nb (h.lb.new x hx)
  have g : ∀ {x : Addr} {o : HO}, H x = some o → kindO o ≠ 2 → H' x = some o := fun {x o} e n => k x o (fun z => by
    rw [List.mem_singleton.mp z, hl] at e; cases e; exact n rfl) e
  exact ⟨h.lb.draw k hb, h.le, h.q, k _ _ (nl _ (by simp)) h.hal, k _ _ (nl _ (by simp)) h.hrl, k _ _ (nl _ (by simp)) h.hll, k _ _ (nl _ (by simp)) h.hdl, fun i hi => (h.lam i hi).kp k (fun x hx o ho => by
    rw [List.mem_singleton.mp hx, hl] at ho; cases ho; exact (by decide : ¬ (2 = 3))), fun i hi => g (h.me i hi) (by show ¬ (7 + 10 = 2); decide), fun i hi => g (h.nt i hi) (by show ¬ (1 = 2); decide), h.ntd, h.aa, h.cap, h.gsd, h.gl, h.gc⟩
theorem Mk1.up (h : Mk1 FC DC CC KC H0 b PT H p nts many wl bl ll dl n) (e : n ≤ m) : Mk1 FC DC CC KC H0 b PT H p nts many wl bl ll dl m := { h with lb := h.lb.up e }
/-- one answer more -/
def LPm.more (p : LPm) (a ax lf c : Addr) (cl : List (Str × Addr)) (gs : Cells) (first : Bool) : LPm := { p with n := p.n + 1, a := ex p.n p.a a, ax := ex p.n p.ax ax, wk := ex p.n p.wk lf, cl := ex p.n p.cl cl, gs := ex p.n p.gs gs, co := ex p.n p.co c, cf := ex p.n p.cf first }
theorem all_succ {Q : Nat → Prop} {m : Nat} (h : ∀ i < m, Q i) (hm : Q m) : ∀ i < m + 1, Q i := fun i hi => by
  rcases Nat.lt_or_eq_of_le (Nat.le_of_lt_succ hi) with h1 | h1
  · exact h i h1
  · exact h1 ▸ hm
theorem Mk1.made {a ax nt lf c' : Addr} {cl : List (Str × Addr)} {gs : Cells} {first : Bool} (h : Mk1 FC DC CC KC H0 b PT H p nts many wl bl ll dl n) (lt : p.n < many) (k : Kp [PT, p.D.nD, p.D.sD] H H') (ha : H a = none) (hnt : H nt = none) (hlf : H lf = none) (ne : a ≠ nt)
    (D' : DeskG FC DC CC H' p.D p.tD p.cs (xnA p.n ++ [(Sum.inr (nmA p.n), .bl true)]) (xsA p ++ [(Sum.inr (nmA p.n), .ref a)]) .non) (me : H' a = some (.ins KC ax (keptF (nmA p.n) 0 p.D.f lf false .non nt))) (hnt' : H' nt = some (.dK [])) (tab : TabS H' PT qLam)
    (lam : H' lf = some (LamO lf (lamN qLam cl c') (lamBod lamX))) (code : H' c' = some (CodeO c' qLam)) (cap : CsAt cl N6 (capV p.rl p.ce p.al p.n (p.bd p.n) first) gs) (hgs : ∀ c o, gs.lookup c = some o → H c = none ∧ H' c = some (CO c o) ∧ ∃ x, o.data = .cell x) (g1 : gs.lookup lf = none) (g2 : gs.lookup c' = none)
    (e : upd H' p.al (.lst (((List.range p.n).map fun i => V.ref (p.a i)) ++ [.ref a])) = H'') : Mk1 FC DC CC KC H0 b PT H'' (p.more a ax lf c' cl gs first) (ex p.n nts nt) many wl bl ll dl n := by
  have al' : H'' p.al = some (.lst (((List.range p.n).map fun i => V.ref (p.a i)) ++ [.ref a])) := by rw [← e]; exact upd_same
  have k2 : Kp [p.al] H' H'' := by rw [← e]; exact Kp.put (by simp)
  have inF : ∀ x ∈ [p.D.nD, p.D.sD], x ∈ foot p.D p.tD p.cs := fun x hx => by
    simp only [List.mem_cons, List.mem_nil_iff, or_false] at hx
    rcases hx with rfl | rfl <;> exact List.mem_append_left _ (by simp)
  have nL : ∀ x ∈ lsts p wl bl ll dl, x ∉ [PT, p.D.nD, p.D.sD] := fun x hx hm => by
    rcases List.mem_cons.mp hm with z | hm
    · exact h.lb.np (h.lb.new x hx) z
    · exact (h.lb.newf x (inF x hm)).2 hx
  have nbS : b ∉ [PT, p.D.nD, p.D.sD] := fun hm => by
    rcases List.mem_cons.mp hm with z | hm
    · exact h.lb.nbt z
    · exact h.lb.nb (h.lb.newf b (inF b hm)).1 rfl
  have al1 := k _ _ (nL _ (by simp)) h.hal
  have nalf : p.al ∉ foot p.D p.tD p.cs := fun hm => (h.lb.newf _ hm).2 (by simp)
  have ap := h.lb.ap
  simp only [lsts, List.nodup_cons, List.mem_cons, List.mem_nil_iff, or_false, not_or, List.nodup_nil, and_true, not_false_eq_true] at ap
  obtain ⟨⟨w1, w2, w3, w4, w5, w6⟩, ⟨b2, b3, b4, b5, b6⟩, ⟨l3, l4, l5, l6⟩, ⟨d4, d5, d6⟩, ⟨r5, r6⟩, c6⟩ := ap
  obtain ⟨l, hl⟩ := h.lb.bagL
  have bl1 := k _ _ nbS hl
  have nba : b ≠ p.al := (h.lb.nb (h.lb.new p.al (by simp))).symm
  have k0 : Kp [b, PT] H0 H' := fun x u nx e => by
    refine k x u (fun hm => ?_) (h.lb.out.kp x u nx e)
    rcases List.mem_cons.mp hm with z | hm
    · exact nx (by rw [z]; simp)
    · rw [(h.lb.newf x (inF x hm)).1] at e; cases e
  have O1 : Out H0 b PT qLam H' := ⟨k0, tab, l, bl1⟩
  have O2 : Out H0 b PT qLam H'' := O1.step k2 ⟨l, k2 _ _ (by simpa using nba) bl1⟩ fun x hx => by
    rw [List.mem_singleton.mp hx]
    exact ⟨.inr (h.lb.new p.al (by simp)), _, al1, hard_l⟩
  have D2 := D'.kp k2 fun x hx hm => nalf (by rw [← List.mem_singleton.mp hm]; exact hx)
  have exn : xnA (p.n + 1) = xnA p.n ++ [(Sum.inr (nmA p.n), V.bl true)] := by unfold xnA; rw [List.range_succ, List.map_append]; rfl
  have exs : xsA (p.more a ax lf c' cl gs first) = xsA p ++ [(Sum.inr (nmA p.n), V.ref a)] := ex_map fun i x => ((Sum.inr (nmA i) : Key), V.ref x)
  rw [← exn, ← exs] at D2
  -- what stood stands
  have get : ∀ {x : Addr} {o : HO}, H x = some o → (kindO o = 3 ∨ kindO o = 17 ∨ (kindO o = 1 ∧ x ∉ foot p.D p.tD p.cs)) → H'' x = some o := fun {x o} e hk => by
    have n1 : x ∉ [PT, p.D.nD, p.D.sD] := fun hm => by
      rcases List.mem_cons.mp hm with z | hm
      · obtain ⟨ps, ht, _⟩ := h.lb.out.tab
        rw [z, ht] at e; cases e
        rcases hk with z | z | ⟨z, _⟩ <;> exact absurd z (by show ¬ (4 = _); decide)
      · rcases hk with z | z | ⟨_, z⟩
        · simp only [List.mem_cons, List.mem_nil_iff, or_false] at hm
          rcases hm with y | y
          · rw [y, h.lb.desk.names] at e; cases e; exact absurd z (by show ¬ (1 = _); decide)
          · rw [y, h.lb.desk.sources] at e; cases e; exact absurd z (by show ¬ (1 = _); decide)
        · simp only [List.mem_cons, List.mem_nil_iff, or_false] at hm
          rcases hm with y | y
          · rw [y, h.lb.desk.names] at e; cases e; exact absurd z (by show ¬ (1 = _); decide)
          · rw [y, h.lb.desk.sources] at e; cases e; exact absurd z (by show ¬ (1 = _); decide)
        · exact z (inF x hm)
    refine k2 x o (fun hm => ?_) (k x o n1 e)
    rw [List.mem_singleton.mp hm, h.hal] at e
    cases e
    rcases hk with z | z | ⟨z, _⟩ <;> exact absurd z (by show ¬ (2 = _); decide)
  have new2 : ∀ {x : Addr} {o : HO}, H x = none → H' x = some o → H'' x = some o := fun {x o} e e' => k2 x o (fun hm => by
    rw [List.mem_singleton.mp hm, h.hal] at e; cases e) e'
  have nf : ∀ {x : Addr}, H x = none → x ∉ foot p.D p.tD p.cs := fun {x} e hm => by
    obtain ⟨o, ho⟩ := h.lb.desk.there x hm
    rw [e] at ho; cases ho
  have c2 : H'' c' = some (CodeO c' qLam) := k2 _ _ (fun hm => by rw [List.mem_singleton.mp hm, al1] at code; cases code) code
  have gH : ∀ {i : Nat}, i < p.n → ∀ c o, (p.gs i).lookup c = some o → H c = some (CO c o) := fun hi => (h.lam _ hi).cap
  refine ⟨⟨O2, h.lb.b0, h.lb.t0, h.lb.nbt, (h.lb.bag.kp k nbS).kp k2 (by simpa using nba), D2, ?_, ?_, ?_, h.lb.zs, h.lb.m8, h.lb.ap, h.lb.new, h.lb.newf, all_succ (fun i hi => ?_) ?_, all_succ (fun i hi => ?_) ?_⟩, lt, h.q, ?_, ?_, ?_, ?_, all_succ (fun i hi => ?_) ?_, all_succ (fun i hi => ?_) ?_, all_succ (fun i hi => ?_) ?_, fun i j hi hj => ?_, fun i j hi hj => ?_, all_succ (fun i hi => ?_) ?_, fun i j hi hj ne c o => ?_, fun i j hi hj => ?_, all_succ (fun i hi => ?_) ?_⟩
  · exact k2 p.ce _ (by simpa using c6) (k _ _ (nL _ (by simp)) h.lb.hce)
  · exact k2 _ _ (by simpa using w6) (k _ _ (nL _ (by simp)) h.lb.hwl)
  · exact k2 _ _ (by simpa using b6) (k _ _ (nL _ (by simp)) h.lb.hbl)
  · show ex p.n p.a a i ∉ _ ∧ H0 (ex p.n p.a a i) = none
    rw [ex_ne hi]; exact h.lb.fa i hi
  · show ex p.n p.a a p.n ∉ _ ∧ H0 (ex p.n p.a a p.n) = none
    rw [ex_self]; exact ⟨nf ha, h.lb.out.nil0 ha⟩
  · show ex p.n nts nt i ∉ _
    rw [ex_ne hi]; exact h.lb.fn i hi
  · show ex p.n nts nt p.n ∉ _
    rw [ex_self]; exact nf hnt
  · show H'' p.al = some (.lst ((List.range (p.n + 1)).map fun i => V.ref (ex p.n p.a a i)))
    rw [al', ex_map fun _ x => V.ref x]
  · exact k2 p.rl _ (by simpa using r6) (k _ _ (nL _ (by simp)) h.hrl)
  · exact k2 _ _ (by simpa using l6) (k _ _ (nL _ (by simp)) h.hll)
  · exact k2 _ _ (by simpa using d6) (k _ _ (nL _ (by simp)) h.hdl)
  · have y := h.lam i hi
    refine ⟨?_, ?_, fun c o => ?_⟩
    · show H'' (ex p.n p.wk lf i) = some (LamO (ex p.n p.wk lf i) (lamN p.q (ex p.n p.cl cl i) (ex p.n p.co c' i)) (lamBod lamX))
      rw [ex_ne hi, ex_ne hi, ex_ne hi]; exact get y.lam (.inl rfl)
    · show H'' (ex p.n p.co c' i) = some (CodeO (ex p.n p.co c' i) p.q)
      rw [ex_ne hi]; exact get y.code (.inl rfl)
    · show (ex p.n p.gs gs i).lookup c = some o → _
      rw [ex_ne hi]; exact fun e => get (y.cap c o e) (.inl rfl)
  · refine ⟨?_, ?_, fun c o => ?_⟩
    · show H'' (ex p.n p.wk lf p.n) = some (LamO (ex p.n p.wk lf p.n) (lamN p.q (ex p.n p.cl cl p.n) (ex p.n p.co c' p.n)) (lamBod lamX))
      rw [ex_self, ex_self, ex_self, h.q]; exact new2 hlf lam
    · show H'' (ex p.n p.co c' p.n) = some (CodeO (ex p.n p.co c' p.n) p.q)
      rw [ex_self, h.q]; exact c2
    · show (ex p.n p.gs gs p.n).lookup c = some o → _
      rw [ex_self]; exact fun e => new2 (hgs c o e).1 (hgs c o e).2.1
  · show H'' (ex p.n p.a a i) = some (.ins KC (ex p.n p.ax ax i) (keptF (nmA i) 0 p.D.f (ex p.n p.wk lf i) false .non (ex p.n nts nt i)))
    rw [ex_ne hi, ex_ne hi, ex_ne hi, ex_ne hi]; exact get (h.me i hi) (.inr (.inl rfl))
  · show H'' (ex p.n p.a a p.n) = some (.ins KC (ex p.n p.ax ax p.n) (keptF (nmA p.n) 0 p.D.f (ex p.n p.wk lf p.n) false .non (ex p.n nts nt p.n)))
    rw [ex_self, ex_self, ex_self, ex_self]; exact new2 ha me
  · show H'' (ex p.n nts nt i) = _
    rw [ex_ne hi]; exact get (h.nt i hi) (.inr (.inr ⟨rfl, h.lb.fn i hi⟩))
  · show H'' (ex p.n nts nt p.n) = _
    rw [ex_self]; exact new2 hnt hnt'
  · show ex p.n nts nt i = ex p.n nts nt j → i = j
    rcases Nat.lt_or_eq_of_le (Nat.le_of_lt_succ hi) with h1 | h1 <;> rcases Nat.lt_or_eq_of_le (Nat.le_of_lt_succ hj) with h2 | h2
    · rw [ex_ne h1, ex_ne h2]; exact h.ntd i j h1 h2
    · rw [ex_ne h1, h2, ex_self]; exact fun z => by have := h.nt i h1; rw [z, hnt] at this; cases this
    · rw [ex_ne h2, h1, ex_self]; exact fun z => by have := h.nt j h2; rw [← z, hnt] at this; cases this
    · exact fun _ => h1.trans h2.symm
  · show ex p.n p.a a i = ex p.n p.a a j → i = j
    rcases Nat.lt_or_eq_of_le (Nat.le_of_lt_succ hi) with h1 | h1 <;> rcases Nat.lt_or_eq_of_le (Nat.le_of_lt_succ hj) with h2 | h2
    · rw [ex_ne h1, ex_ne h2]; exact h.aa i j h1 h2
    · rw [ex_ne h1, h2, ex_self]; exact fun z => by have := h.me i h1; rw [z, ha] at this; cases this
    · rw [ex_ne h2, h1, ex_self]; exact fun z => by have := h.me j h2; rw [← z, ha] at this; cases this
    · exact fun _ => h1.trans h2.symm
  · show CsAt (ex p.n p.cl cl i) N6 (capV p.rl p.ce p.al i (p.bd i) (ex p.n p.cf first i)) (ex p.n p.gs gs i)
    rw [ex_ne hi, ex_ne hi, ex_ne hi]; exact h.cap i hi
  · show CsAt (ex p.n p.cl cl p.n) N6 (capV p.rl p.ce p.al p.n (p.bd p.n) (ex p.n p.cf first p.n)) (ex p.n p.gs gs p.n)
    rw [ex_self, ex_self, ex_self]; exact cap
  · show (ex p.n p.gs gs i).lookup c = some o → (ex p.n p.gs gs j).lookup c = none
    rcases Nat.lt_or_eq_of_le (Nat.le_of_lt_succ hi) with h1 | h1 <;> rcases Nat.lt_or_eq_of_le (Nat.le_of_lt_succ hj) with h2 | h2
    · rw [ex_ne h1, ex_ne h2]; exact h.gsd i j h1 h2 ne c o
    · rw [ex_ne h1, h2, ex_self]
      intro e1
      cases e2 : gs.lookup c with
      | none => rfl
      | some o' => have := gH h1 c o e1; rw [(hgs c o' e2).1] at this; cases this
    · rw [ex_ne h2, h1, ex_self]
      intro e1
      cases e2 : (p.gs j).lookup c with
      | none => rfl
      | some o' => have := gH h2 c o' e2; rw [(hgs c o e1).1] at this; cases this
    · exact absurd (h1.trans h2.symm) ne
  · show (ex p.n p.gs gs j).lookup (ex p.n p.wk lf i) = none ∧ (ex p.n p.gs gs j).lookup (ex p.n p.co c' i) = none
    have nog : ∀ {x : Addr} {u : HO}, H x = some u → gs.lookup x = none := fun {x u} e => by
      cases e2 : gs.lookup x with
      | none => rfl
      | some o' => rw [(hgs x o' e2).1] at e; cases e
    rcases Nat.lt_or_eq_of_le (Nat.le_of_lt_succ hi) with h1 | h1 <;> rcases Nat.lt_or_eq_of_le (Nat.le_of_lt_succ hj) with h2 | h2
    · rw [ex_ne h2, ex_ne h1, ex_ne h1]; exact h.gl i j h1 h2
    · rw [ex_ne h1, ex_ne h1, h2, ex_self]
      exact ⟨nog (h.lam i h1).lam, nog (h.lam i h1).code⟩
    · rw [ex_ne h2, h1, ex_self, ex_self]
      refine ⟨?_, ?_⟩
      · cases e2 : (p.gs j).lookup lf with
        | none => rfl
        | some o' => have := gH h2 lf o' e2; rw [hlf] at this; cases this
      · cases e2 : (p.gs j).lookup c' with
        | none => rfl
        | some o' =>
          have y := get (gH h2 c' o' e2) (.inl rfl)
          rw [c2] at y
          obtain ⟨x, hx⟩ := h.gc j h2 c' o' e2
          exact absurd (Option.some.inj y).symm (co_code hx)
    · rw [h1, h2, ex_self, ex_self, ex_self]
      exact ⟨g1, g2⟩
  · show ∀ c o, (ex p.n p.gs gs i).lookup c = some o → _
    rw [ex_ne hi]; exact h.gc i hi
  · show ∀ c o, (ex p.n p.gs gs p.n).lookup c = some o → _
    rw [ex_self]; exact fun c o e => (hgs c o e).2.2
end
end My

set_option Elab.async false
set_option linter.all false
set_option maxRecDepth 100000
set_option maxHeartbeats 4000000
/-! G11: the law's state while the ladder is read. -/
namespace My
open PySem PySem.Spec PyProof.Rows L2 LamX NdefX
def LPm.at_ (p : LPm) (tD : Addr) (cs : List Ce) : LPm := { p with tD := tD, cs := cs }
/-- st, ns: what the answers are at; st', ns': what the law holds of them -/
structure LS (FC DC CC KC : Addr) (H0 : Hp) (b PT : Addr) (H : Hp) (p : LPm) (st : Sta) (ns : Nat → Nat) (st' : Sta) (ns' : Nat → Nat) (nts : Nat → Addr) (wl bl ll dl : Addr) (n : Int) : Prop where
  lb : LB FC DC CC H0 b PT H p nts p.n wl bl ll dl n
  s : LadS p
  lad : Lad FC CC KC p H .non st ns nts p.n
  last : LastAt p H ll st'
  hdl : H dl = some (.lst (intsN p.n ns'))
def spAny (P : Program) (w : World) (K : PySem.W.Frag) (mg : Str → Option Value) (base : Heap) (FC CC KC RC : Addr) : Sp := fun vs H Q E => ∃ j, j < 8 ∧ spCallN FC KC RC (spCN P w K mg base FC CC KC RC (j + 1)) vs H Q E
theorem fnOk_ex {P : Program} {w : World} {K : PySem.W.Frag} {mg : Str → Option Value} {base : Heap} {k m : Nat} {f : Addr} {fd : FuncData} {ps : List Str} {sp : Nat → Sp} (o : ∀ j < m, FnOk P w K mg base CX0 k f fd ps (sp j)) : FnOk P w K mg base CX0 k f fd ps (fun vs H Q E => ∃ j, j < m ∧ sp j vs H Q E) :=
  ⟨fun vs H Q E ⟨j, hj, h⟩ => (o j hj).len vs H Q E h, fun A outer s H args us vs Q E hr e0 b r ⟨j, hj, h⟩ => (o j hj).run A outer s H args us vs Q E hr e0 b r h⟩
section
variable {P : Program} {w : World} {K : PySem.W.Frag} {mg : Str → Option Value} {base : Heap} {FC DC CC RC KC : Addr} {H0 H H' H1 H2 : Hp} {b PT : Addr} {p : LPm} {st st' : Sta} {ns ns' : Nat → Nat} {nts nts' : Nat → Addr} {many : Nat} {wl bl ll dl : Addr} {n m : Int} {j : Nat}
theorem Mk1.toLS (h : Mk1 FC DC CC KC H0 b PT H p nts many wl bl ll dl n) (e : p.n = many) : LS FC DC CC KC H0 b PT H p (fun _ => none) (fun _ => 0) (fun _ => none) (fun _ => 0) nts wl bl ll dl n := by
  subst e
  have m8 := h.lb.m8
  have ap := h.lb.ap
  simp only [lsts, List.nodup_cons, List.mem_cons, List.mem_nil_iff, or_false, not_or, List.nodup_nil, and_true, not_false_eq_true] at ap
  obtain ⟨_, _, _, _, ⟨r5, r6⟩, _⟩ := ap
  refine ⟨h.lb, ⟨h.lb.len, ?_, fun i j hi hj => nmA_inj (by omega) (by omega), fun c hc i hi e => ?_, h.aa, h.cap, h.gsd, h.gl, ⟨r5, r6⟩, m8⟩, ⟨h.lb.desk.floor, h.lb.desk.sources, h.lb.hce, h.hal, h.hrl, fun c hc => (h.lb.desk.cell c hc).1, h.lam, h.me, fun i hi => ⟨h.nt i hi, fun e => ?_⟩, h.ntd, fun x e => nomatch e⟩, ⟨_, h.hll, List.length_replicate, fun i hi => ?_⟩, h.hdl⟩
  · rw [h.lb.zs]; exact nm_nd.sublist ((range_sub m8).map nmK)
  · have : c.z ∈ p.cs.map Ce.z := List.mem_map_of_mem hc
    rw [h.lb.zs] at this
    obtain ⟨k, hk, ek⟩ := List.mem_map.mp this
    exact nmA_nmK k (by have := List.mem_range.mp hk; omega) i (by omega) (ek.trans e)
  · exact h.lb.fn i hi (by rw [e]; exact List.mem_append_left _ (by simp))
  · show (List.replicate p.n V.non)[i]? = some .non
    rw [List.getElem?_replicate, if_pos hi]
theorem LS.apD (h : LS FC DC CC KC H0 b PT H p st ns st' ns' nts wl bl ll dl n) : (p.ce ≠ p.rl ∧ p.al ≠ p.rl ∧ wl ≠ p.rl ∧ bl ≠ p.rl ∧ ll ≠ p.rl ∧ dl ≠ p.rl) ∧ (wl ≠ p.ce ∧ wl ≠ p.al ∧ ll ≠ p.ce ∧ ll ≠ p.al ∧ dl ≠ p.ce ∧ dl ≠ p.al) ∧ wl ≠ bl ∧ wl ≠ ll ∧ wl ≠ dl ∧ bl ≠ ll ∧ bl ≠ dl ∧ ll ≠ dl := by
  have ap := h.lb.ap
  simp only [lsts, List.nodup_cons, List.mem_cons, List.mem_nil_iff, or_false, not_or, List.nodup_nil, and_true, not_false_eq_true] at ap
  obtain ⟨⟨w1, w2, w3, w4, w5, w6⟩, ⟨b2, b3, b4, b5, b6⟩, ⟨l3, l4, l5, l6⟩, ⟨d4, d5, d6⟩, ⟨r5, r6⟩, c6⟩ := ap
  exact ⟨⟨Ne.symm r5, Ne.symm r6, w4, b4, l4, d4⟩, ⟨w5, w6, l5, l6, d5, d6⟩, w1, w2, w3, b2, b3, l3⟩
theorem LS.up (h : LS FC DC CC KC H0 b PT H p st ns st' ns' nts wl bl ll dl n) (e : n ≤ m) : LS FC DC CC KC H0 b PT H p st ns st' ns' nts wl bl ll dl m := { h with lb := h.lb.up e }
theorem LS.draw (h : LS FC DC CC KC H0 b PT H p st ns st' ns' nts wl bl ll dl n) (k : Kp [b] H H') (hb : BagAt H' b m) : LS FC DC CC KC H0 b PT H' p st ns st' ns' nts wl bl ll dl m := by
  obtain ⟨l, hl⟩ := h.lb.bagL
  have nl : ∀ x ∈ lsts p wl bl ll dl, x ≠ b := fun x hx => h.lb.nb (h.lb.new x hx)
  refine ⟨h.lb.draw k hb, h.s, h.lad.kp k fun x hx => ?_, h.last.kp k (by simpa using nl ll (by simp)) fun x hx ys hy => ?_, k _ _ (by simpa using nl dl (by simp)) h.hdl⟩
  · obtain rfl : x = b := by simpa using hx
    refine ⟨h.lad.out hl (.inl (by show ¬ (2 = 1); decide)) (.inr ⟨(nl p.ce (by simp)).symm, (nl p.al (by simp)).symm⟩) (.inl (by show ¬ (2 = 3); decide)) (by show ¬ (2 = 13); decide) (.inl (by show ¬ (2 = 17); decide)), fun e => ?_, (nl p.rl (by simp)).symm⟩
    rw [e, h.lad.fl] at hl; cases hl
  · rw [List.mem_singleton.mp hx, hl] at hy; cases hy
theorem LS.kp0 (h : LS FC DC CC KC H0 b PT H p st ns st' ns' nts wl bl ll dl n) (k : Kp [] H H') : LS FC DC CC KC H0 b PT H' p st ns st' ns' nts wl bl ll dl n :=
  ⟨h.lb.kp0 k, h.s, h.lad.kp k (fun x hx => nomatch hx), h.last.kp k (by simp) (fun x hx => nomatch hx), k _ _ (by simp) h.hdl⟩
/-- the law's own account is brought up to date -/
theorem LS.law {st2 : Sta} {ns2 : Nat → Nat} (h : LS FC DC CC KC H0 b PT H p st ns st' ns' nts wl bl ll dl n) (k : Kp [ll, dl] H H') (hL : LastAt p H' ll st2) (hd : H' dl = some (.lst (intsN p.n ns2))) : LS FC DC CC KC H0 b PT H' p st ns st2 ns2 nts wl bl ll dl n := by
  obtain ⟨L, l1, _⟩ := h.last.ex
  obtain ⟨⟨_, _, _, _, a1, a2⟩, ⟨_, _, c3, c4, c5, c6⟩, _⟩ := h.apD
  have ls : ∀ x ∈ [ll, dl], x ∈ [ll, dl, p.rl, p.al] ∧ ∃ l, H x = some (.lst l) := fun x hx => by
    simp only [List.mem_cons, List.mem_nil_iff, or_false] at hx
    rcases hx with rfl | rfl
    · exact ⟨by simp, _, l1⟩
    · exact ⟨by simp, _, h.hdl⟩
  refine ⟨h.lb.step k ls, h.s, h.lad.kp k fun x hx => ?_, hL, hd⟩
  have hx' := hx
  simp only [List.mem_cons, List.mem_nil_iff, or_false] at hx
  obtain ⟨l, hl⟩ := (ls x hx').2
  refine ⟨h.lad.out hl (.inl (by show ¬ (2 = 1); decide)) (.inr ?_) (.inl (by show ¬ (2 = 3); decide)) (by show ¬ (2 = 13); decide) (.inl (by show ¬ (2 = 17); decide)), fun e => ?_, ?_⟩
  · rcases hx with rfl | rfl
    · exact ⟨c3, c4⟩
    · exact ⟨c5, c6⟩
  · rw [e, h.lad.fl] at hl; cases hl
  · rcases hx with rfl | rfl
    · exact a1
    · exact a2
theorem zC_of {cs cs' : List Ce} (e : cs'.map Ce.z = cs.map Ce.z) (i : Nat) : zC cs' i = zC cs i := by
  unfold zC
  rw [← List.getElem?_map, ← List.getElem?_map, e]
/-- a cell is put -/
theorem LS.put {t' : Addr} {i : Nat} {d : Ce} {v : Int} (h : LS FC DC CC KC H0 b PT H p st ns st' ns' nts wl bl ll dl n) (hi : p.cs[i]? = some d) (e1 : upd H wl (.lst ((p.cs.map fun c => V.int c.v).set i (.int v))) = H1) (k : Kp [p.D.f, p.tD, d.a] H1 H2) (ht : H1 t' = none) (D2 : DeskG FC DC CC H2 p.D t' (p.cs.set i (d.to v)) (xnA p.n) (xsA p) .non) :
    LS FC DC CC KC H0 b PT H2 (p.at_ t' (p.cs.set i (d.to v))) st ns st' ns' nts wl bl ll dl n := by
  obtain ⟨⟨a1, a2, a3, a4, a5, a6⟩, ⟨c1, c2, c3, c4, c5, c6⟩, f1, f2, f3, f4, f5, f6⟩ := h.apD
  have k1 : Kp [wl] H H1 := by rw [← e1]; exact Kp.put (by simp)
  have w1 : H1 wl = some (.lst ((p.cs.map fun c => V.int c.v).set i (.int v))) := by rw [← e1]; exact upd_same
  have hd := List.mem_of_getElem? hi
  have in3 : ∀ x ∈ [p.D.f, p.tD, d.a], x ∈ foot p.D p.tD p.cs := fun x hx => by
    simp only [List.mem_cons, List.mem_nil_iff, or_false] at hx
    rcases hx with rfl | rfl | rfl
    · exact List.mem_append_left _ (by simp)
    · exact List.mem_append_left _ (by simp)
    · exact List.mem_append_right _ (List.mem_map_of_mem hd)
  have nl3 : ∀ x ∈ lsts p wl bl ll dl, x ∉ [p.D.f, p.tD, d.a] := fun x hx hm => (h.lb.newf x (in3 x hm)).2 hx
  have nwf : ∀ x ∈ foot p.D p.tD p.cs, x ∉ [wl] := fun x hx hm => (h.lb.newf x hx).2 (by rw [List.mem_singleton.mp hm]; simp)
  have nbw : b ∉ [wl] := by simpa using (h.lb.nb (h.lb.new wl (by simp))).symm
  have nb3 : b ∉ [p.D.f, p.tD, d.a] := fun hm => h.lb.nb (h.lb.newf b (in3 b hm)).1 rfl
  have D1 := h.lb.desk.kp k1 nwf
  have K12 : Kp [wl, p.D.f, p.tD, d.a] H H2 := (k1.mono (by simp)).trans (k.mono fun x hx => List.mem_cons_of_mem _ hx)
  obtain ⟨l, hl⟩ := h.lb.bagL
  have O1 : Out H0 b PT qLam H1 := h.lb.out.step k1 ⟨l, k1 _ _ nbw hl⟩ fun x hx => by
    rw [List.mem_singleton.mp hx]
    exact ⟨.inr (h.lb.new wl (by simp)), _, h.lb.hwl, hard_l⟩
  have O2 : Out H0 b PT qLam H2 := O1.step k ⟨l, k _ _ nb3 (k1 _ _ nbw hl)⟩ fun x hx => by
    refine ⟨.inr (h.lb.newf x (in3 x hx)).1, ?_⟩
    simp only [List.mem_cons, List.mem_nil_iff, or_false] at hx
    rcases hx with rfl | rfl | rfl
    · exact ⟨_, D1.floor, hard_i⟩
    · exact ⟨_, D1.turned, hard_d⟩
    · exact ⟨_, (D1.cell d hd).1, hard_i⟩
  have lst2 : ∀ {x : Addr} {o : HO}, x ∈ lsts p wl bl ll dl → x ≠ wl → H x = some o → H2 x = some o := fun {x o} hx n e => k _ _ (nl3 x hx) (k1 _ _ (by simpa using n) e)
  have ez : (p.cs.set i (d.to v)).map Ce.z = p.cs.map Ce.z := map_set Ce.z hi rfl
  have ea : (p.cs.set i (d.to v)).map Ce.a = p.cs.map Ce.a := map_set Ce.a hi rfl
  have er : ((p.cs.set i (d.to v)).map fun c => V.ref c.a) = p.cs.map fun c => V.ref c.a := map_set (fun c => V.ref c.a) hi rfl
  have ft : ∀ {x : Addr}, x ∈ foot p.D t' (p.cs.set i (d.to v)) → x = t' ∨ x ∈ foot p.D p.tD p.cs := fun hx => foot_to ea hx
  have new1 : ∀ {x : Addr} {o : HO}, H x = some o → x ≠ t' := fun {x o} e z => by
    by_cases hw : x = wl
    · rw [← z, hw, w1] at ht; cases ht
    · rw [← z, k1 _ _ (by simpa using hw) e] at ht; cases ht
  -- what the answers are made of
  have gk : ∀ {x : Addr} {o : HO}, H x = some o → (kindO o = 3 ∨ kindO o = 17 ∨ (kindO o = 1 ∧ x ∉ foot p.D p.tD p.cs)) → H2 x = some o := fun {x o} e hk => K12 x o (fun hm => by
    rcases List.mem_cons.mp hm with z | hm
    · rw [z, h.lb.hwl] at e; cases e
      rcases hk with y | y | ⟨y, _⟩ <;> exact absurd y (by show ¬ (2 = _); decide)
    · rcases hk with y | y | ⟨_, y⟩
      · simp only [List.mem_cons, List.mem_nil_iff, or_false] at hm
        rcases hm with z | z | z
        · rw [z, h.lad.fl] at e; cases e; exact absurd y (by show ¬ (9 + 10 = 3); decide)
        · rw [z, h.lb.desk.turned] at e; cases e; exact absurd y (by show ¬ (1 = 3); decide)
        · rw [z, (h.lb.desk.cell d hd).1] at e; cases e; exact absurd y (by show ¬ (3 + 10 = 3); decide)
      · simp only [List.mem_cons, List.mem_nil_iff, or_false] at hm
        rcases hm with z | z | z
        · rw [z, h.lad.fl] at e; cases e; exact absurd y (by show ¬ (9 + 10 = 17); decide)
        · rw [z, h.lb.desk.turned] at e; cases e; exact absurd y (by show ¬ (1 = 17); decide)
        · rw [z, (h.lb.desk.cell d hd).1] at e; cases e; exact absurd y (by show ¬ (3 + 10 = 17); decide)
      · exact y (in3 x hm)) e
  have ek : ∀ i x, (p.at_ t' (p.cs.set i (d.to v))).kvs i x = (p.at_ t' (p.cs.set i (d.to v))).kvs i x := fun _ _ => rfl
  have ekv : ∀ (k : Nat) (x : Option (Int × Int)), (p.at_ t' (p.cs.set i (d.to v))).kvs k x = p.kvs k x := fun k x => by
    cases x with
    | none => rfl
    | some x =>
      have e0 := zC_of ez 0
      have e1 := zC_of ez k
      simp only [LPm.kvs, LPm.at_, e0, e1]
  obtain ⟨L, l1, l2, l3⟩ := h.last.ex
  refine ⟨⟨O2, h.lb.b0, h.lb.t0, h.lb.nbt, (h.lb.bag.kp k1 nbw).kp k nb3, D2, ?_, ?_, lst2 (by simp) (Ne.symm f1) h.lb.hbl, ez.trans h.lb.zs, h.lb.m8, h.lb.ap, h.lb.new, fun x hx => ?_, fun k hk => ⟨fun hx => ?_, (h.lb.fa k hk).2⟩, fun k hk hx => ?_⟩,
    ⟨by show (p.cs.set i (d.to v)).length = p.n; rw [List.length_set]; exact h.s.len, by show ((p.cs.set i (d.to v)).map Ce.z).Nodup; rw [ez]; exact h.s.zs, h.s.nm, fun c hc k hk e => ?_, h.s.aa, h.s.cap, h.s.gsd, h.s.gl, h.s.ap, h.s.n8⟩,
    ⟨D2.floor, D2.sources, ?_, lst2 (x := p.al) (by simp) (Ne.symm c2) h.lad.hal, lst2 (x := p.rl) (by simp) (Ne.symm a3) h.lad.hrl, fun c hc => (D2.cell c hc).1, fun k hk => ⟨gk (h.lad.lam k hk).lam (.inl rfl), gk (h.lad.lam k hk).code (.inl rfl), fun c o e => gk ((h.lad.lam k hk).cap c o e) (.inl rfl)⟩, fun k hk => gk (h.lad.me k hk) (.inr (.inl rfl)), fun k hk => ⟨?_, (h.lad.nt k hk).2⟩, h.lad.ntd, h.lad.z0⟩,
    ⟨L, lst2 (by simp) (Ne.symm f2) l1, l2, fun k hk => (l3 k hk).kp K12 fun x hx ys hy => ?_⟩, lst2 (by simp) (Ne.symm f3) h.hdl⟩
  · show H2 p.ce = some (.lst ((p.cs.set i (d.to v)).map fun c => V.ref c.a))
    rw [er]; exact lst2 (by simp) (Ne.symm c1) h.lb.hce
  · show H2 wl = some (.lst ((p.cs.set i (d.to v)).map fun c => V.int c.v))
    rw [List.map_set]
    exact k _ _ (nl3 wl (by simp)) w1
  · rcases ft hx with z | z
    · refine ⟨O1.nil0 (by rw [z]; exact ht), fun hm => ?_⟩
      have : ∃ o, H x = some o := by
        simp only [lsts, List.mem_cons, List.mem_nil_iff, or_false] at hm
        rcases hm with y | y | y | y | y | y | y <;> rw [y]
        · exact ⟨_, h.lb.hwl⟩
        · exact ⟨_, h.lb.hbl⟩
        · exact ⟨_, l1⟩
        · exact ⟨_, h.hdl⟩
        · exact ⟨_, h.lad.hrl⟩
        · exact ⟨_, h.lb.hce⟩
        · exact ⟨_, h.lad.hal⟩
      obtain ⟨o, ho⟩ := this
      exact new1 ho z
    · exact h.lb.newf x z
  · rcases ft hx with z | z
    · exact new1 (h.lad.me k hk) z
    · exact (h.lb.fa k hk).1 z
  · rcases ft hx with z | z
    · exact new1 (h.lad.nt k hk).1 z
    · exact h.lb.fn k hk z
  · have : c.z ∈ (p.cs.set i (d.to v)).map Ce.z := List.mem_map_of_mem hc
    rw [ez] at this
    obtain ⟨c0, hc0, e0⟩ := List.mem_map.mp this
    exact h.s.nz c0 hc0 k hk (e0.trans e)
  · show H2 p.ce = some (.lst ((p.cs.set i (d.to v)).map fun c => V.ref c.a))
    rw [er]; exact lst2 (by simp) (Ne.symm c1) h.lb.hce
  · rw [ekv]
    exact gk (h.lad.nt k hk).1 (.inr (.inr ⟨rfl, h.lb.fn k hk⟩))
  · rcases List.mem_cons.mp hx with z | hx
    · rw [z, h.lb.hwl] at hy; cases hy
    · simp only [List.mem_cons, List.mem_nil_iff, or_false] at hx
      rcases hx with z | z | z
      · rw [z, h.lad.fl] at hy; cases hy
      · rw [z, h.lb.desk.turned] at hy; cases hy
      · rw [z, (h.lb.desk.cell d hd).1] at hy; cases hy
/-- the answers above stand as they did -/
theorem Lad.rest (s : LadS p) (h : Lad FC CC KC p H .non st ns nts p.n) (hj : j ≤ p.n) (k : Kp (p.ch j) H H') (h' : Lad FC CC KC p H' .non (p.stU j st) (p.nsU j st ns) nts' j) (fr : ∀ i < j, nts' i = nts i ∨ H (nts' i) = none) : Lad FC CC KC p H' .non (p.stU j st) (p.nsU j st ns) (fun i => if i < j then nts' i else nts i) p.n := by
  have hi' : ∀ {i}, ¬ i < j → p.stU j st i = st i ∧ p.nsU j st ns i = ns i := fun {i} e => ⟨if_neg e, if_neg fun z => e z.1⟩
  have noL : ∀ x ∈ p.ch j, ∀ o, H x = some o → kindO o ≠ 3 := fun x hx o ho => by
    rcases List.mem_cons.mp hx with z | hx
    · rw [z, h.hrl] at ho; cases ho; exact (by decide : ¬ (2 = 3))
    · rcases List.mem_cons.mp hx with z | hx
      · rw [z, h.fl] at ho; cases ho; exact (by decide : ¬ (9 + 10 = 3))
      · obtain ⟨i, hi, z⟩ := List.mem_map.mp hx
        rw [← z, h.me i (Nat.lt_of_lt_of_le (List.mem_range.mp hi) hj)] at ho; cases ho; exact (by decide : ¬ (7 + 10 = 3))
  refine ⟨h'.fl, h'.srs, h'.hce, h'.hal, h'.hrl, h'.cell, fun i hi => (h.lam i hi).kp k noL, fun i hi => ?_, fun i hi => ?_, fun i l hi hl e => ?_, h'.z0⟩
  · by_cases c : i < j
    · rw [if_pos c]; exact h'.me i c
    · rw [if_neg c, (hi' c).1, (hi' c).2]
      exact k _ _ (h.chOut hj (h.me i hi) (.inl (by show ¬ (7 + 10 = 2); decide)) (by show ¬ (7 + 10 = 19); decide) (.inr fun l hl e => c (by rw [s.aa i l hi (by omega) e]; exact hl))) (h.me i hi)
  · by_cases c : i < j
    · rw [if_pos c]; exact h'.nt i c
    · rw [if_neg c, (hi' c).1]
      exact ⟨k _ _ (h.chOut hj (h.nt i hi).1 (.inl (by show ¬ (1 = 2); decide)) (by show ¬ (1 = 19); decide) (.inl (by show ¬ (1 = 17); decide))) (h.nt i hi).1, (h.nt i hi).2⟩
  · have e : (if i < j then nts' i else nts i) = if l < j then nts' l else nts l := e
    have mix : ∀ {i l}, i < j → ¬ l < j → l < p.n → nts' i = nts l → i = l := fun {i l} c c2 hl e => by
      rcases fr i c with z | z
      · exact h.ntd i l (by omega) hl (z ▸ e)
      · rw [e, (h.nt l hl).1] at z; cases z
    by_cases c : i < j <;> by_cases c2 : l < j
    · rw [if_pos c, if_pos c2] at e; exact h'.ntd i l c c2 e
    · rw [if_pos c, if_neg c2] at e; exact mix c c2 hl e
    · rw [if_neg c, if_pos c2] at e; exact (mix c2 c hi e.symm).symm
    · rw [if_neg c, if_neg c2] at e; exact h.ntd i l hi hl e
/-- an answer is asked -/
theorem LS.ask {top : Nat} {Q : VK} (W : ∀ j < 8, ∃ (fW : Addr) (dW : FuncData), LD P w K mg base "_law_work" (6 * j + 3) N6 (spWork FC CC KC RC (spCN P w K mg base FC CC KC RC j)) fW dW) (h : LS FC DC CC KC H0 b PT H p st ns st' ns' nts wl bl ll dl n) (ht : top < p.n)
    (q : ∀ H' nts', LS FC DC CC KC H0 b PT H' p (p.stU (top + 1) st) (p.nsU (top + 1) st ns) st' ns' nts' wl bl ll dl n → Q (.int (p.valu (top + 1))) H') : spAny P w K mg base FC CC KC RC [.ref (p.a top)] H Q E0 := by
  have n8 := h.s.n8
  refine ⟨top, by omega, p.a top, p.ax top, _, rfl, h.lad.me top ht, rfl, climb h.s (fun j hj => W j (by omega)) top ht H .non st ns nts _ (h.lad.le (by omega)) (fun i hi => ⟨0, rfl⟩) fun H' nts' k' h' fr => ?_⟩
  refine ⟨nmA top, _, p.D.f, p.wk top, _, p.D.fx, _, _, _, h'.me top (Nat.lt_succ_self _), h'.fl, rfl, .inl ⟨p.D.f, p.D.fx, _, _, _, rfl, h'.fl, rfl, ?_⟩⟩
  have fr' : ∀ i < top + 1, nts' i = nts i ∨ H (nts' i) = none := fun i hi => fr i (by omega)
  have LR := h.lad.rest h.s (by omega) k' h' fr'
  obtain ⟨⟨a1, a2, a3, a4, a5, a6⟩, _⟩ := h.apD
  have out : ∀ {x : Addr} {l : List V}, H x = some (.lst l) → x ≠ p.rl → x ∉ p.ch (top + 1) := fun e n => h.lad.chOut (by omega) e (.inr n) (by show ¬ (2 = 19); decide) (.inl (by show ¬ (2 = 17); decide))
  obtain ⟨l, hl⟩ := h.lb.bagL
  have nbr : b ≠ p.rl := (h.lb.nb (h.lb.new p.rl (by simp))).symm
  obtain ⟨L, l1, l2, l3⟩ := h.last.ex
  have chT : ∀ x ∈ p.ch (top + 1), H0 x = none ∧ ∃ u, H x = some u ∧ Hard u := fun x hx => by
    rcases List.mem_cons.mp hx with rfl | hx
    · exact ⟨h.lb.new p.rl (by simp), _, h.lad.hrl, hard_l⟩
    · rcases List.mem_cons.mp hx with rfl | hx
      · exact ⟨(h.lb.newf p.D.f (List.mem_append_left _ (by simp))).1, _, h.lad.fl, hard_i⟩
      · obtain ⟨i, hi, rfl⟩ := List.mem_map.mp hx
        have hi := List.mem_range.mp hi
        exact ⟨(h.lb.fa i (by omega)).2, _, h.lad.me i (by omega), hard_i⟩
  refine q H' _ ⟨⟨h.lb.out.step k' ⟨l, k' _ _ (out hl nbr) hl⟩ (fun x hx => ⟨.inr (chT x hx).1, (chT x hx).2⟩), h.lb.b0, h.lb.t0, h.lb.nbt, h.lb.bag.kp k' (out hl nbr), ?_, LR.hce, k' _ _ (out h.lb.hwl a3) h.lb.hwl, k' _ _ (out h.lb.hbl a4) h.lb.hbl, h.lb.zs, h.lb.m8, h.lb.ap, h.lb.new, h.lb.newf, h.lb.fa, fun i hi hx => ?_⟩, h.s, LR, h.last.kp k' (out l1 a5) fun x hx ys hy => ?_, k' _ _ (out h.hdl a6) h.hdl⟩
  · refine h.lb.desk.inmost (S := p.rl :: (List.range (top + 1)).map p.a) (k'.mono fun x hx => ?_) (fun x hx hm => ?_) h'.fl
    · rcases List.mem_cons.mp hx with z | hx
      · exact List.mem_cons_of_mem _ (by rw [z]; exact List.mem_cons_self ..)
      · rcases List.mem_cons.mp hx with z | hx
        · rw [z]; exact List.mem_cons_self ..
        · exact List.mem_cons_of_mem _ (List.mem_cons_of_mem _ hx)
    · rcases List.mem_cons.mp hm with z | hm
      · exact (h.lb.newf x hx).2 (by rw [z]; simp)
      · obtain ⟨i, hi, rfl⟩ := List.mem_map.mp hm
        have hi := List.mem_range.mp hi
        exact (h.lb.fa i (by omega)).1 hx
  · have hx : (if i < top + 1 then nts' i else nts i) ∈ foot p.D p.tD p.cs := hx
    by_cases c : i < top + 1
    · rw [if_pos c] at hx
      rcases fr' i c with z | z
      · rw [z] at hx; exact h.lb.fn i hi hx
      · obtain ⟨o, ho⟩ := h.lb.desk.there _ hx
        rw [z] at ho; cases ho
    · rw [if_neg c] at hx; exact h.lb.fn i hi hx
  · obtain ⟨_, u, hu, hh⟩ := chT x hx
    rw [hu] at hy
    cases hy
    exact hh.2.1 _ rfl
end
end My

set_option Elab.async false
set_option linter.all false
set_option maxRecDepth 100000
set_option maxHeartbeats 8000000
/-! G12: one number of the script: how it is written. -/
namespace My
open PySem PySem.Spec PyProof.Rows L2 LamX NdefX
theorem pg_two {X : Cx} {i j : Nat} {x y : Str} {px py pos : Pos} {k : Nat} (hc : X.calm = true) (nd : X.N.Nodup) (hi : X.N[i]? = some x) (hj : X.N[j]? = some y) (hx : Loc X.env.scope x) (hy : Loc X.env.scope y) (fx : X.fn x = true ∨ X.env.scope.names.lookup x = some .local) (fy : X.fn y = true ∨ X.env.scope.names.lookup y = some .local) : PG X (.Tuple [.Name x px, .Name y py] k pos) (gTup X.K 2 (gCons (gName i) (gCons (gName j) gNil))) :=
  pg_tup hc (pgs_cons (pg_name nd hi hx fx) (pgs_cons (pg_name nd hj hy fy) pgs_nil))
theorem atI_last' {α : Type} (xs : List α) (x : α) : True := trivial
theorem neT {a b : Int} (h : a = b) : (!decide (V.int a = V.int b)) = false := by rw [h, decide_eq_true rfl]; rfl
section
variable {P : Program} {w : World} {K : PySem.W.Frag} {mg : Str → Option Value} {base : Heap} {FC DC CC RC KC : Addr}
abbrev sRight : Stmt := (top 26)
abbrev NRight : List Str := ["_law_bag_here", "_law_desk", "_law_many", "_law_worths", "_law_bounds", "_law_cells", "_law_runs", "_law_due_runs", "_law_last", "_law_answers", "_law_j", "_law_turn", "_law_k", "_law_top", "_law_worth_here"]
theorem scRight : FnScope NRight ["_law_bag_here"] (defScope sRight) := ⟨rfl, rfl, rfl, by decide +kernel, rfl, by decide +kernel, by decide +kernel⟩
/-- all that the law uses of the desk -/
structure LawE (P : Program) (w : World) (K : PySem.W.Frag) (mg : Str → Option Value) (base : Heap) (FC DC CC KC RC : Addr) (fI fC fS pH gH fKC : Addr) (dI dC dS dH dKC : FuncData) : Prop where
  B : Bt mg
  TD : DkT K DC
  TC : CeT K CC
  TK : KpT K KC
  new : Mk K DC fI
  gD : mg "Desk" = some (.ref DC)
  oD : FnOk P w K mg base CX0 3 fI dI ["self"] (spInitD FC DC CC)
  bD : Binds K dI ["self"] []
  cell : MO P w K mg base DC "cell" 3 ["self", "name", "value"] (spCellD FC DC CC) fC dC
  sm : Spc K DC "__setitem__" fS
  sq : PySem.W.noSeq K DC = true
  sb : Binds K dS ["self", "at", "worth"] []
  so : FnOk P w K mg base CX0 4 fS dS ["self", "at", "worth"] (spSetG FC DC CC)
  held : PH P w K mg base KC pH gH dH
  ans : SO P w K mg base CX0 KC "__call__" 50 ["self"] (spAny P w K mg base FC CC KC RC) fKC dKC
def spRight (PT : Addr) : Sp := fun vs H Q _ => ∃ b : Addr, vs = [.ref b] ∧ BagAt H b 0 ∧ TabS H PT qLam ∧ ∀ H', Kp [b, PT] H H' → TabS H' PT qLam → Q (.bl true) H'
abbrev Works (P : Program) (w : World) (K : PySem.W.Frag) (mg : Str → Option Value) (base : Heap) (FC CC KC RC : Addr) : Prop := ∀ j < 8, ∃ (fW : Addr) (dW : FuncData), LD P w K mg base "_law_work" (6 * j + 3) N6 (spWork FC CC KC RC (spCN P w K mg base FC CC KC RC j)) fW dW
theorem ok_right {f PT fI fC fS pH gH fKC fT fW fO fKd fR : Addr} {fd dI dC dS dH dKC dT dW dO dKd dR : FuncData} (F : Fun K "_law_right" "_law_right" sRight f fd) (L : LawE P w K mg base FC DC CC KC RC fI fC fS pH gH fKC dI dC dS dH dKC)
    (T : LD P w K mg base "_law_take" 1 ["_law_bag_here", "_law_many"] spTake fT dT) (W : LD P w K mg base "_law_worth" 2 ["_law_bag_here"] spWorth fW dW) (O : LD P w K mg base "_law_of" 2 ["_law_bag_here", "_law_some"] (spOf K) fO dO)
    (Kd : LD P w K mg base "_law_kept" 4 NKept (spKeptL FC DC CC KC PT) fKd dKd) (Rd : LD P w K mg base "_law_read" 1 ["_law_top", "_law_worths", "_law_bounds", "_law_last", "_law_due_runs"] spRead fR dR)
    (Wk : Works P w K mg base FC CC KC RC) : FnOk P w K mg base CX0 51 f fd ["_law_bag_here"] (spRight PT) := by
  refine F.ok scRight (fun vs H Q E h => ?_) (fun cdv A outer s H vs Q E hr h => ?_)
  · obtain ⟨b, rfl, _⟩ := h
    rfl
  · obtain ⟨b, rfl, hB, hT, k⟩ := h
    have nd := scRight.nd
    have hu := hu_of hr
    have h1 := hr.mono (by decide : 1 ≤ 50)
    have h2 := hr.mono (by decide : 2 ≤ 50)
    have h3 := hr.mono (by decide : 3 ≤ 50)
    have h4 := hr.mono (by decide : 4 ≤ 50)
    have hsl := sizeLine_eq
    have B := L.B
    refine ⟨_, C8.pss_cut (ps_asg (pe_tup (pa_cons (pe_make0 L.new L.oD h4 (by rfl) L.gD L.bD .nil pass0) (pa_cons (pe_op op_add pe_int (pe_call T.o h1 (by rfl) T.a.g T.a.k T.b .nil pass0 (pa_cons (pv 0) (pa_cons pe_int pa_nil)))) pa_nil))) (pg_tup rfl (pgs_cons (pg_name (i := 1) nd rfl (Or.inr rfl)) (pgs_cons (pg_name (i := 2) nd rfl (Or.inl rfl)) pgs_nil))))
      (C8.pss_cut (ps_setLc (i := 3) (own := [("_law_j", 10)]) (g := gName 10) (tt := tYes) rfl nd rfl rfl (sw_true rfl rfl rfl (by decide +kernel)) (pi_range1 (by rfl) B.range (pa_cons (pv 2) pa_nil))
          (blkOk_by (own := [("_law_j", 10)]) (N := NRight) (sc := defScope sRight) (by decide +kernel)) (fun _ _ _ _ _ => pg_name (i := 10) nd rfl (Or.inl rfl)) (fun _ _ _ _ _ => pts_nil) (fun _ _ _ _ _ => pe_call W.o h2 (by rfl) W.a.g W.a.k W.b .nil pass0 (pa_cons (pv 0) pa_nil)))
      (C8.pss_cut (ps_setLc (i := 4) (own := [("_law_j", 10)]) (g := gName 10) (tt := tYes) rfl nd rfl rfl (sw_true rfl rfl rfl (by decide +kernel)) (pi_range1 (by rfl) B.range (pa_cons (pv 2) pa_nil))
          (blkOk_by (own := [("_law_j", 10)]) (N := NRight) (sc := defScope sRight) (by decide +kernel)) (fun _ _ _ _ _ => pg_name (i := 10) nd rfl (Or.inl rfl)) (fun _ _ _ _ _ => pts_nil) (fun _ _ _ _ _ => pe_call O.o h2 (by rfl) O.a.g O.a.k O.b .nil pass0 (pa_cons (pv 0)
            (pa_cons (pe_lst (pa_cons pe_int (pa_cons pe_int (pa_cons (pe_op op_pow pe_int pe_int) (pa_cons pe_int (pa_cons (pe_op op_pow pe_int pe_int) (pa_cons (pe_op op_pow pe_int pe_int) pa_nil))))))) pa_nil))))
      (C8.pss_cut (ps_setLc (i := 5) (own := [("_law_j", 10), ("_law_worth_here", 14)]) (g := gTup K 2 (gCons (gName 10) (gCons (gName 14) gNil))) (tt := tYes) rfl nd rfl rfl (sw_true rfl rfl rfl (by decide +kernel)) (pi_enum (by rfl) B.enumerate (pa_cons (pv 3) pa_nil))
          (blkOk_by (own := [("_law_j", 10), ("_law_worth_here", 14)]) (N := NRight) (sc := defScope sRight) (by decide +kernel)) (fun _ _ _ _ _ => pg_two (i := 10) (j := 14) rfl nd rfl rfl (Or.inl rfl) (Or.inl rfl) (Or.inr rfl) (Or.inr rfl)) (fun _ _ _ _ _ => pts_nil)
          (fun _ _ _ _ _ => pe_meth (pv 1) L.TD.cl L.cell.m L.cell.o h3 L.cell.b .nil pass0 (pa_cons (pe_op op_add_str pe_str (pe_callTy call_str_int (by rfl) B.str boot_str' (pa_cons (pv 10) pa_nil))) (pa_cons (pv 14) pa_nil))))
      (C8.pss_cut (ps_asg (pe_tup (pa_cons (pe_op op_rep (pe_lst (pa_cons pe_int pa_nil)) (pv 2)) (pa_cons (pe_op op_rep (pe_lst (pa_cons pe_int pa_nil)) (pv 2)) (pa_cons (pe_op op_rep (pe_lst (pa_cons pe_non pa_nil)) (pv 2)) (pa_cons (pe_lst pa_nil) pa_nil)))))
          (pg_tup rfl (pgs_cons (pg_name (i := 6) nd rfl (Or.inl rfl)) (pgs_cons (pg_name (i := 7) nd rfl (Or.inl rfl)) (pgs_cons (pg_name (i := 8) nd rfl (Or.inl rfl)) (pgs_cons (pg_name (i := 9) nd rfl (Or.inl rfl)) pgs_nil))))))
      (C8.pss_cut (ps_for PassesOwn.never rfl (pi_range1 (by rfl) B.range (pa_cons (pv 2) pa_nil)) (pg_name (i := 10) nd rfl (Or.inl rfl))
        (pss_one (ps_expr (pe_bm PySem.F.plainAttrs_list PySem.F.slot_list_append PySem.F.type_list_append mt_append (pv 9) (pa_cons (pe_call Kd.o h4 (by rfl) Kd.a.g Kd.a.k Kd.b .nil pass0 (pa_cons (pv 1) (pa_cons (pv 6) (pa_cons (pv 5) (pa_cons (pv 9) (pa_cons (pv 10) (pa_cons (ixl (pv 4) (pv 10))
          (pa_cons (pe_cmpR op_eq (pe_call T.o h1 (by rfl) T.a.g T.a.k T.b .nil pass0 (pa_cons (pv 0) (pa_cons pe_int pa_nil))) pe_int (nomark _)) pa_nil)))))))) pa_nil)))))
      (C8.pss_cut (ps_for PassesOwn.never rfl (pi_range1 (by rfl) B.range (pa_cons (pe_op op_add pe_int (pe_call T.o h1 (by rfl) T.a.g T.a.k T.b .nil pass0 (pa_cons (pv 0) (pa_cons pe_int pa_nil)))) pa_nil)) (pg_name (i := 11) nd rfl (Or.inl rfl))
        (C8.pss_cut (ps_for PassesOwn.never rfl (pi_range1 (by rfl) B.range (pa_cons (pe_op op_add pe_int (pe_call T.o h1 (by rfl) T.a.g T.a.k T.b .nil pass0 (pa_cons (pv 0) (pa_cons pe_int pa_nil)))) pa_nil)) (pg_name (i := 12) nd rfl (Or.inl rfl))
          (pss_cons (ps_set (i := 10) nd rfl (Or.inl rfl) (pe_call T.o h1 (by rfl) T.a.g T.a.k T.b .nil pass0 (pa_cons (pv 0) (pa_cons (pv 2) pa_nil))))
          (pss_cons (ps_asg (pe_call W.o h2 (by rfl) W.a.g W.a.k W.b .nil pass0 (pa_cons (pv 0) pa_nil)) (pg_sub (pv 3) (pv 10) set_list))
          (pss_one (ps_asg (ixl (pv 3) (pv 10)) (pg_sub (pv 1) (pe_op op_add_str pe_str (pe_callTy call_str_int (by rfl) B.str boot_str' (pa_cons (pv 10) pa_nil))) (set_own L.sm L.sq L.so h4 L.sb pass0)))))))
        (C8.pss_cut (ps_set (i := 13) nd rfl (Or.inl rfl) (pe_ifExp (pt_cmpR op_eq (pe_call T.o h1 (by rfl) T.a.g T.a.k T.b .nil pass0 (pa_cons (pv 0) (pa_cons pe_int pa_nil))) pe_int (nomark _)) (pe_call T.o h1 (by rfl) T.a.g T.a.k T.b .nil pass0 (pa_cons (pv 0) (pa_cons (pv 2) pa_nil))) (pe_op op_sub (pv 2) pe_int)))
        (pss_cons (ps_if (pw_or (pt_cmpR (op_neD hr.units) (pv 6) (pv 7) (nomark _)) (pw_or1 (pt_cmpR op_ne (pe_callO0 (ixl (pv 9) (pv 13)) L.ans.m L.ans.i L.ans.o hr L.ans.b pass0) (pe_call Rd.o h1 (by rfl) Rd.a.g Rd.a.k Rd.b .nil pass0 (pa_cons (pv 13) (pa_cons (pv 3) (pa_cons (pv 4) (pa_cons (pv 8) (pa_cons (pv 7) pa_nil)))))) (nomark _)))).pt (pss_one (ps_ret pe_bl)) pss_nil)
        (pss_one (ps_for PassesOwn.never rfl (pi_range1 (by rfl) B.range (pa_cons (pv 2) pa_nil)) (pg_name (i := 10) nd rfl (Or.inl rfl))
          (pss_cons (ps_if (pw_or (pt_cmpR op_ne (ixl (pv 6) (pv 10)) (ixl (pv 7) (pv 10)) (nomark _)) (pw_or1 (pt_cmpR op_ne (pe_fld (ixl (pv 9) (pv 10)) rfl) (ixl (pv 7) (pv 10)) (nomark _)))).pt (pss_one (ps_ret pe_bl)) pss_nil)
          (pss_one (ps_if (pt_cmpR op_ne (pe_prop (ixl (pv 9) (pv 10)) L.TK.cl L.held.p L.held.o h2 L.held.b .nil pass0 rfl) (pe_ifExp (pt_cmp (pc_isN (ixl (pv 8) (pv 10)))) pe_non (ixt (ixl (pv 8) (pv 10)) pe_int)) (nomark _)) (pss_one (ps_ret pe_bl)) pss_nil)))))))))
      (pss_one (ps_ret pe_bl)))))))), ?_⟩
    obtain ⟨w1, w2, w3, hbH, _⟩ := id hB
    have nbt : b ≠ PT := fun e => by obtain ⟨ps, h1, _⟩ := hT; rw [← e, hbH] at h1; cases h1
    have O0 : Out H b PT qLam H := ⟨Kp.refl H, hT, _, hbH⟩
    refine ⟨fun σ' Ha => ∃ (D : DA) (tD : Addr) (many : Nat), σ' = [some (.ref b), some (.ref D.d), some (.int (many : Int)), none, none, none, none, none, none, none, none, none, none, none, none] ∧ SetUp FC DC CC H b PT qLam Ha D tD [] [] 1 ∧ 2 ≤ many ∧ many ≤ 8, ?_, ?_⟩
    · refine fun x dx hx hdx ne1 => ⟨x, dx, rfl, upd_same, fun H1 D tD eD k1 fr1 D1 => ?_⟩
      subst eD
      have K1 : Kp [] H H1 := made_kp hx hdx k1
      have B1 := hB.kp K1 (by simp)
      refine ⟨rfl, _, rfl, b, 7, 0, rfl, B1, by decide, by decide, by decide, fun H2 r k2 hB2 r0 r1 => ?_⟩
      obtain ⟨r, rfl⟩ := Int.eq_ofNat_of_zero_le r0
      refine ⟨_, _, rfl, rfl, (by show 2 ≤ sizeLine; omega), fun tt htt => ⟨tt, _, rfl, SqT.of upd_same, rfl, _, _, rfl, _, _, rfl, rfl, D, tD, 2 + r, ?_, ?_, by omega, by omega⟩⟩
      · show [some (V.ref b), some (V.ref D.d), some (V.int (2 + (r : Int))), none, none, none, none, none, none, none, none, none, none, none, none] = _
        rw [show ((2 + r : Nat) : Int) = 2 + (r : Int) by omega]
      have foot0 : ∀ x ∈ foot D tD [], H x = none := fun x hx' => by
        by_cases e : x = D.d
        · rw [e]; exact hx
        · exact made_back (fr1 x hx' e)
      have nbf : ∀ x ∈ foot D tD [], x ∉ [b] := fun x hx' hm => by
        have := foot0 x hx'
        rw [List.mem_singleton.mp hm, hbH] at this; cases this
      have D2 := D1.kp k2 nbf
      have kt : Kp [] H2 (upd H2 tt (.tup [.ref D.d, .int (2 + (r : Int))])) := Kp.new htt
      obtain ⟨_, _, _, hb2, _⟩ := id hB2
      have O1 : Out H b PT qLam H2 := (O0.new K1).step k2 ⟨_, hb2⟩ fun x hx' => by
        rw [List.mem_singleton.mp hx']
        exact ⟨.inl rfl, _, K1 _ _ (by simp) hbH, hard_l⟩
      exact ⟨O1.new kt, ⟨_, hbH⟩, (let ⟨ps, h1, _⟩ := hT; ⟨_, h1⟩), nbt, hB2.kp kt (by simp), D2.kp kt (fun _ _ => by simp), fun x hx => (nomatch hx), .nil, fun x hx' => ⟨foot0 x hx', fun hm => nomatch hm⟩⟩
    rintro σ' Ha ⟨D, tD, many, rfl, S0, lo, hi⟩
    refine ⟨fun σ' Hb => ∃ (wl : Addr) (ws : List Int), σ' = [some (.ref b), some (.ref D.d), some (.int (many : Int)), some (.ref wl), none, none, none, none, none, none, none, none, none, none, none] ∧ SetUp FC DC CC H b PT qLam Hb D tD [] [wl] 17 ∧ Hb wl = some (.lst (ws.map V.int)) ∧ ws.length = many, ?_, ?_⟩
    · refine ⟨_, rfl, (many : Int), rfl, by omega, by omega, fun wl hwl => ?_⟩
      have nwb : wl ≠ b := fun e => by obtain ⟨_, _, _, h, _⟩ := S0.bag; rw [e, h] at hwl; cases hwl
      refine lc_range (lo := 0) (n := ((many : Nat) : Int).toNat) (fun i H' => ∃ ws : List Int, ws.length = i ∧ H' wl = some (.lst (ws.map V.int)) ∧ Kp [b] Ha H' ∧ BagAt H' b (1 + 2 * i)) ⟨[], rfl, upd_same, Kp.new hwl, (S0.bag.kp (Kp.new (S := []) hwl) (by simp)).up (by omega)⟩ ?_ ?_
      · rintro i H2 hi ⟨ws, hl, hw, kk, hb⟩
        refine ⟨rfl, _, rfl, b, _, rfl, hb, by omega, fun H3 v k3 hb3 _ _ => ⟨ws.map V.int, k3 _ _ (by simpa using nwb) hw, by rw [List.length_map]; omega, ws ++ [v], by rw [List.length_append, List.length_singleton, hl], ?_, ?_, ?_⟩⟩
        · rw [upd_same, List.map_append]; rfl
        · exact (kk.trans k3).wr hwl
        · exact (hb3.kp (Kp.put (S := [wl]) (by simp)) (by simpa using nwb.symm)).up (by omega)
      · rintro H2 ⟨ws, hl, hw, kk, hb⟩
        have S1 := S0.add kk hwl hw hb
        exact ⟨wl, ws, rfl, { S1 with bag := hb.up (by omega) }, hw, by omega⟩
    rintro σ' Hb ⟨wl, ws, rfl, S1, hwl1, lws⟩
    refine ⟨fun σ' Hc => ∃ (bl : Addr) (bs : List Int), σ' = [some (.ref b), some (.ref D.d), some (.int (many : Int)), some (.ref wl), some (.ref bl), none, none, none, none, none, none, none, none, none, none] ∧ SetUp FC DC CC H b PT qLam Hc D tD [] [bl, wl] 25 ∧ Hc wl = some (.lst (ws.map V.int)) ∧ Hc bl = some (.lst (bs.map V.int)) ∧ bs.length = many, ?_, ?_⟩
    · refine ⟨_, rfl, (many : Int), rfl, by omega, by omega, fun bl hbl => ?_⟩
      have nbb : bl ≠ b := fun e => by obtain ⟨_, _, _, h, _⟩ := S1.bag; rw [e, h] at hbl; cases hbl
      refine lc_range (lo := 0) (n := ((many : Nat) : Int).toNat) (fun i H' => ∃ bs : List Int, bs.length = i ∧ H' bl = some (.lst (bs.map V.int)) ∧ Kp [b] Hb H' ∧ BagAt H' b (17 + i)) ⟨[], rfl, upd_same, Kp.new hbl, (S1.bag.kp (Kp.new (S := []) hbl) (by simp)).up (by omega)⟩ ?_ ?_
      · rintro i H2 hi ⟨bs, hl, hw, kk, hb⟩
        refine ⟨rfl, _, rfl, _, _, rfl, rfl, ⟨by decide, by decide, by decide⟩, _, _, rfl, rfl, ⟨by decide, by decide, by decide⟩, _, _, rfl, rfl, ⟨by decide, by decide, by decide⟩, (by show 6 ≤ sizeLine; omega), fun l hl0 => ?_⟩
        have nlb : l ≠ b := fun e => by obtain ⟨_, _, _, h, _⟩ := hb; rw [e, h] at hl0; cases hl0
        have nlw : bl ≠ l := ne_of_none hw hl0
        refine ⟨b, l, _, _, rfl, hb.kp (Kp.new (S := []) hl0) (by simp), by omega, upd_same, (by show 0 < 6; decide), (by show 6 < 1000; decide), nlb, fun H3 t x k3 hb3 hx => ?_⟩
        obtain ⟨y, rfl⟩ : ∃ y : Int, x = .int y := by
          have hm := List.mem_of_getElem? hx
          simp only [List.mem_cons, List.mem_nil_iff, or_false] at hm
          rcases hm with z | z | z | z | z | z <;> exact ⟨_, z⟩
        have k23 : Kp [b] H2 H3 := (Kp.new hl0).trans k3
        refine ⟨bs.map V.int, k23 _ _ (by simpa using nbb) hw, by rw [List.length_map]; omega, bs ++ [y], by rw [List.length_append, List.length_singleton, hl], ?_, ?_, ?_⟩
        · rw [upd_same, List.map_append]; rfl
        · exact (kk.trans k23).wr hbl
        · exact (hb3.kp (S := [bl]) (Kp.put (by simp)) (by simpa using nbb.symm)).up (by omega)
      · rintro H2 ⟨bs, hl, hw, kk, hb⟩
        have S2 := S1.add kk hbl hw hb
        exact ⟨bl, bs, rfl, { S2 with bag := hb.up (by omega) }, kk _ _ (by simpa using S1.nb (S1.newl wl (by simp)).1) hwl1, hw, by omega⟩
    rintro σ' Hc ⟨bl, bs, rfl, S2, hwl2, hbl2, lbs⟩
    refine ⟨fun σ' Hd => ∃ (ce : Addr) (cs : List Ce), σ' = [some (.ref b), some (.ref D.d), some (.int (many : Int)), some (.ref wl), some (.ref bl), some (.ref ce), none, none, none, none, none, none, none, none, none] ∧ SetUp FC DC CC H b PT qLam Hd D tD cs [ce, bl, wl] 25 ∧ Hd wl = some (.lst (cs.map fun c => V.int c.v)) ∧ Hd bl = some (.lst (bs.map V.int)) ∧ Hd ce = some (.lst (cs.map fun c => V.ref c.a)) ∧
      cs.length = many ∧ cs.map Ce.z = (List.range many).map nmK, ?_, ?_⟩
    · have no3 : ∀ x ∈ [bl, wl], x ∉ [D.nD, D.cD, D.sD] := fun x hx hm => (S2.newf x (by
        simp only [List.mem_cons, List.mem_nil_iff, or_false] at hm
        rcases hm with rfl | rfl | rfl <;> exact List.mem_append_left _ (by simp))).2 hx
      have nwl := no3 wl (by simp)
      have nbl := no3 bl (by simp)
      refine ⟨_, rfl, wl, ws.map V.int, rfl, SqL.of hwl2, fun ce hce => ?_⟩
      have ces : ∀ {q : Addr} {o : HO}, Hc q = some o → q ≠ ce := fun {q o} e => ne_of_none e hce
      have nce3 : ce ∉ [D.nD, D.cD, D.sD] := fun hm => by
        simp only [List.mem_cons, List.mem_nil_iff, or_false] at hm
        rcases hm with z | z | z
        · exact ces S2.desk.names z.symm
        · exact ces S2.desk.cells z.symm
        · exact ces S2.desk.sources z.symm
      refine lc_it walk_enum (fun i H' => ∃ cs : List Ce, cs.length = i ∧ cs.map Ce.v = ws.take i ∧ cs.map Ce.z = (List.range i).map nmK ∧ H' ce = some (.lst (cs.map fun c => V.ref c.a)) ∧ DeskAt FC DC CC H' D tD cs ∧ Kp [D.nD, D.cD, D.sD] Hc H' ∧ ∀ x ∈ foot D tD cs, x ∈ foot D tD [] ∨ (Hc x = none ∧ x ≠ ce))
        ⟨[], rfl, by simp, by simp, upd_same, S2.desk.kp (Kp.new (S := []) hce) (fun _ _ => by simp), Kp.new hce, fun x hx => .inl hx⟩ (fun i H' _ ⟨_, _, _, _, _, _, kk, _⟩ => SqL.of (kk _ _ nwl hwl2)) ?_ ?_
      · rintro i x H2 H3 hi' ⟨cs, lcs, ev, ez, hc, hD, kk, hf⟩ ⟨t, y1, y2, rfl, ht, rfl, e1, e2⟩
        rw [List.length_map] at hi'
        have e1 : some (V.int (i : Nat)) = some y1 := e1
        obtain rfl := Option.some.inj e1
        have e2 : (ws.map V.int)[i]? = some y2 := e2
        rw [List.getElem?_map, List.getElem?_eq_getElem hi'] at e2
        obtain rfl : V.int ws[i] = y2 := Option.some.inj e2
        have kt : Kp [] H2 (upd H2 t (.tup [V.int (i : Nat), V.int ws[i]])) := Kp.new ht
        obtain ⟨H4, e4⟩ : ∃ H4, upd H2 t (.tup [V.int (i : Nat), V.int ws[i]]) = H4 := ⟨_, rfl⟩
        have t4 : H4 t = some (.tup [V.int (i : Nat), V.int ws[i]]) := by rw [← e4]; exact upd_same
        rw [e4] at kt
        rw [e4]
        have D4 := hD.kp kt (fun _ _ => by simp)
        have i8 : i < 8 := by omega
        have hz : nmK i ∉ cs.map Ce.z := by rw [ez]; exact nm_new i8
        have hcat : ("c" : Str).length + ((toString ((i : Nat) : Int) : String) : Str).length ≤ sizeLine := by
          have g1 := nm_len i i8
          have g2 : ("c" : Str).length = 1 := by decide +kernel
          omega
        refine ⟨t, _, rfl, SqT.of t4, rfl, _, _, rfl, _, _, rfl, rfl, rfl, ?_⟩
        refine ⟨_, rfl, D.d, D.dx, _, rfl, D4.desk, rfl, _, rfl, i, rfl, log8 i i8, _, _, rfl, rfl, hcat, _, rfl, D, tD, cs, nmK i, ws[i], rfl, D4, hz, by omega, fun H5 a ax k5 ha D5 => ?_⟩
        have c5 := k5 _ _ nce3 (kt _ _ (by simp) hc)
        refine ⟨_, c5, by rw [List.length_map]; omega, cs ++ [⟨nmK i, a, ax, ws[i]⟩], by rw [List.length_append, List.length_singleton, lcs], ?_, ?_, ?_, ?_, ?_, ?_⟩
        · rw [List.map_append, ev, List.take_succ, List.getElem?_eq_getElem hi']; rfl
        · rw [List.map_append, ez, List.range_succ, List.map_append]; rfl
        · rw [upd_same, List.map_append]; rfl
        · refine D5.kp (S := [ce]) (Kp.put (by simp)) fun x hx e => ?_
          rw [List.mem_singleton.mp e] at hx
          rcases foot_snoc hx with h | h
          · rcases hf ce h with h | ⟨_, h⟩
            · obtain ⟨o, ho⟩ := S2.desk.there ce h
              exact ces ho rfl
            · exact h rfl
          · have h : ce = a := h
            rw [← h, kt _ _ (by simp) hc] at ha; cases ha
        · exact ((kk.trans (kt.mono (by simp))).trans k5).wr hce
        · intro x hx
          rcases foot_snoc hx with h | h
          · exact hf x h
          · have h : x = a := h
            refine .inr ⟨?_, fun e => ?_⟩
            · rw [h]
              cases e : Hc a with
              | none => rfl
              | some u =>
                by_cases hm : a ∈ [D.nD, D.cD, D.sD]
                · have hm2 : a ∈ foot D tD cs := by
                    simp only [List.mem_cons, List.mem_nil_iff, or_false] at hm
                    rcases hm with z | z | z <;> rw [z] <;> exact List.mem_append_left _ (by simp)
                  obtain ⟨o, ho⟩ := D4.there a hm2
                  rw [ho] at ha; cases ha
                · rw [kt _ _ (by simp) (kk _ _ hm e)] at ha; cases ha
            · rw [← h, e, kt _ _ (by simp) hc] at ha; cases ha
      · rintro H2 ⟨cs, lcs, ev, ez, hc, hD, kk, hf⟩
        rw [List.length_map] at lcs ev ez
        rw [List.take_length] at ev
        refine ⟨ce, cs, rfl, S2.cells kk hce hc hD hf, ?_, kk _ _ nbl hbl2, hc, by omega, by rw [ez, lws]⟩
        rw [show (cs.map fun c => V.int c.v) = ws.map V.int by rw [← ev, List.map_map]; rfl]
        exact kk _ _ nwl hwl2
    rintro σ' Hd ⟨ce, cs, rfl, S3, hwl3, hbl3, hce3, lcs, ez⟩
    have rep_int : ∀ n : Nat, (List.replicate n [V.int 0]).flatten = intsN n fun _ => 0 := fun n => by
      unfold intsN
      induction n with
      | zero => rfl
      | succ n ih => rw [List.replicate_succ', List.flatten_append, ih, List.range_succ, List.map_append]; rfl
    have rep_non : ∀ n : Nat, (List.replicate n [V.non]).flatten = List.replicate n V.non := fun n => by
      induction n with
      | zero => rfl
      | succ n ih => rw [List.replicate_succ, List.flatten_cons, ih, List.replicate_succ]; rfl
    have b62 : (2 : Int) ^ 63 = 9223372036854775808 := by decide
    have em : ((many : Nat) : Int).toNat = many := by omega
    obtain ⟨bd, hbd⟩ : ∃ bd : Nat → Int, bs.map V.int = (List.range many).map fun i => V.int (bd i) := ⟨fun i => bs[i]?.getD 0, by
      refine List.ext_getElem? fun i => ?_
      by_cases h : i < many
      · rw [range_at _ h, List.getElem?_map]
        show Option.map V.int bs[i]? = some (V.int (bs[i]?.getD 0))
        rw [List.getElem?_eq_getElem (by omega)]; rfl
      · rw [List.getElem?_eq_none (by rw [List.length_map]; omega), List.getElem?_eq_none (by rw [List.length_map, List.length_range]; omega)]⟩
    rw [hbd] at hbl3
    refine ⟨fun σ' He => ∃ (p : LPm) (nts : Nat → Addr) (dl ll : Addr), σ' = [some (.ref b), some (.ref p.D.d), some (.int (many : Int)), some (.ref wl), some (.ref bl), some (.ref p.ce), some (.ref p.rl), some (.ref dl), some (.ref ll), some (.ref p.al), none, none, none, none, none] ∧ Mk1 FC DC CC KC H b PT He p nts many wl bl ll dl 25 ∧ p.n = 0, ?_, ?_⟩
    · refine ⟨(by show 1 ≤ sizeLine; omega), fun q1 hq1 => ⟨_, rfl, q1, _, [.int 0], rfl, rfl, upd_same, by omega, by omega, by show 1 * ((many : Nat) : Int).toNat ≤ sizeLine; omega, fun rl hrl => ?_⟩⟩
      obtain ⟨H2, e2⟩ : ∃ H2, upd (upd Hd q1 (.lst [.int 0])) rl (.lst (List.replicate ((many : Nat) : Int).toNat [V.int 0]).flatten) = H2 := ⟨_, rfl⟩
      have k2 : Kp [] Hd H2 := by rw [← e2]; exact (Kp.new hq1).trans (Kp.new hrl)
      have rl2 : H2 rl = some (.lst (intsN many fun _ => 0)) := by rw [← e2, upd_same, em, rep_int]
      have rl0 : Hd rl = none := (Kp.new (S := []) (o := .lst [.int 0]) hq1).none hrl fun _ h => nomatch h
      have S4 := S3.add (k2.mono (by simp)) rl0 rl2 (S3.bag.kp k2 (by simp))
      rw [e2]
      clear hq1 hrl e2
      refine ⟨(by show 1 ≤ sizeLine; omega), fun q2 hq2 => ⟨_, rfl, q2, _, [.int 0], rfl, rfl, upd_same, by omega, by omega, by show 1 * ((many : Nat) : Int).toNat ≤ sizeLine; omega, fun dl hdl => ?_⟩⟩
      obtain ⟨H4, e4⟩ : ∃ H4, upd (upd H2 q2 (.lst [.int 0])) dl (.lst (List.replicate ((many : Nat) : Int).toNat [V.int 0]).flatten) = H4 := ⟨_, rfl⟩
      have k4 : Kp [] H2 H4 := by rw [← e4]; exact (Kp.new hq2).trans (Kp.new hdl)
      have dl4 : H4 dl = some (.lst (intsN many fun _ => 0)) := by rw [← e4, upd_same, em, rep_int]
      have dl0 : H2 dl = none := (Kp.new (S := []) (o := .lst [.int 0]) hq2).none hdl fun _ h => nomatch h
      have S5 := S4.add (k4.mono (by simp)) dl0 dl4 (S4.bag.kp k4 (by simp))
      rw [e4]
      clear hq2 hdl e4
      refine ⟨(by show 1 ≤ sizeLine; omega), fun q3 hq3 => ⟨_, rfl, q3, _, [.non], rfl, rfl, upd_same, by omega, by omega, by show 1 * ((many : Nat) : Int).toNat ≤ sizeLine; omega, fun ll hll => ?_⟩⟩
      obtain ⟨H6, e6⟩ : ∃ H6, upd (upd H4 q3 (.lst [.non])) ll (.lst (List.replicate ((many : Nat) : Int).toNat [V.non]).flatten) = H6 := ⟨_, rfl⟩
      have k6 : Kp [] H4 H6 := by rw [← e6]; exact (Kp.new hq3).trans (Kp.new hll)
      have ll6 : H6 ll = some (.lst (List.replicate many V.non)) := by rw [← e6, upd_same, em, rep_non]
      have ll0 : H4 ll = none := (Kp.new (S := []) (o := .lst [.non]) hq3).none hll fun _ h => nomatch h
      have S6 := S5.add (k6.mono (by simp)) ll0 ll6 (S5.bag.kp k6 (by simp))
      rw [e6]
      clear hq3 hll e6
      refine ⟨(by show 0 ≤ sizeLine; omega), fun al hal => ?_⟩
      obtain ⟨H7, e7⟩ : ∃ H7, upd H6 al (.lst []) = H7 := ⟨_, rfl⟩
      have k7 : Kp [] H6 H7 := by rw [← e7]; exact Kp.new hal
      have al7 : H7 al = some (.lst []) := by rw [← e7]; exact upd_same
      have S7 := S6.add (k7.mono (by simp)) hal al7 (S6.bag.kp k7 (by simp))
      rw [e7]
      clear e7
      refine ⟨(by show 4 ≤ sizeLine; omega), fun tt htt => ⟨tt, _, rfl, SqT.of upd_same, rfl, _, _, rfl, _, _, rfl, _, _, rfl, _, _, rfl, rfl, ?_⟩⟩
      obtain ⟨H8, e8⟩ : ∃ H8, upd H7 tt (.tup [.ref rl, .ref dl, .ref ll, .ref al]) = H8 := ⟨_, rfl⟩
      have k8 : Kp [] H7 H8 := by rw [← e8]; exact Kp.new htt
      rw [e8]
      have S8 := S7.kp0 k8
      have nd8 := S8.ndl
      simp only [List.nodup_cons, List.mem_cons, List.mem_nil_iff, or_false, not_or, List.nodup_nil, and_true, not_false_eq_true] at nd8
      obtain ⟨⟨x1, x2, x3, x4, x5, x6⟩, ⟨y2, y3, y4, y5, y6⟩, ⟨z3, z4, z5, z6⟩, ⟨u4, u5, u6⟩, ⟨v5, v6⟩, t6⟩ := nd8
      have K68 : Kp [] H6 H8 := k7.trans k8
      have K48 : Kp [] H4 H8 := k6.trans K68
      have K28 : Kp [] H2 H8 := k4.trans K48
      have K8 : Kp [] Hd H8 := k2.trans K28
      have perm : ∀ {x : Addr}, x ∈ [wl, bl, ll, dl, rl, ce, al] → x ∈ [al, ll, dl, rl, ce, bl, wl] := fun hx => by
        simp only [List.mem_cons, List.mem_nil_iff, or_false] at hx ⊢
        rcases hx with z | z | z | z | z | z | z <;> simp [z]
      refine ⟨⟨D, tD, cs, rl, ce, al, 0, fun _ => 0, fun _ => 0, fun _ => 0, qLam, fun _ => [], fun _ => [], fun _ => 0, bd, fun _ => false⟩, fun _ => 0, dl, ll, rfl, ⟨⟨S8.out, S8.b0, S8.t0, S8.nbt, S8.bag, S8.desk.toG, K8 _ _ (by simp) hce3, K8 _ _ (by simp) hwl3, K8 _ _ (by simp) hbl3, ez, hi, ?_, fun x hx => (S8.newl x (perm hx)).1, fun x hx => ⟨(S8.newf x hx).1, fun hm => (S8.newf x hx).2 (perm hm)⟩, fun i hi => absurd hi (Nat.not_lt_zero i), fun i hi => absurd hi (Nat.not_lt_zero i)⟩,
        Nat.zero_le _, rfl, k8 _ _ (by simp) al7, K28 _ _ (by simp) rl2, K68 _ _ (by simp) ll6, K48 _ _ (by simp) dl4, fun i hi => absurd hi (Nat.not_lt_zero i), fun i hi => absurd hi (Nat.not_lt_zero i), fun i hi => absurd hi (Nat.not_lt_zero i), fun i j hi => absurd hi (Nat.not_lt_zero i), fun i j hi => absurd hi (Nat.not_lt_zero i), fun i hi => absurd hi (Nat.not_lt_zero i), fun i j hi => absurd hi (Nat.not_lt_zero i), fun i j hi => absurd hi (Nat.not_lt_zero i), fun i hi => absurd hi (Nat.not_lt_zero i)⟩, rfl⟩
      simp only [lsts, List.nodup_cons, List.mem_cons, List.mem_nil_iff, or_false, not_or, List.nodup_nil, and_true, not_false_eq_true]
      exact ⟨⟨Ne.symm t6, Ne.symm y6, Ne.symm z6, Ne.symm u6, Ne.symm v6, Ne.symm x6⟩, ⟨Ne.symm y5, Ne.symm z5, Ne.symm u5, Ne.symm v5, Ne.symm x5⟩, ⟨y2, y3, y4, Ne.symm x1⟩, ⟨z3, z4, Ne.symm x2⟩, ⟨u4, Ne.symm x3⟩, Ne.symm x4⟩
    rintro σ' He ⟨p, nts, dl, ll, rfl, M0, e0⟩
    refine ⟨fun σ' Hf => ∃ (p : LPm) (nts : Nat → Addr) (v10 : Option V), σ' = [some (.ref b), some (.ref p.D.d), some (.int (many : Int)), some (.ref wl), some (.ref bl), some (.ref p.ce), some (.ref p.rl), some (.ref dl), some (.ref ll), some (.ref p.al), v10, none, none, none, none] ∧ LS FC DC CC KC H b PT Hf p (fun _ => none) (fun _ => 0) (fun _ => none) (fun _ => 0) nts wl bl ll dl 33 ∧ p.n = many, ?_, ?_⟩
    · refine ⟨_, rfl, (many : Int), rfl, by omega, by omega, for_range (lo := 0) (n := ((many : Nat) : Int).toNat) (fun i σ H' => ∃ (p : LPm) (nts : Nat → Addr) (v10 : Option V), σ = [some (.ref b), some (.ref p.D.d), some (.int (many : Int)), some (.ref wl), some (.ref bl), some (.ref p.ce), some (.ref p.rl), some (.ref dl), some (.ref ll), some (.ref p.al), v10, none, none, none, none] ∧ Mk1 FC DC CC KC H b PT H' p nts many wl bl ll dl (25 + i) ∧ p.n = i) ⟨p, nts, none, rfl, M0.up (by omega), e0⟩ ?_ ?_⟩
      · rintro i σ H1 hi' ⟨p, nts, v10, rfl, M, en⟩
        subst en
        simp only [Int.zero_add]
        have lt : p.n < many := by omega
        refine ⟨_, rfl, .inl ⟨rfl, _, SqL.of M.hal⟩, _, rfl, _, rfl, _, rfl, _, rfl, _, rfl, _, rfl, _, rfl, bl, _, _, _, rfl, rfl, SqL.of M.lb.hbl, atI_nat (range_at _ lt), _, rfl, b, 2, _, rfl, M.lb.bag, by omega, by decide, by decide, fun H2 r k2 hb2 r0 r1 => ⟨rfl, ?_⟩⟩
        have M2 := M.draw k2 hb2
        have nf : ∀ x ∈ cellsT p.cs, x.1 ≠ Sum.inr (nmA p.n) := fun x hx e => by
          obtain ⟨c, hc, rfl⟩ := List.mem_map.mp hx
          have hz : c.z ∈ p.cs.map Ce.z := List.mem_map_of_mem hc
          rw [M.lb.zs] at hz
          obtain ⟨m, hm, em⟩ := List.mem_map.mp hz
          exact nmA_nmK m (by have := List.mem_range.mp hm; omega) p.n (by omega) (em.trans (Sum.inr.inj e))
        have nf' : ∀ x ∈ namesT p.cs, x.1 ≠ Sum.inr (nmA p.n) := fun x hx e => by
          obtain ⟨c, hc, rfl⟩ := List.mem_map.mp hx
          exact nf (Sum.inr c.z, V.ref c.a) (List.mem_map_of_mem (f := fun c : Ce => ((Sum.inr c.z : Key), V.ref c.a)) hc) e
        have old : ∀ m, m < p.n → (Sum.inr (nmA m) : Key) ≠ Sum.inr (nmA p.n) := fun m hm e => Nat.ne_of_lt hm (nmA_inj (by omega) (by omega) (Sum.inr.inj e))
        refine ⟨p.D, p.tD, p.rl, p.ce, p.al, p.n, p.bd p.n, _, p.cs, xnA p.n, xsA p, rfl, M2.lb.desk, by omega, ?_, ?_, ?_, ?_, M2.lb.out.tab, fun hm => M2.lb.np (M2.lb.newf _ hm).1 rfl, fun H3 a ax nt lf c' cl gs k3 ha hnt hlf ne D3 me hnt' tab lam code cap hgs g1 g2 => ?_⟩
        · rw [valV_app, valV_none nf']
          exact valV_none fun x hx => by
            obtain ⟨m, hm, rfl⟩ := List.mem_map.mp hx
            exact old m (List.mem_range.mp hm)
        · rw [valV_app, valV_none nf]
          exact valV_none fun x hx => by
            obtain ⟨m, hm, rfl⟩ := List.mem_map.mp hx
            exact old m (List.mem_range.mp hm)
        · unfold xnA; rw [List.length_map, List.length_range]; omega
        · unfold xsA; rw [List.length_map, List.length_range]; omega
        · have nal : p.al ∉ [PT, p.D.nD, p.D.sD] := fun hm => by
            rcases List.mem_cons.mp hm with z | hm
            · exact M2.lb.np (M2.lb.new p.al (by simp)) z
            · refine (M2.lb.newf p.al ?_).2 (by simp)
              simp only [List.mem_cons, List.mem_nil_iff, or_false] at hm
              rcases hm with z | z <;> rw [z] <;> exact List.mem_append_left _ (by simp)
          have al3 := k3 _ _ nal M2.hal
          refine ⟨p.al, _, _, rfl, rfl, al3, by rw [List.length_map, List.length_range]; omega, ?_⟩
          exact ⟨p.more a ax lf c' cl gs _, ex p.n nts nt, _, rfl, (M2.made lt k3 ha hnt hlf ne D3 me hnt' tab lam code cap hgs g1 g2 rfl).up (by omega), rfl⟩
      · rintro σ H1 ⟨p, nts, v10, rfl, M, en⟩
        have en' : p.n = many := by omega
        exact ⟨p, nts, v10, rfl, (M.toLS en').up (by omega), en'⟩
    rintro σ' Hf ⟨p, nts, v10, rfl, A0, en⟩
    refine ⟨fun σ' Hg => Out H b PT qLam Hg, ?_, fun σ' Hg o => k Hg o.kp o.tab⟩
    have big : ((100 : Nat) : Int) < 2 ^ 200 := by decide
    have flI : ∀ (n : Nat) (ns : Nat → Nat), ∀ v ∈ intsN n ns, FlatI v := fun n ns v hv => by
      obtain ⟨i, _, rfl⟩ := List.mem_map.mp hv
      exact .inr ⟨_, rfl⟩
    refine ⟨_, rfl, b, 10, _, rfl, A0.lb.bag, by omega, by decide, by decide, fun H1 r k1 hB1 r0 r1 => ⟨_, _, rfl, rfl, 5 + r, rfl, by omega, by omega, for_range (lo := 0) (n := (5 + r).toNat) (fun i σ H' => ∃ (p : LPm) (st : Sta) (ns : Nat → Nat) (nts : Nat → Addr) (v10 v11 v12 v13 : Option V), σ = [some (.ref b), some (.ref p.D.d), some (.int (many : Int)), some (.ref wl), some (.ref bl), some (.ref p.ce), some (.ref p.rl), some (.ref dl), some (.ref ll), some (.ref p.al), v10, v11, v12, v13, none] ∧ LS FC DC CC KC H b PT H' p st ns st ns nts wl bl ll dl (34 + 12 * i) ∧ p.n = many) ⟨p, _, _, nts, v10, none, none, none, rfl, (A0.draw k1 hB1).up (by omega), en⟩ ?_ ?_⟩⟩
    · rintro i σ H2 hi' ⟨p, st, ns, nts, v10, v11, v12, v13, rfl, A1, en⟩
      refine ⟨fun σ' H' => ∃ (p : LPm) (st : Sta) (ns : Nat → Nat) (nts : Nat → Addr) (v10 v12 : Option V), σ' = [some (.ref b), some (.ref p.D.d), some (.int (many : Int)), some (.ref wl), some (.ref bl), some (.ref p.ce), some (.ref p.rl), some (.ref dl), some (.ref ll), some (.ref p.al), v10, some (.int (0 + (i : Int))), v12, v13, none] ∧ LS FC DC CC KC H b PT H' p st ns st ns nts wl bl ll dl (34 + 12 * i + 10) ∧ p.n = many, ?_, ?_⟩
      · refine ⟨_, rfl, b, 3, _, rfl, A1.lb.bag, by omega, by decide, by decide, fun H3 r3 k3 hB3 s0 s1 => ⟨_, _, rfl, rfl, 1 + r3, rfl, by omega, by omega, for_range (lo := 0) (n := (1 + r3).toNat) (fun m σ H' => ∃ (p : LPm) (st : Sta) (ns : Nat → Nat) (nts : Nat → Addr) (v10 v12 : Option V), σ = [some (.ref b), some (.ref p.D.d), some (.int (many : Int)), some (.ref wl), some (.ref bl), some (.ref p.ce), some (.ref p.rl), some (.ref dl), some (.ref ll), some (.ref p.al), v10, some (.int (0 + (i : Int))), v12, v13, none] ∧ LS FC DC CC KC H b PT H' p st ns st ns nts wl bl ll dl (34 + 12 * i + 1 + 3 * m) ∧ p.n = many) ⟨p, st, ns, nts, v10, v12, rfl, (A1.draw k3 hB3).up (by omega), en⟩ ?_ ?_⟩⟩
        · rintro m σ H4 hm ⟨p, st, ns, nts, v10, v12, rfl, A2, en⟩
          refine ⟨_, rfl, _, rfl, b, _, _, rfl, A2.lb.bag, by omega, by omega, by omega, fun H5 r5 k5 hB5 t0 t1 => ?_⟩
          obtain ⟨j, rfl⟩ := Int.eq_ofNat_of_zero_le t0
          have hj : j < p.cs.length := by rw [A2.s.len]; omega
          have A3 := A2.draw k5 hB5
          refine ⟨_, rfl, b, _, rfl, A3.lb.bag, by omega, fun H6 v k6 hB6 _ _ => ?_⟩
          have A4 := A3.draw k6 hB6
          refine ⟨_, rfl, _, rfl, wl, _, _, j, rfl, rfl, A4.lb.hwl, ixN_nat0 (by rw [List.length_map]; exact hj), ?_⟩
          obtain ⟨H7, e7⟩ : ∃ H7, upd H6 wl (.lst ((p.cs.map fun c => V.int c.v).set j (.int v))) = H7 := ⟨_, rfl⟩
          rw [e7]
          have w7 : H7 wl = some (.lst ((p.cs.map fun c => V.int c.v).set j (.int v))) := by rw [← e7]; exact upd_same
          obtain ⟨d, hd⟩ : ∃ d, p.cs[j]? = some d := ⟨_, List.getElem?_eq_getElem hj⟩
          have hz : d.z = nmK j := by
            have h1 : (p.cs.map Ce.z)[j]? = some d.z := by rw [List.getElem?_map, hd]; rfl
            rw [A4.lb.zs, range_at _ (by omega)] at h1
            exact (Option.some.inj h1).symm
          have D7 := A4.lb.desk.kp (show Kp [wl] H6 H7 by rw [← e7]; exact Kp.put (by simp)) fun x hx hm => (A4.lb.newf x hx).2 (by rw [List.mem_singleton.mp hm]; simp)
          have j8 : j < 8 := by omega
          have hcat : ("c" : Str).length + ((toString ((j : Nat) : Int) : String) : Str).length ≤ sizeLine := by
            have g1 := nm_len j j8
            have g2 : ("c" : Str).length = 1 := by decide +kernel
            omega
          refine ⟨_, rfl, _, rfl, wl, _, _, _, rfl, rfl, SqL.of w7, atI_nat (List.getElem?_set_self (by rw [List.length_map]; exact hj)), _, rfl, _, rfl, j, rfl, log8 j j8, _, _, rfl, rfl, hcat, p.D.d, p.D.dx, _, rfl, D7.desk, p.D, p.tD, p.cs, _, _, j, d, v, ?_, D7, hd, fun H8 t' k8 ht D8 => ?_⟩
          · rw [hz]; rfl
          · exact ⟨p.at_ t' (p.cs.set j (d.to v)), st, ns, nts, _, _, rfl, (A4.put hd e7 k8 ht D8).up (by omega), en⟩
        · rintro σ H4 ⟨p, st, ns, nts, v10, v12, rfl, A2, en⟩
          exact ⟨p, st, ns, nts, v10, v12, rfl, A2.up (by omega), en⟩
      rintro σ' H3 ⟨p, st, ns, nts, v10, v12, rfl, A2, en⟩
      refine ⟨fun σ' H' => ∃ top : Nat, σ' = [some (.ref b), some (.ref p.D.d), some (.int (many : Int)), some (.ref wl), some (.ref bl), some (.ref p.ce), some (.ref p.rl), some (.ref dl), some (.ref ll), some (.ref p.al), v10, some (.int (0 + (i : Int))), v12, some (.int (top : Int)), none] ∧ top < p.n ∧ LS FC DC CC KC H b PT H' p st ns st ns nts wl bl ll dl (34 + 12 * i + 12), ?_, ?_⟩
      · refine ⟨_, rfl, b, 2, _, rfl, A2.lb.bag, by omega, by decide, by decide, fun H4 r4 k4 hB4 r0 r1 => ⟨rfl, _, rfl, ?_⟩⟩
        have A3 := A2.draw k4 hB4
        refine ite2 (fun e => ?_) (fun e => ?_)
        · refine ⟨_, rfl, _, rfl, b, _, _, rfl, A3.lb.bag, by omega, by omega, by omega, fun H5 r5 k5 hB5 t0 t1 => ?_⟩
          obtain ⟨top, rfl⟩ := Int.eq_ofNat_of_zero_le t0
          exact ⟨top, rfl, by omega, (A3.draw k5 hB5).up (by omega)⟩
        · refine ⟨_, rfl, _, _, rfl, rfl, many - 1, ?_, by omega, A3.up (by omega)⟩
          show [some (V.ref b), _, _, _, _, _, _, _, _, _, _, _, _, some (V.int ((many : Int) - 1)), _] = _
          rw [show ((many - 1 : Nat) : Int) = (many : Int) - 1 by omega]
      rintro σ' H4 ⟨top, rfl, ht, A3⟩
      have n8 := A3.s.n8
      have eqL : ∀ (ns : Nat → Nat), PyData.eqv (.list ((intsN p.n ns).map datV)) (.list ((intsN p.n ns).map datV)) = true := fun ns => flat_eqL (flI p.n ns)
      refine ⟨_, rfl, _, rfl, _, _, .lst (SqL.of A3.lad.hrl) (dpAll_flat (flI p.n ns)), .lst (SqL.of A3.hdl) (dpAll_flat (flI p.n ns)), flat_shL (flI p.n ns), flat_shL (flI p.n ns), ?_⟩
      have e1 : PyData.eqv (.list (((List.range p.n).map fun i => V.int (ns i : Nat)).map datV)) (.list ((intsN p.n ns).map datV)) = true := eqL ns
      have e2 : PyData.eqv (.list (((List.range p.n).map fun i => V.int (ns i : Nat)).map datV)) (.list (((List.range p.n).map fun i => V.int (ns i : Nat)).map datV)) = true := eqL ns
      first | rw [e1] | rw [e2]
      refine ⟨_, rfl, iteF ?_⟩
      refine ⟨_, rfl, _, rfl, p.al, _, _, .ref (p.a top), rfl, rfl, SqL.of A3.lad.hal, atI_nat (range_at _ ht), p.a top, p.ax top, _, rfl, A3.lad.me top ht, A3.ask Wk ht fun H5 nts' A4 => ?_⟩
      obtain ⟨⟨g1, g2, g3, g4, g5, g6⟩, ⟨c1, c2, c3, c4, c5, c6⟩, f1, f2, f3, f4, f5, f6⟩ := A4.apD
      refine ⟨_, rfl, _, rfl, _, rfl, _, rfl, _, rfl, p, top, wl, bl, ll, dl, st, ns, rfl, A4.s.len, ht, n8, A4.lb.hwl, A4.lb.hbl, A4.last, A4.hdl, by simp only [List.mem_cons, List.mem_nil_iff, or_false, not_or]; exact ⟨f2, f3⟩, by simp only [List.mem_cons, List.mem_nil_iff, or_false, not_or]; exact ⟨f4, f5⟩, f6, fun H6 k6 L6 d6 => ?_⟩
      have A5 := A4.law k6 L6 d6
      refine ⟨rfl, _, rfl, ?_⟩
      rw [neT rfl]
      refine iteF ?_
      refine ⟨_, rfl, (many : Int), rfl, by omega, by omega, for_range (lo := 0) (n := ((many : Nat) : Int).toNat) (fun m σ H' => ∃ v10 : Option V, σ = [some (.ref b), some (.ref p.D.d), some (.int (many : Int)), some (.ref wl), some (.ref bl), some (.ref p.ce), some (.ref p.rl), some (.ref dl), some (.ref ll), some (.ref p.al), v10, some (.int (0 + (i : Int))), v12, some (.int (top : Int)), none] ∧ LS FC DC CC KC H b PT H' p (p.stU (top + 1) st) (p.nsU (top + 1) st ns) (p.stU (top + 1) st) (p.nsU (top + 1) st ns) nts' wl bl ll dl (34 + 12 * i + 12)) ⟨v10, rfl, A5⟩ ?_ ?_⟩
      · rintro m σ H7 hm ⟨v10, rfl, A6⟩
        have hm : m < p.n := by omega
        simp only [Int.zero_add]
        obtain ⟨Lq, l1, l2, l3⟩ := A6.last.ex
        have l4 := l3 m hm
        have me := A6.lad.me m hm
        generalize p.stU (top + 1) st = st2 at A6 l3 l4 me ⊢
        generalize p.nsU (top + 1) st ns = ns2 at A6 me ⊢
        refine ⟨_, rfl, _, rfl, p.rl, _, _, _, rfl, rfl, SqL.of A6.lad.hrl, atI_nat (range_at _ hm), _, rfl, _, rfl, dl, _, _, _, rfl, rfl, SqL.of A6.hdl, atI_nat (range_at _ hm), rfl, _, rfl, ?_⟩
        rw [neT rfl]
        refine iteF ?_
        refine ⟨_, rfl, _, rfl, p.al, _, _, .ref (p.a m), rfl, rfl, SqL.of A6.lad.hal, atI_nat (range_at _ hm), p.a m, KC, p.ax m, _, _, rfl, me, L.TK.cl, L.TK.no _ (by simp), rfl, _, rfl, _, rfl, dl, _, _, _, rfl, rfl, SqL.of A6.hdl, atI_nat (range_at _ hm), rfl, _, rfl, ?_⟩
        rw [neT rfl]
        refine iteF ?_
        refine ⟨_, rfl, _, rfl, p.al, _, _, .ref (p.a m), rfl, rfl, SqL.of A6.lad.hal, atI_nat (range_at _ hm), p.a m, p.ax m, _, rfl, me, p.a m, p.ax m, p.D.f, p.wk m, _, nmA m, _, _, _, rfl, me, ?_⟩
        cases hst : st2 m with
        | none =>
          rw [hst] at l4
          have l4 : Lq[m]? = some .non := l4
          refine ⟨_, rfl, _, rfl, ll, _, _, _, rfl, rfl, SqL.of l1, atI_nat l4, _, rfl, iteT ?_⟩
          exact ⟨rfl, _, rfl, iteF ⟨_, rfl, A6⟩⟩
        | some x =>
          rw [hst] at l4
          obtain ⟨t', u', q1, q2, q3⟩ := l4
          refine ⟨_, rfl, _, rfl, ll, _, _, _, rfl, rfl, SqL.of l1, atI_nat q1, _, rfl, iteF ?_⟩
          refine ⟨_, rfl, _, rfl, ll, _, _, _, rfl, rfl, SqL.of l1, atI_nat q1, t', _, _, _, rfl, rfl, SqT.of q2, rfl, ?_⟩
          refine ⟨rfl, _, rfl, ?_⟩
          have en2 : (!decide (p.res m (some x) = V.int (mn (p.bd m) (x.1 + x.2)))) = false := neT rfl
          rw [en2]
          exact iteF ⟨_, rfl, A6⟩
      · rintro σ H7 ⟨v10, rfl, A6⟩
        exact ⟨p, _, _, nts', v10, _, _, _, rfl, A6.up (by omega), en⟩
    · rintro σ H2 ⟨p, st, ns, nts, v10, v11, v12, v13, rfl, A1, en⟩
      exact A1.lb.out
end
end My

set_option Elab.async false
set_option linter.all false
set_option maxRecDepth 100000
set_option maxHeartbeats 8000000
/-! G13: the law; the answers' promises. -/
namespace My
open PySem PySem.Spec PyProof.Rows L2 LamX NdefX
def spLaw (K : PySem.W.Frag) (PT : Addr) : Sp := fun vs H Q _ => ∃ (a : Addr) (ns : List Int), vs = [.ref a] ∧ SqL K H a (ns.map V.int) ∧ ns.length ≤ 63 ∧ TabS H PT qLam ∧ ∀ H', Q (.bl true) H'
section
variable {P : Program} {w : World} {K : PySem.W.Frag} {mg : Str → Option Value} {base : Heap}
abbrev sLaw : Stmt := (top 27)
theorem scLaw : FnScope ["_law_script", "_law_at"] ["_law_script"] (defScope sLaw) := ⟨rfl, rfl, rfl, by decide +kernel, rfl, by decide +kernel, by decide +kernel⟩
theorem sqL_kp {H H' : Hp} {a PT : Addr} {xs : List V} (h : SqL K H a xs) (k : Kp [PT] H H') (ht : ∃ ps, H PT = some (.tbl ps)) : SqL K H' a xs := by
  obtain ⟨ps, hp⟩ := ht
  rcases h with (h | ⟨od, h⟩) | h
  · exact .inl (.inl (k _ _ (fun e => by rw [List.mem_singleton.mp e, hp] at h; cases h) h))
  · exact .inl (.inr ⟨od, k _ _ (fun e => by rw [List.mem_singleton.mp e, hp] at h; cases h) h⟩)
  · exact .inr h
theorem ok_law {f fG fR PT : Addr} {fd dG dR : FuncData} (F : Fun K "law" "law" sLaw f fd) (B : Bt mg) (G : LD P w K mg base "_law_bag" 1 ["_law_script", "_law_at"] (spBag K) fG dG) (R : LD P w K mg base "_law_right" 51 ["_law_bag_here"] (spRight PT) fR dR) : FnOk P w K mg base CX0 52 f fd ["_law_script"] (spLaw K PT) := by
  refine F.ok scLaw (fun vs H Q E h => ?_) (fun cdv A outer s H vs Q E hr h => ?_)
  · obtain ⟨a, ns, rfl, _⟩ := h
    rfl
  · obtain ⟨a, ns, rfl, hS, hl, hT, k⟩ := h
    have nd := scLaw.nd
    have h1 := hr.mono (by decide : 1 ≤ 51)
    have tP : ∃ ps, H PT = some (.tbl ps) := let ⟨ps, h, _⟩ := hT; ⟨ps, h⟩
    refine ⟨_, pss_cons (ps_for PassesOwn.never rfl (pi_range1 rfl B.range (pa_cons (pe_callB (call_max2 rfl) (by rfl) B.max boot_max (pa_cons pe_int (pa_cons (pe_callB (call_min2 rfl) (by rfl) B.min boot_min (pa_cons pe_int (pa_cons (pe_callB call_len (by rfl) B.len PySem.boot_len (pa_cons (pv 0) pa_nil)) pa_nil))) pa_nil))) pa_nil)) (pg_name (i := 1) nd rfl (Or.inl rfl))
        (pss_one (ps_if (pt_not (pt_val (pe_call R.o hr (by rfl) R.a.g R.a.k R.b .nil pass0 (pa_cons (pe_call G.o h1 (by rfl) G.a.g G.a.k G.b .nil pass0 (pa_cons (pv 0) (pa_cons (pv 1) pa_nil))) pa_nil)))) (pss_one (ps_ret pe_bl)) pss_nil)))
      (pss_one (ps_ret pe_bl)), ?_⟩
    obtain ⟨n, hn, n0, n4⟩ : ∃ n : Int, (if (if ((ns.map V.int).length : Int) < 4 then ((ns.map V.int).length : Int) else 4) > 1 then (if ((ns.map V.int).length : Int) < 4 then ((ns.map V.int).length : Int) else 4) else 1) = n ∧ 0 ≤ n ∧ n ≤ 4 := ⟨_, rfl, by split <;> (try split) <;> omega, by split <;> (try split) <;> omega⟩
    refine ⟨_, rfl, _, _, rfl, .inl ⟨_, hS, rfl⟩, _, _, rfl, _, _, rfl, n, by rw [← hn], by omega, by omega, for_range (lo := 0) (n := n.toNat) (fun i σ H' => ∃ v1, σ = [some (.ref a), v1] ∧ Kp [PT] H H' ∧ TabS H' PT qLam) ⟨none, rfl, Kp.refl H, hT⟩ ?_ ?_⟩
    · rintro i σ H1 hi ⟨v1, rfl, k1, t1⟩
      refine ⟨_, rfl, _, rfl, a, ns, _, rfl, sqL_kp hS k1 tP, by omega, by omega, fun H2 b k2 hb hB => ⟨b, rfl, hB, tabs_kp t1 k2 (fun _ h => nomatch h), fun H3 k3 t3 => ⟨_, rfl, iteF ⟨_, rfl, ?_, t3⟩⟩⟩⟩
      refine k1.trans (fun q o nq e => k3 q o (fun hm => ?_) (k2 q o (by simp) e))
      simp only [List.mem_cons, List.mem_nil_iff, or_false] at hm
      rcases hm with z | z
      · rw [z, hb] at e; cases e
      · exact nq (by rw [z]; simp)
    · rintro σ H1 ⟨v1, rfl, k1, t1⟩
      exact k H1
variable {FC DC CC RC KC : Addr}
section
variable {fU fO fB fW fY fC fN fK fCC fCu fH pH : Addr} {dU dO dB dW dY dC dN dK dCC dCu dH : FuncData}
/-- current, over answers of n rungs -/
theorem curs (TF : FlT K FC) (TC : CeT K CC) (TK : KpT K KC) (TR : RnT K RC) (FU : Fun K "current" "Kept.current" sCurK fU dU) (MU : Meth K KC "current" fU) (bU : Binds K dU ["self"] []) (FO : Fun K "are_in_order" "Floor.are_in_order" sOrd fO dO) (MO_ : Meth K FC "are_in_order" fO) (bO : Binds K dO ["self", "notes"] [])
    (FW : Fun K "_work_out" "Kept._work_out" sWout fW dW) (MW : Meth K KC "_work_out" fW) (bW : Binds K dW ["self"] []) (FC_ : Fun K "carry_out" "Floor.carry_out" sCarry fC dC) (MC : Meth K FC "carry_out" fC) (bC : Binds K dC ["self", "run", "work"] []) (mB : MO P w K mg base FC "begun" 3 ["self", "name", "is_of_answer"] (spBegun FC RC) fB dB)
    (mY : MO P w K mg base FC "check_not_busy" 1 ["self", "name"] (spBusy FC RC) fY dY) (mCu : MO P w K mg base CC "current" 1 ["self"] (spVal CC) fCu dCu) : ∀ n, MO P w K mg base KC "current" (6 * n + 1) ["self"] (spCN P w K mg base FC CC KC RC n) fU dU
  | 0 => ⟨MU, bU, ⟨fun vs H Q E h => (show False from h).elim, fun A outer s H args us vs Q E hr e0 b r h => (show False from h).elim⟩⟩
  | n + 1 => by
    have c := curs TF TC TK TR FU MU bU FO MO_ bO FW MW bW FC_ MC bC mB mY mCu n
    have mO : MO P w K mg base FC "are_in_order" (6 * n + 1 + 1) ["self", "notes"] (spOrdQ FC CC KC (spCN P w K mg base FC CC KC RC n)) fO dO := ⟨MO_, bO, ok_ordQ (by omega) FO TF TC TK mCu c⟩
    have mC : MO P w K mg base FC "carry_out" (6 * n + 4 + 1) ["self", "run", "work"] (spCarry P w K mg base FC RC (6 * n + 4)) fC dC := ⟨MC, bC, ok_carry FC_ TF TR⟩
    have mW : MO P w K mg base KC "_work_out" (6 * n + 4 + 2) ["self"] (spWout P w K mg base FC KC RC (6 * n + 4)) fW dW := ⟨MW, bW, ok_wout (by omega) FW TK TF TR mB mC⟩
    exact ⟨MU, bU, (ok_curN (kk := 6 * n + 6) (by omega) (by omega) (by omega) FU TK TF mY mO mW).mono (by omega)⟩
theorem calls (TF : FlT K FC) (TK : KpT K KC) (FK : Fun K "__call__" "Kept.__call__" sCallK fK dK) (sp : Spc K KC "__call__" fK) (fi : PySem.W.fnIn K fK = true) (bK : Binds K dK ["self"] []) (cu : ∀ n, MO P w K mg base KC "current" (6 * n + 1) ["self"] (spCN P w K mg base FC CC KC RC n) fU dU)
    (mN : MO P w K mg base FC "note" 1 ["self", "name", "worth"] (spNoteA FC RC) fN dN) (n : Nat) : SO P w K mg base CX0 KC "__call__" (6 * n + 2) ["self"] (spCallN FC KC RC (spCN P w K mg base FC CC KC RC n)) fK dK := ⟨sp, fi, bK, ok_callN (by omega) FK TK TF (cu n) mN⟩
theorem works {fWk : Addr} {dWk : FuncData} (F : Fun K "_law_work" "_law_work" sWork fWk dWk) (a : At K mg "_law_work" fWk) (b : Binds K dWk N6 []) (B : Bt mg) (T : KpT K KC) (TC : CeT K CC) (C : SO P w K mg base CX0 CC "__call__" 2 ["self"] (spCallA FC CC RC) fCC dCC)
    (ca : ∀ n, SO P w K mg base CX0 KC "__call__" (6 * n + 2) ["self"] (spCallN FC KC RC (spCN P w K mg base FC CC KC RC n)) fK dK) (Ph : PH P w K mg base KC pH fH dH) : Works P w K mg base FC CC KC RC := fun j _ => ⟨fWk, dWk, a, b, ok_work (by omega) F B T TC C (ca j) Ph⟩
theorem anys (ca : ∀ n, SO P w K mg base CX0 KC "__call__" (6 * n + 2) ["self"] (spCallN FC KC RC (spCN P w K mg base FC CC KC RC n)) fK dK) : SO P w K mg base CX0 KC "__call__" 50 ["self"] (spAny P w K mg base FC CC KC RC) fK dK :=
  ⟨(ca 0).m, (ca 0).i, (ca 0).b, fnOk_ex fun j hj => (ca (j + 1)).o.mono (by omega)⟩
end
end
end My

set_option Elab.async false
set_option linter.all false
set_option maxRecDepth 100000
set_option maxHeartbeats 8000000
/-! G14: from the written part to the promise. -/
namespace My
open PySem PySem.Spec PyProof.Rows L2 LamX NdefX
def noB (K : PySem.W.Frag) (C : Addr) (f : Str) : Bool := decide (PySem.W.findIn K (.ref C) f = some none)
theorem no_of {K : PySem.W.Frag} {C : Addr} {f : Str} (h : noB K C f = true) : PySem.W.findIn K (.ref C) f = some none := of_decide_eq_true h
def btB (K : PySem.W.Frag) : Bool := [("int" : Str), ("len" : Str), ("abs" : Str), ("list" : Str), ("str" : Str), ("range" : Str), ("enumerate" : Str), ("isinstance" : Str), ("tuple" : Str), ("set" : Str), ("all" : Str), ("any" : Str), ("max" : Str), ("min" : Str), ("sorted" : Str), ("bool" : Str)].all fun x => decide (PySem.W.nsIn K mainGlobals x = some none)
theorem bt_of {K : PySem.W.Frag} {h : Heap} {mg : Str → Option Value} (X : K.In h) (G : h.Ns mainGlobals mg) (b : btB K = true) : Bt mg := by
  have go : ∀ x ∈ [("int" : Str), ("len" : Str), ("abs" : Str), ("list" : Str), ("str" : Str), ("range" : Str), ("enumerate" : Str), ("isinstance" : Str), ("tuple" : Str), ("set" : Str), ("all" : Str), ("any" : Str), ("max" : Str), ("min" : Str), ("sorted" : Str), ("bool" : Str)], mg x = none := fun x hx => PySem.W.mg_none_of X G (of_decide_eq_true (List.all_eq_true.mp b x hx))
  exact ⟨go _ (by simp), go _ (by simp), go _ (by simp), go _ (by simp), go _ (by simp), go _ (by simp), go _ (by simp), go _ (by simp), go _ (by simp), go _ (by simp), go _ (by simp), go _ (by simp), go _ (by simp), go _ (by simp), go _ (by simp), go _ (by simp)⟩
/-- a look at an own class -/
def clsB (K : PySem.W.Frag) (C : Addr) (fs : List Str) : Bool := PySem.W.plainGet K C Str.empty && (PySem.W.hasDictIn K C && (PySem.W.plainOver K C && (decide (PySem.W.findIn K (.ref C) "__setattr__" = some (some (.builtin "object.__setattr__"))) && fs.all fun f => noB K C f)))
theorem cls_of {K : PySem.W.Frag} {C : Addr} {fs : List Str} (h : clsB K C fs = true) : Cls K C ∧ ∀ f ∈ fs, NoAttr K C f := by
  unfold clsB at h
  simp only [Bool.and_eq_true, decide_eq_true_eq] at h
  obtain ⟨h1, h2, h3, h4, h5⟩ := h
  exact ⟨⟨h1, h2, h3, h4⟩, fun f hf => no_of (List.all_eq_true.mp h5 f hf)⟩
theorem all_mk {l : PySem.W.OpenLaw} {w : World} {K : PySem.W.Frag} {h : Heap} {mg : Str → Option Value} {fa : Addr} (X : K.In h) (G : h.Ns mainGlobals mg) (hfa : mg "law" = some (.ref fa)) {cR PT : Addr} {f_bag : Addr} {od_bag an_bag : Option Addr} {sl_bag : Array (Option Value)} {oc_bag kV_bag dc_bag pm_bag cd_bag ct_bag : Value} {f_take : Addr} {od_take an_take : Option Addr} {sl_take : Array (Option Value)} {oc_take kV_take dc_take pm_take cd_take ct_take : Value} {f_of : Addr} {od_of an_of : Option Addr} {sl_of : Array (Option Value)} {oc_of kV_of dc_of pm_of cd_of ct_of : Value} {f_worth : Addr} {od_worth an_worth : Option Addr} {sl_worth : Array (Option Value)} {oc_worth kV_worth dc_worth pm_worth cd_worth ct_worth : Value} {f_work : Addr} {od_work an_work : Option Addr} {sl_work : Array (Option Value)} {oc_work kV_work dc_work pm_work cd_work ct_work : Value} {f_kept : Addr} {od_kept an_kept : Option Addr} {sl_kept : Array (Option Value)} {oc_kept kV_kept dc_kept pm_kept ct_kept : Value} {f_read : Addr} {od_read an_read : Option Addr} {sl_read : Array (Option Value)} {oc_read kV_read dc_read pm_read cd_read ct_read : Value} {f_right : Addr} {od_right an_right : Option Addr} {sl_right : Array (Option Value)} {oc_right kV_right dc_right pm_right cd_right ct_right : Value} {f_law : Addr} {od_law an_law : Option Addr} {sl_law : Array (Option Value)} {oc_law kV_law dc_law pm_law cd_law ct_law : Value} {FC : Addr} {DC : Addr} {CC : Addr} {RC : Addr} {KC : Addr} {f_fI : Addr} {od_fI an_fI : Option Addr} {sl_fI : Array (Option Value)} {oc_fI kV_fI dc_fI pm_fI cd_fI ct_fI : Value} {f_fP : Addr} {od_fP an_fP : Option Addr} {sl_fP : Array (Option Value)} {oc_fP kV_fP dc_fP pm_fP cd_fP ct_fP : Value} {f_fN : Addr} {od_fN an_fN : Option Addr} {sl_fN : Array (Option Value)} {oc_fN kV_fN dc_fN pm_fN cd_fN ct_fN : Value} {f_fT : Addr} {od_fT an_fT : Option Addr} {sl_fT : Array (Option Value)} {oc_fT kV_fT dc_fT pm_fT cd_fT ct_fT : Value} {f_fU : Addr} {od_fU an_fU : Option Addr} {sl_fU : Array (Option Value)} {oc_fU kV_fU dc_fU pm_fU cd_fU ct_fU : Value} {f_fS : Addr} {od_fS an_fS : Option Addr} {sl_fS : Array (Option Value)} {oc_fS kV_fS dc_fS pm_fS cd_fS ct_fS : Value} {f_fB : Addr} {od_fB an_fB : Option Addr} {sl_fB : Array (Option Value)} {oc_fB kV_fB dc_fB pm_fB cd_fB ct_fB : Value} {f_fC : Addr} {od_fC an_fC : Option Addr} {sl_fC : Array (Option Value)} {oc_fC kV_fC dc_fC pm_fC cd_fC ct_fC : Value} {f_fY : Addr} {od_fY an_fY : Option Addr} {sl_fY : Array (Option Value)} {oc_fY kV_fY dc_fY pm_fY cd_fY ct_fY : Value} {f_fO : Addr} {od_fO an_fO : Option Addr} {sl_fO : Array (Option Value)} {oc_fO kV_fO dc_fO pm_fO cd_fO ct_fO : Value} {f_dI : Addr} {od_dI an_dI : Option Addr} {sl_dI : Array (Option Value)} {oc_dI kV_dI dc_dI pm_dI cd_dI ct_dI : Value} {f_dC : Addr} {od_dC an_dC : Option Addr} {sl_dC : Array (Option Value)} {oc_dC kV_dC dc_dC pm_dC cd_dC ct_dC : Value} {f_dK : Addr} {od_dK an_dK : Option Addr} {sl_dK : Array (Option Value)} {oc_dK kV_dK dc_dK pm_dK cd_dK ct_dK : Value} {f_dS : Addr} {od_dS an_dS : Option Addr} {sl_dS : Array (Option Value)} {oc_dS kV_dS dc_dS pm_dS cd_dS ct_dS : Value} {f_cI : Addr} {od_cI an_cI : Option Addr} {sl_cI : Array (Option Value)} {oc_cI kV_cI dc_cI pm_cI cd_cI ct_cI : Value} {f_cC : Addr} {od_cC an_cC : Option Addr} {sl_cC : Array (Option Value)} {oc_cC kV_cC dc_cC pm_cC cd_cC ct_cC : Value} {f_cP : Addr} {od_cP an_cP : Option Addr} {sl_cP : Array (Option Value)} {oc_cP kV_cP dc_cP pm_cP cd_cP ct_cP : Value} {f_cU : Addr} {od_cU an_cU : Option Addr} {sl_cU : Array (Option Value)} {oc_cU kV_cU dc_cU pm_cU cd_cU ct_cU : Value} {f_rI : Addr} {od_rI an_rI : Option Addr} {sl_rI : Array (Option Value)} {oc_rI kV_rI dc_rI pm_rI cd_rI ct_rI : Value} {f_kI : Addr} {od_kI an_kI : Option Addr} {sl_kI : Array (Option Value)} {oc_kI kV_kI dc_kI pm_kI cd_kI ct_kI : Value} {f_kC : Addr} {od_kC an_kC : Option Addr} {sl_kC : Array (Option Value)} {oc_kC kV_kC dc_kC pm_kC cd_kC ct_kC : Value} {f_kU : Addr} {od_kU an_kU : Option Addr} {sl_kU : Array (Option Value)} {oc_kU kV_kU dc_kU pm_kU cd_kU ct_kU : Value} {f_kW : Addr} {od_kW an_kW : Option Addr} {sl_kW : Array (Option Value)} {oc_kW kV_kW dc_kW pm_kW cd_kW ct_kW : Value} {pH : Addr} {rest_pH : List Value} {f_kH : Addr} {od_kH an_kH : Option Addr} {sl_kH : Array (Option Value)} {oc_kH kV_kH dc_kH pm_kH cd_kH ct_kH : Value} {tM : Tok}
    (a_bag : PySem.W.nsIn K mainGlobals "_law_bag" = some (some (.ref f_bag)))
    (l_bag : K.lookup f_bag = some ⟨oc_bag, od_bag, .func (PySem.W.fnOf "_law_bag" "_law_bag" (defArgs sBag) (defBody sBag) (defScope sBag) .none kV_bag dc_bag pm_bag an_bag cd_bag ct_bag), sl_bag⟩)
    (c_bag : PySem.W.codeIn K cd_bag "_law_bag" = true)
    (k_bag : PySem.W.keepIn K (.ref f_bag) = true)
    (a_take : PySem.W.nsIn K mainGlobals "_law_take" = some (some (.ref f_take)))
    (l_take : K.lookup f_take = some ⟨oc_take, od_take, .func (PySem.W.fnOf "_law_take" "_law_take" (defArgs sTake) (defBody sTake) (defScope sTake) .none kV_take dc_take pm_take an_take cd_take ct_take), sl_take⟩)
    (c_take : PySem.W.codeIn K cd_take "_law_take" = true)
    (k_take : PySem.W.keepIn K (.ref f_take) = true)
    (a_of : PySem.W.nsIn K mainGlobals "_law_of" = some (some (.ref f_of)))
    (l_of : K.lookup f_of = some ⟨oc_of, od_of, .func (PySem.W.fnOf "_law_of" "_law_of" (defArgs sOf) (defBody sOf) (defScope sOf) .none kV_of dc_of pm_of an_of cd_of ct_of), sl_of⟩)
    (c_of : PySem.W.codeIn K cd_of "_law_of" = true)
    (k_of : PySem.W.keepIn K (.ref f_of) = true)
    (a_worth : PySem.W.nsIn K mainGlobals "_law_worth" = some (some (.ref f_worth)))
    (l_worth : K.lookup f_worth = some ⟨oc_worth, od_worth, .func (PySem.W.fnOf "_law_worth" "_law_worth" (defArgs sWorth) (defBody sWorth) (defScope sWorth) .none kV_worth dc_worth pm_worth an_worth cd_worth ct_worth), sl_worth⟩)
    (c_worth : PySem.W.codeIn K cd_worth "_law_worth" = true)
    (k_worth : PySem.W.keepIn K (.ref f_worth) = true)
    (a_work : PySem.W.nsIn K mainGlobals "_law_work" = some (some (.ref f_work)))
    (l_work : K.lookup f_work = some ⟨oc_work, od_work, .func (PySem.W.fnOf "_law_work" "_law_work" (defArgs sWork) (defBody sWork) (defScope sWork) .none kV_work dc_work pm_work an_work cd_work ct_work), sl_work⟩)
    (c_work : PySem.W.codeIn K cd_work "_law_work" = true)
    (k_work : PySem.W.keepIn K (.ref f_work) = true)
    (a_kept : PySem.W.nsIn K mainGlobals "_law_kept" = some (some (.ref f_kept)))
    (l_kept : K.lookup f_kept = some ⟨oc_kept, od_kept, .func (PySem.W.fnOf "_law_kept" "_law_kept" (defArgs sKept) (defBody sKept) (defScope sKept) .none kV_kept dc_kept pm_kept an_kept (.ref cR) ct_kept), sl_kept⟩)
    (c_kept : PySem.W.codeIn K (.ref cR) "_law_kept" = true)
    (k_kept : PySem.W.keepIn K (.ref f_kept) = true)
    (a_read : PySem.W.nsIn K mainGlobals "_law_read" = some (some (.ref f_read)))
    (l_read : K.lookup f_read = some ⟨oc_read, od_read, .func (PySem.W.fnOf "_law_read" "_law_read" (defArgs sRead) (defBody sRead) (defScope sRead) .none kV_read dc_read pm_read an_read cd_read ct_read), sl_read⟩)
    (c_read : PySem.W.codeIn K cd_read "_law_read" = true)
    (k_read : PySem.W.keepIn K (.ref f_read) = true)
    (a_right : PySem.W.nsIn K mainGlobals "_law_right" = some (some (.ref f_right)))
    (l_right : K.lookup f_right = some ⟨oc_right, od_right, .func (PySem.W.fnOf "_law_right" "_law_right" (defArgs sRight) (defBody sRight) (defScope sRight) .none kV_right dc_right pm_right an_right cd_right ct_right), sl_right⟩)
    (c_right : PySem.W.codeIn K cd_right "_law_right" = true)
    (k_right : PySem.W.keepIn K (.ref f_right) = true)
    (a_law : PySem.W.nsIn K mainGlobals "law" = some (some (.ref f_law)))
    (l_law : K.lookup f_law = some ⟨oc_law, od_law, .func (PySem.W.fnOf "law" "law" (defArgs sLaw) (defBody sLaw) (defScope sLaw) .none kV_law dc_law pm_law an_law cd_law ct_law), sl_law⟩)
    (c_law : PySem.W.codeIn K cd_law "law" = true)
    (k_law : PySem.W.keepIn K (.ref f_law) = true)
    (hTab : h.get? PT = some { cls := .none, data := .fields #[] })
    (nTab : K.lookup PT = none)
    (cTab : PySem.W.codeHdIn K cR PT = true)
    (g_FC : PySem.W.nsIn K mainGlobals "Floor" = some (some (.ref FC)))
    (kc_FC : PySem.W.keepIn K (.ref FC) = true)
    (mk_FC : PySem.W.makesIn K FC = true)
    (z_FC : clsB K FC ["most_runs", "names", "cells", "sources", "effects", "log", "inmost", "batches", "turned"] = true)
    (g_DC : PySem.W.nsIn K mainGlobals "Desk" = some (some (.ref DC)))
    (kc_DC : PySem.W.keepIn K (.ref DC) = true)
    (mk_DC : PySem.W.makesIn K DC = true)
    (z_DC : clsB K DC ["_floor"] = true)
    (g_CC : PySem.W.nsIn K mainGlobals "Cell" = some (some (.ref CC)))
    (kc_CC : PySem.W.keepIn K (.ref CC) = true)
    (mk_CC : PySem.W.makesIn K CC = true)
    (z_CC : clsB K CC ["name", "_floor", "_now"] = true)
    (g_RC : PySem.W.nsIn K mainGlobals "Run" = some (some (.ref RC)))
    (kc_RC : PySem.W.keepIn K (.ref RC) = true)
    (mk_RC : PySem.W.makesIn K RC = true)
    (z_RC : clsB K RC ["name", "is_of_answer", "outer", "notes", "quiet"] = true)
    (g_KC : PySem.W.nsIn K mainGlobals "Kept" = some (some (.ref KC)))
    (kc_KC : PySem.W.keepIn K (.ref KC) = true)
    (mk_KC : PySem.W.makesIn K KC = true)
    (z_KC : clsB K KC ["name", "runs", "_floor", "_work", "_is_kept", "_result", "_notes"] = true)
    (at_fI : PySem.W.findIn K (.ref FC) "__init__" = some (some (.ref f_fI)))
    (fn_fI : PySem.W.isFn K (.ref f_fI) = true)
    (fi_fI : PySem.W.fnIn K f_fI = true)
    (l_fI : K.lookup f_fI = some ⟨oc_fI, od_fI, .func (PySem.W.fnOf "__init__" "Floor.__init__" (defArgs sInitF) (defBody sInitF) (defScope sInitF) .none kV_fI dc_fI pm_fI an_fI cd_fI ct_fI), sl_fI⟩)
    (c_fI : PySem.W.codeIn K cd_fI "Floor.__init__" = true)
    (k_fI : PySem.W.keepIn K (.ref f_fI) = true)
    (at_fP : PySem.W.findIn K (.ref FC) "check_place" = some (some (.ref f_fP)))
    (fn_fP : PySem.W.isFn K (.ref f_fP) = true)
    (fi_fP : PySem.W.fnIn K f_fP = true)
    (l_fP : K.lookup f_fP = some ⟨oc_fP, od_fP, .func (PySem.W.fnOf "check_place" "Floor.check_place" (defArgs sPlace) (defBody sPlace) (defScope sPlace) .none kV_fP dc_fP pm_fP an_fP cd_fP ct_fP), sl_fP⟩)
    (c_fP : PySem.W.codeIn K cd_fP "Floor.check_place" = true)
    (k_fP : PySem.W.keepIn K (.ref f_fP) = true)
    (at_fN : PySem.W.findIn K (.ref FC) "note" = some (some (.ref f_fN)))
    (fn_fN : PySem.W.isFn K (.ref f_fN) = true)
    (fi_fN : PySem.W.fnIn K f_fN = true)
    (l_fN : K.lookup f_fN = some ⟨oc_fN, od_fN, .func (PySem.W.fnOf "note" "Floor.note" (defArgs sNote) (defBody sNote) (defScope sNote) .none kV_fN dc_fN pm_fN an_fN cd_fN ct_fN), sl_fN⟩)
    (c_fN : PySem.W.codeIn K cd_fN "Floor.note" = true)
    (k_fN : PySem.W.keepIn K (.ref f_fN) = true)
    (at_fT : PySem.W.findIn K (.ref FC) "take_name" = some (some (.ref f_fT)))
    (fn_fT : PySem.W.isFn K (.ref f_fT) = true)
    (fi_fT : PySem.W.fnIn K f_fT = true)
    (l_fT : K.lookup f_fT = some ⟨oc_fT, od_fT, .func (PySem.W.fnOf "take_name" "Floor.take_name" (defArgs sTakeN) (defBody sTakeN) (defScope sTakeN) .none kV_fT dc_fT pm_fT an_fT cd_fT ct_fT), sl_fT⟩)
    (c_fT : PySem.W.codeIn K cd_fT "Floor.take_name" = true)
    (k_fT : PySem.W.keepIn K (.ref f_fT) = true)
    (at_fU : PySem.W.findIn K (.ref FC) "_due" = some (some (.ref f_fU)))
    (fn_fU : PySem.W.isFn K (.ref f_fU) = true)
    (fi_fU : PySem.W.fnIn K f_fU = true)
    (l_fU : K.lookup f_fU = some ⟨oc_fU, od_fU, .func (PySem.W.fnOf "_due" "Floor._due" (defArgs sDue) (defBody sDue) (defScope sDue) .none kV_fU dc_fU pm_fU an_fU cd_fU ct_fU), sl_fU⟩)
    (c_fU : PySem.W.codeIn K cd_fU "Floor._due" = true)
    (k_fU : PySem.W.keepIn K (.ref f_fU) = true)
    (at_fS : PySem.W.findIn K (.ref FC) "settle" = some (some (.ref f_fS)))
    (fn_fS : PySem.W.isFn K (.ref f_fS) = true)
    (fi_fS : PySem.W.fnIn K f_fS = true)
    (l_fS : K.lookup f_fS = some ⟨oc_fS, od_fS, .func (PySem.W.fnOf "settle" "Floor.settle" (defArgs sSettle) (defBody sSettle) (defScope sSettle) .none kV_fS dc_fS pm_fS an_fS cd_fS ct_fS), sl_fS⟩)
    (c_fS : PySem.W.codeIn K cd_fS "Floor.settle" = true)
    (k_fS : PySem.W.keepIn K (.ref f_fS) = true)
    (at_fB : PySem.W.findIn K (.ref FC) "begun" = some (some (.ref f_fB)))
    (fn_fB : PySem.W.isFn K (.ref f_fB) = true)
    (fi_fB : PySem.W.fnIn K f_fB = true)
    (l_fB : K.lookup f_fB = some ⟨oc_fB, od_fB, .func (PySem.W.fnOf "begun" "Floor.begun" (defArgs sBegun) (defBody sBegun) (defScope sBegun) .none kV_fB dc_fB pm_fB an_fB cd_fB ct_fB), sl_fB⟩)
    (c_fB : PySem.W.codeIn K cd_fB "Floor.begun" = true)
    (k_fB : PySem.W.keepIn K (.ref f_fB) = true)
    (at_fC : PySem.W.findIn K (.ref FC) "carry_out" = some (some (.ref f_fC)))
    (fn_fC : PySem.W.isFn K (.ref f_fC) = true)
    (fi_fC : PySem.W.fnIn K f_fC = true)
    (l_fC : K.lookup f_fC = some ⟨oc_fC, od_fC, .func (PySem.W.fnOf "carry_out" "Floor.carry_out" (defArgs sCarry) (defBody sCarry) (defScope sCarry) .none kV_fC dc_fC pm_fC an_fC cd_fC ct_fC), sl_fC⟩)
    (c_fC : PySem.W.codeIn K cd_fC "Floor.carry_out" = true)
    (k_fC : PySem.W.keepIn K (.ref f_fC) = true)
    (at_fY : PySem.W.findIn K (.ref FC) "check_not_busy" = some (some (.ref f_fY)))
    (fn_fY : PySem.W.isFn K (.ref f_fY) = true)
    (fi_fY : PySem.W.fnIn K f_fY = true)
    (l_fY : K.lookup f_fY = some ⟨oc_fY, od_fY, .func (PySem.W.fnOf "check_not_busy" "Floor.check_not_busy" (defArgs sBusy) (defBody sBusy) (defScope sBusy) .none kV_fY dc_fY pm_fY an_fY cd_fY ct_fY), sl_fY⟩)
    (c_fY : PySem.W.codeIn K cd_fY "Floor.check_not_busy" = true)
    (k_fY : PySem.W.keepIn K (.ref f_fY) = true)
    (at_fO : PySem.W.findIn K (.ref FC) "are_in_order" = some (some (.ref f_fO)))
    (fn_fO : PySem.W.isFn K (.ref f_fO) = true)
    (fi_fO : PySem.W.fnIn K f_fO = true)
    (l_fO : K.lookup f_fO = some ⟨oc_fO, od_fO, .func (PySem.W.fnOf "are_in_order" "Floor.are_in_order" (defArgs sOrd) (defBody sOrd) (defScope sOrd) .none kV_fO dc_fO pm_fO an_fO cd_fO ct_fO), sl_fO⟩)
    (c_fO : PySem.W.codeIn K cd_fO "Floor.are_in_order" = true)
    (k_fO : PySem.W.keepIn K (.ref f_fO) = true)
    (at_dI : PySem.W.findIn K (.ref DC) "__init__" = some (some (.ref f_dI)))
    (fn_dI : PySem.W.isFn K (.ref f_dI) = true)
    (fi_dI : PySem.W.fnIn K f_dI = true)
    (l_dI : K.lookup f_dI = some ⟨oc_dI, od_dI, .func (PySem.W.fnOf "__init__" "Desk.__init__" (defArgs sInitD) (defBody sInitD) (defScope sInitD) .none kV_dI dc_dI pm_dI an_dI cd_dI ct_dI), sl_dI⟩)
    (c_dI : PySem.W.codeIn K cd_dI "Desk.__init__" = true)
    (k_dI : PySem.W.keepIn K (.ref f_dI) = true)
    (at_dC : PySem.W.findIn K (.ref DC) "cell" = some (some (.ref f_dC)))
    (fn_dC : PySem.W.isFn K (.ref f_dC) = true)
    (fi_dC : PySem.W.fnIn K f_dC = true)
    (l_dC : K.lookup f_dC = some ⟨oc_dC, od_dC, .func (PySem.W.fnOf "cell" "Desk.cell" (defArgs sCellD) (defBody sCellD) (defScope sCellD) .none kV_dC dc_dC pm_dC an_dC cd_dC ct_dC), sl_dC⟩)
    (c_dC : PySem.W.codeIn K cd_dC "Desk.cell" = true)
    (k_dC : PySem.W.keepIn K (.ref f_dC) = true)
    (at_dK : PySem.W.findIn K (.ref DC) "kept" = some (some (.ref f_dK)))
    (fn_dK : PySem.W.isFn K (.ref f_dK) = true)
    (fi_dK : PySem.W.fnIn K f_dK = true)
    (l_dK : K.lookup f_dK = some ⟨oc_dK, od_dK, .func (PySem.W.fnOf "kept" "Desk.kept" (defArgs sKeptD) (defBody sKeptD) (defScope sKeptD) .none kV_dK dc_dK pm_dK an_dK cd_dK ct_dK), sl_dK⟩)
    (c_dK : PySem.W.codeIn K cd_dK "Desk.kept" = true)
    (k_dK : PySem.W.keepIn K (.ref f_dK) = true)
    (at_dS : PySem.W.findIn K (.ref DC) "__setitem__" = some (some (.ref f_dS)))
    (fn_dS : PySem.W.isFn K (.ref f_dS) = true)
    (fi_dS : PySem.W.fnIn K f_dS = true)
    (l_dS : K.lookup f_dS = some ⟨oc_dS, od_dS, .func (PySem.W.fnOf "__setitem__" "Desk.__setitem__" (defArgs sSet) (defBody sSet) (defScope sSet) .none kV_dS dc_dS pm_dS an_dS cd_dS ct_dS), sl_dS⟩)
    (c_dS : PySem.W.codeIn K cd_dS "Desk.__setitem__" = true)
    (k_dS : PySem.W.keepIn K (.ref f_dS) = true)
    (at_cI : PySem.W.findIn K (.ref CC) "__init__" = some (some (.ref f_cI)))
    (fn_cI : PySem.W.isFn K (.ref f_cI) = true)
    (fi_cI : PySem.W.fnIn K f_cI = true)
    (l_cI : K.lookup f_cI = some ⟨oc_cI, od_cI, .func (PySem.W.fnOf "__init__" "Cell.__init__" (defArgs sInitC) (defBody sInitC) (defScope sInitC) .none kV_cI dc_cI pm_cI an_cI cd_cI ct_cI), sl_cI⟩)
    (c_cI : PySem.W.codeIn K cd_cI "Cell.__init__" = true)
    (k_cI : PySem.W.keepIn K (.ref f_cI) = true)
    (at_cC : PySem.W.findIn K (.ref CC) "__call__" = some (some (.ref f_cC)))
    (fn_cC : PySem.W.isFn K (.ref f_cC) = true)
    (fi_cC : PySem.W.fnIn K f_cC = true)
    (l_cC : K.lookup f_cC = some ⟨oc_cC, od_cC, .func (PySem.W.fnOf "__call__" "Cell.__call__" (defArgs sCall) (defBody sCall) (defScope sCall) .none kV_cC dc_cC pm_cC an_cC cd_cC ct_cC), sl_cC⟩)
    (c_cC : PySem.W.codeIn K cd_cC "Cell.__call__" = true)
    (k_cC : PySem.W.keepIn K (.ref f_cC) = true)
    (at_cP : PySem.W.findIn K (.ref CC) "put" = some (some (.ref f_cP)))
    (fn_cP : PySem.W.isFn K (.ref f_cP) = true)
    (fi_cP : PySem.W.fnIn K f_cP = true)
    (l_cP : K.lookup f_cP = some ⟨oc_cP, od_cP, .func (PySem.W.fnOf "put" "Cell.put" (defArgs sPut) (defBody sPut) (defScope sPut) .none kV_cP dc_cP pm_cP an_cP cd_cP ct_cP), sl_cP⟩)
    (c_cP : PySem.W.codeIn K cd_cP "Cell.put" = true)
    (k_cP : PySem.W.keepIn K (.ref f_cP) = true)
    (at_cU : PySem.W.findIn K (.ref CC) "current" = some (some (.ref f_cU)))
    (fn_cU : PySem.W.isFn K (.ref f_cU) = true)
    (fi_cU : PySem.W.fnIn K f_cU = true)
    (l_cU : K.lookup f_cU = some ⟨oc_cU, od_cU, .func (PySem.W.fnOf "current" "Cell.current" (defArgs sCurC) (defBody sCurC) (defScope sCurC) .none kV_cU dc_cU pm_cU an_cU cd_cU ct_cU), sl_cU⟩)
    (c_cU : PySem.W.codeIn K cd_cU "Cell.current" = true)
    (k_cU : PySem.W.keepIn K (.ref f_cU) = true)
    (at_rI : PySem.W.findIn K (.ref RC) "__init__" = some (some (.ref f_rI)))
    (fn_rI : PySem.W.isFn K (.ref f_rI) = true)
    (fi_rI : PySem.W.fnIn K f_rI = true)
    (l_rI : K.lookup f_rI = some ⟨oc_rI, od_rI, .func (PySem.W.fnOf "__init__" "Run.__init__" (defArgs sInitR) (defBody sInitR) (defScope sInitR) .none kV_rI dc_rI pm_rI an_rI cd_rI ct_rI), sl_rI⟩)
    (c_rI : PySem.W.codeIn K cd_rI "Run.__init__" = true)
    (k_rI : PySem.W.keepIn K (.ref f_rI) = true)
    (at_kI : PySem.W.findIn K (.ref KC) "__init__" = some (some (.ref f_kI)))
    (fn_kI : PySem.W.isFn K (.ref f_kI) = true)
    (fi_kI : PySem.W.fnIn K f_kI = true)
    (l_kI : K.lookup f_kI = some ⟨oc_kI, od_kI, .func (PySem.W.fnOf "__init__" "Kept.__init__" (defArgs sInitK) (defBody sInitK) (defScope sInitK) .none kV_kI dc_kI pm_kI an_kI cd_kI ct_kI), sl_kI⟩)
    (c_kI : PySem.W.codeIn K cd_kI "Kept.__init__" = true)
    (k_kI : PySem.W.keepIn K (.ref f_kI) = true)
    (at_kC : PySem.W.findIn K (.ref KC) "__call__" = some (some (.ref f_kC)))
    (fn_kC : PySem.W.isFn K (.ref f_kC) = true)
    (fi_kC : PySem.W.fnIn K f_kC = true)
    (l_kC : K.lookup f_kC = some ⟨oc_kC, od_kC, .func (PySem.W.fnOf "__call__" "Kept.__call__" (defArgs sCallK) (defBody sCallK) (defScope sCallK) .none kV_kC dc_kC pm_kC an_kC cd_kC ct_kC), sl_kC⟩)
    (c_kC : PySem.W.codeIn K cd_kC "Kept.__call__" = true)
    (k_kC : PySem.W.keepIn K (.ref f_kC) = true)
    (at_kU : PySem.W.findIn K (.ref KC) "current" = some (some (.ref f_kU)))
    (fn_kU : PySem.W.isFn K (.ref f_kU) = true)
    (fi_kU : PySem.W.fnIn K f_kU = true)
    (l_kU : K.lookup f_kU = some ⟨oc_kU, od_kU, .func (PySem.W.fnOf "current" "Kept.current" (defArgs sCurK) (defBody sCurK) (defScope sCurK) .none kV_kU dc_kU pm_kU an_kU cd_kU ct_kU), sl_kU⟩)
    (c_kU : PySem.W.codeIn K cd_kU "Kept.current" = true)
    (k_kU : PySem.W.keepIn K (.ref f_kU) = true)
    (at_kW : PySem.W.findIn K (.ref KC) "_work_out" = some (some (.ref f_kW)))
    (fn_kW : PySem.W.isFn K (.ref f_kW) = true)
    (fi_kW : PySem.W.fnIn K f_kW = true)
    (l_kW : K.lookup f_kW = some ⟨oc_kW, od_kW, .func (PySem.W.fnOf "_work_out" "Kept._work_out" (defArgs sWout) (defBody sWout) (defScope sWout) .none kV_kW dc_kW pm_kW an_kW cd_kW ct_kW), sl_kW⟩)
    (c_kW : PySem.W.codeIn K cd_kW "Kept._work_out" = true)
    (k_kW : PySem.W.keepIn K (.ref f_kW) = true)
    (at_pH : PySem.W.findIn K (.ref KC) "held" = some (some (.ref pH)))
    (ge_pH : PySem.W.specialIn K (.ref pH) "__get__" = some (some (.builtin "property.__get__")))
    (tk_pH : PySem.W.takesIn K (.ref pH) = some true)
    (rc_pH : PySem.W.recIn K pH "property" = some (.ref f_kH :: rest_pH))
    (l_kH : K.lookup f_kH = some ⟨oc_kH, od_kH, .func (PySem.W.fnOf "held" "Kept.held" (defArgs sHeld) (defBody sHeld) (defScope sHeld) .none kV_kH dc_kH pm_kH an_kH cd_kH ct_kH), sl_kH⟩)
    (c_kH : PySem.W.codeIn K cd_kH "Kept.held" = true)
    (k_kH : PySem.W.keepIn K (.ref f_kH) = true)
    (co_at : PySem.W.findIn K (.ref DC) "MOST_RUNS" = some (some (.int 100 tM)))
    (co_get : PySem.W.specialIn K (.int 100 tM) "__get__" = some none)
    (z_b : btB K = true)
    (q_DC : PySem.W.noSeq K DC = true) :
    LawAtS l w K CX0 52 63 "_law_script" mg fa h := by
  have e := hfa.symm.trans (PySem.W.mg_of X G a_law)
  cases e
  have B := bt_of X G z_b
  have F_bag := fun_mk (st := sBag) l_bag c_bag k_bag
  have A_bag : At K mg "_law_bag" f_bag := ⟨PySem.W.mg_of X G a_bag, k_bag⟩
  have b_bag := F_bag.binds (ps := ["_law_script", "_law_at"]) fun _ _ _ _ _ _ us hl => match us, hl with | [_, _], _ => rfl
  have F_take := fun_mk (st := sTake) l_take c_take k_take
  have A_take : At K mg "_law_take" f_take := ⟨PySem.W.mg_of X G a_take, k_take⟩
  have b_take := F_take.binds (ps := ["_law_bag_here", "_law_many"]) fun _ _ _ _ _ _ us hl => match us, hl with | [_, _], _ => rfl
  have F_of := fun_mk (st := sOf) l_of c_of k_of
  have A_of : At K mg "_law_of" f_of := ⟨PySem.W.mg_of X G a_of, k_of⟩
  have b_of := F_of.binds (ps := ["_law_bag_here", "_law_some"]) fun _ _ _ _ _ _ us hl => match us, hl with | [_, _], _ => rfl
  have F_worth := fun_mk (st := sWorth) l_worth c_worth k_worth
  have A_worth : At K mg "_law_worth" f_worth := ⟨PySem.W.mg_of X G a_worth, k_worth⟩
  have b_worth := F_worth.binds (ps := ["_law_bag_here"]) fun _ _ _ _ _ _ us hl => match us, hl with | [_], _ => rfl
  have F_work := fun_mk (st := sWork) l_work c_work k_work
  have A_work : At K mg "_law_work" f_work := ⟨PySem.W.mg_of X G a_work, k_work⟩
  have b_work := F_work.binds (ps := ["_law_runs", "_law_cells", "_law_answers", "_law_j", "_law_bound", "_law_cell_first"]) fun _ _ _ _ _ _ us hl => match us, hl with | [_, _, _, _, _, _], _ => rfl
  have F_kept := fun_mk (st := sKept) l_kept c_kept k_kept
  have A_kept : At K mg "_law_kept" f_kept := ⟨PySem.W.mg_of X G a_kept, k_kept⟩
  have b_kept := F_kept.binds (ps := ["_law_desk", "_law_runs", "_law_cells", "_law_answers", "_law_j", "_law_bound", "_law_cell_first"]) fun _ _ _ _ _ _ us hl => match us, hl with | [_, _, _, _, _, _, _], _ => rfl
  have F_read := fun_mk (st := sRead) l_read c_read k_read
  have A_read : At K mg "_law_read" f_read := ⟨PySem.W.mg_of X G a_read, k_read⟩
  have b_read := F_read.binds (ps := ["_law_top", "_law_worths", "_law_bounds", "_law_last", "_law_due_runs"]) fun _ _ _ _ _ _ us hl => match us, hl with | [_, _, _, _, _], _ => rfl
  have F_right := fun_mk (st := sRight) l_right c_right k_right
  have A_right : At K mg "_law_right" f_right := ⟨PySem.W.mg_of X G a_right, k_right⟩
  have b_right := F_right.binds (ps := ["_law_bag_here"]) fun _ _ _ _ _ _ us hl => match us, hl with | [_], _ => rfl
  have F_law := fun_mk (st := sLaw) l_law c_law k_law
  have F_fI := fun_mk (st := sInitF) l_fI c_fI k_fI
  have b_fI := F_fI.binds (ps := ["self", "most_runs"]) fun _ _ _ _ _ _ us hl => match us, hl with | [_, _], _ => rfl
  have M_fI : Meth K FC "__init__" f_fI := ⟨at_fI, fn_fI, k_fI⟩
  have F_fP := fun_mk (st := sPlace) l_fP c_fP k_fP
  have b_fP := F_fP.binds (ps := ["self"]) fun _ _ _ _ _ _ us hl => match us, hl with | [_], _ => rfl
  have M_fP : Meth K FC "check_place" f_fP := ⟨at_fP, fn_fP, k_fP⟩
  have F_fN := fun_mk (st := sNote) l_fN c_fN k_fN
  have b_fN := F_fN.binds (ps := ["self", "name", "worth"]) fun _ _ _ _ _ _ us hl => match us, hl with | [_, _, _], _ => rfl
  have M_fN : Meth K FC "note" f_fN := ⟨at_fN, fn_fN, k_fN⟩
  have F_fT := fun_mk (st := sTakeN) l_fT c_fT k_fT
  have b_fT := F_fT.binds (ps := ["self", "name"]) fun _ _ _ _ _ _ us hl => match us, hl with | [_, _], _ => rfl
  have M_fT : Meth K FC "take_name" f_fT := ⟨at_fT, fn_fT, k_fT⟩
  have F_fU := fun_mk (st := sDue) l_fU c_fU k_fU
  have b_fU := F_fU.binds (ps := ["self"]) fun _ _ _ _ _ _ us hl => match us, hl with | [_], _ => rfl
  have M_fU : Meth K FC "_due" f_fU := ⟨at_fU, fn_fU, k_fU⟩
  have F_fS := fun_mk (st := sSettle) l_fS c_fS k_fS
  have b_fS := F_fS.binds (ps := ["self"]) fun _ _ _ _ _ _ us hl => match us, hl with | [_], _ => rfl
  have M_fS : Meth K FC "settle" f_fS := ⟨at_fS, fn_fS, k_fS⟩
  have F_fB := fun_mk (st := sBegun) l_fB c_fB k_fB
  have b_fB := F_fB.binds (ps := ["self", "name", "is_of_answer"]) fun _ _ _ _ _ _ us hl => match us, hl with | [_, _, _], _ => rfl
  have M_fB : Meth K FC "begun" f_fB := ⟨at_fB, fn_fB, k_fB⟩
  have F_fC := fun_mk (st := sCarry) l_fC c_fC k_fC
  have b_fC := F_fC.binds (ps := ["self", "run", "work"]) fun _ _ _ _ _ _ us hl => match us, hl with | [_, _, _], _ => rfl
  have M_fC : Meth K FC "carry_out" f_fC := ⟨at_fC, fn_fC, k_fC⟩
  have F_fY := fun_mk (st := sBusy) l_fY c_fY k_fY
  have b_fY := F_fY.binds (ps := ["self", "name"]) fun _ _ _ _ _ _ us hl => match us, hl with | [_, _], _ => rfl
  have M_fY : Meth K FC "check_not_busy" f_fY := ⟨at_fY, fn_fY, k_fY⟩
  have F_fO := fun_mk (st := sOrd) l_fO c_fO k_fO
  have b_fO := F_fO.binds (ps := ["self", "notes"]) fun _ _ _ _ _ _ us hl => match us, hl with | [_, _], _ => rfl
  have M_fO : Meth K FC "are_in_order" f_fO := ⟨at_fO, fn_fO, k_fO⟩
  have F_dI := fun_mk (st := sInitD) l_dI c_dI k_dI
  have b_dI := F_dI.binds (ps := ["self"]) fun _ _ _ _ _ _ us hl => match us, hl with | [_], _ => rfl
  have M_dI : Meth K DC "__init__" f_dI := ⟨at_dI, fn_dI, k_dI⟩
  have F_dC := fun_mk (st := sCellD) l_dC c_dC k_dC
  have b_dC := F_dC.binds (ps := ["self", "name", "value"]) fun _ _ _ _ _ _ us hl => match us, hl with | [_, _, _], _ => rfl
  have M_dC : Meth K DC "cell" f_dC := ⟨at_dC, fn_dC, k_dC⟩
  have F_dK := fun_mk (st := sKeptD) l_dK c_dK k_dK
  have b_dK := F_dK.binds (ps := ["self", "name", "work"]) fun _ _ _ _ _ _ us hl => match us, hl with | [_, _, _], _ => rfl
  have M_dK : Meth K DC "kept" f_dK := ⟨at_dK, fn_dK, k_dK⟩
  have F_dS := fun_mk (st := sSet) l_dS c_dS k_dS
  have b_dS := F_dS.binds (ps := ["self", "at", "worth"]) fun _ _ _ _ _ _ us hl => match us, hl with | [_, _, _], _ => rfl
  have M_dS : Meth K DC "__setitem__" f_dS := ⟨at_dS, fn_dS, k_dS⟩
  have F_cI := fun_mk (st := sInitC) l_cI c_cI k_cI
  have b_cI := F_cI.binds (ps := ["self", "floor", "name", "value"]) fun _ _ _ _ _ _ us hl => match us, hl with | [_, _, _, _], _ => rfl
  have M_cI : Meth K CC "__init__" f_cI := ⟨at_cI, fn_cI, k_cI⟩
  have F_cC := fun_mk (st := sCall) l_cC c_cC k_cC
  have b_cC := F_cC.binds (ps := ["self"]) fun _ _ _ _ _ _ us hl => match us, hl with | [_], _ => rfl
  have M_cC : Meth K CC "__call__" f_cC := ⟨at_cC, fn_cC, k_cC⟩
  have F_cP := fun_mk (st := sPut) l_cP c_cP k_cP
  have b_cP := F_cP.binds (ps := ["self", "value"]) fun _ _ _ _ _ _ us hl => match us, hl with | [_, _], _ => rfl
  have M_cP : Meth K CC "put" f_cP := ⟨at_cP, fn_cP, k_cP⟩
  have F_cU := fun_mk (st := sCurC) l_cU c_cU k_cU
  have b_cU := F_cU.binds (ps := ["self"]) fun _ _ _ _ _ _ us hl => match us, hl with | [_], _ => rfl
  have M_cU : Meth K CC "current" f_cU := ⟨at_cU, fn_cU, k_cU⟩
  have F_rI := fun_mk (st := sInitR) l_rI c_rI k_rI
  have b_rI := F_rI.binds (ps := ["self", "name", "is_of_answer", "outer"]) fun _ _ _ _ _ _ us hl => match us, hl with | [_, _, _, _], _ => rfl
  have M_rI : Meth K RC "__init__" f_rI := ⟨at_rI, fn_rI, k_rI⟩
  have F_kI := fun_mk (st := sInitK) l_kI c_kI k_kI
  have b_kI := F_kI.binds (ps := ["self", "floor", "name", "work"]) fun _ _ _ _ _ _ us hl => match us, hl with | [_, _, _, _], _ => rfl
  have M_kI : Meth K KC "__init__" f_kI := ⟨at_kI, fn_kI, k_kI⟩
  have F_kC := fun_mk (st := sCallK) l_kC c_kC k_kC
  have b_kC := F_kC.binds (ps := ["self"]) fun _ _ _ _ _ _ us hl => match us, hl with | [_], _ => rfl
  have M_kC : Meth K KC "__call__" f_kC := ⟨at_kC, fn_kC, k_kC⟩
  have F_kU := fun_mk (st := sCurK) l_kU c_kU k_kU
  have b_kU := F_kU.binds (ps := ["self"]) fun _ _ _ _ _ _ us hl => match us, hl with | [_], _ => rfl
  have M_kU : Meth K KC "current" f_kU := ⟨at_kU, fn_kU, k_kU⟩
  have F_kW := fun_mk (st := sWout) l_kW c_kW k_kW
  have b_kW := F_kW.binds (ps := ["self"]) fun _ _ _ _ _ _ us hl => match us, hl with | [_], _ => rfl
  have M_kW : Meth K KC "_work_out" f_kW := ⟨at_kW, fn_kW, k_kW⟩
  have F_kH := fun_mk (st := sHeld) l_kH c_kH k_kH
  have b_kH := F_kH.binds (ps := ["self"]) fun _ _ _ _ _ _ us hl => match us, hl with | [_], _ => rfl
  obtain ⟨clF, noF⟩ := cls_of z_FC
  obtain ⟨clD, noD⟩ := cls_of z_DC
  obtain ⟨clC, noC⟩ := cls_of z_CC
  obtain ⟨clR, noR⟩ := cls_of z_RC
  obtain ⟨clK, noK⟩ := cls_of z_KC
  have TF : FlT K FC := ⟨clF, noF⟩
  have TD : DkT K DC := ⟨clD, noD _ (by simp), _, co_at, ⟨_, rfl⟩, co_get, by decide +kernel⟩
  have TC : CeT K CC := ⟨clC, noC⟩
  have TR : RnT K RC := ⟨clR, noR⟩
  have TK : KpT K KC := ⟨clK, noK⟩
  refine ⟨PySem.W.fnOf "law" "law" (defArgs sLaw) (defBody sLaw) (defScope sLaw) .none kV_law dc_law pm_law an_law cd_law ct_law, [(cR, PT)], spLaw K PT, fun p hp => ?_, fun p hp => ?_, fun p hp => ?_, fun s v => .of_eq rfl, fun H a ns hl _ hT hS => ⟨a, ns, rfl, hS, hl, TabS.nil (hT (cR, PT) (by simp)), fun _ => rfl⟩, fun base _ _ hTB => ?_⟩
  · rw [List.mem_singleton.mp hp]; exact hTab
  · rw [List.mem_singleton.mp hp]; exact nTab
  · rw [List.mem_singleton.mp hp]; exact PySem.W.codeHd_of_K X cTab
  have TB : TabB base mg cR PT := hTB (cR, PT) (by simp)
  have oIF : FnOk l.prog w K mg base CX0 1 _ _ _ _ := ok_initF (FC := FC) F_fI TF
  have mP : MO l.prog w K mg base FC "check_place" 1 ["self"] (spPlace FC) _ _ := ⟨M_fP, b_fP, ok_place F_fP TF⟩
  have mNA : MO l.prog w K mg base FC "note" 1 ["self", "name", "worth"] (spNoteA FC RC) _ _ := ⟨M_fN, b_fN, fnOk_or (ok_note F_fN TF) (ok_noteR F_fN TF TR)⟩
  have mN : MO l.prog w K mg base FC "note" 1 ["self", "name", "worth"] (spNote FC) _ _ := ⟨M_fN, b_fN, ok_note F_fN TF⟩
  have mNR : MO l.prog w K mg base FC "note" 1 ["self", "name", "worth"] (spNoteR FC RC) _ _ := ⟨M_fN, b_fN, ok_noteR F_fN TF TR⟩
  have mT : MO l.prog w K mg base FC "take_name" 1 ["self", "name"] (spTakeN FC) _ _ := ⟨M_fT, b_fT, ok_takeN F_fT TF⟩
  have mU : MO l.prog w K mg base FC "_due" 1 ["self"] (spDue FC) _ _ := ⟨M_fU, b_fU, ok_due F_fU TF⟩
  have mS : MO l.prog w K mg base FC "settle" 2 ["self"] (spSettle FC) _ _ := ⟨M_fS, b_fS, ok_settle F_fS TF mU⟩
  have oIR : FnOk l.prog w K mg base CX0 1 _ _ _ _ := ok_initR (RC := RC) F_rI TR
  have mB : MO l.prog w K mg base FC "begun" 3 ["self", "name", "is_of_answer"] (spBegun FC RC) _ _ := ⟨M_fB, b_fB, ok_begun F_fB TF ⟨mk_RC, at_rI, fn_rI, kc_RC⟩ (PySem.W.mg_of X G g_RC) oIR b_rI⟩
  have mY : MO l.prog w K mg base FC "check_not_busy" 1 ["self", "name"] (spBusy FC RC) _ _ := ⟨M_fY, b_fY, ok_busy F_fY TF TR⟩
  have mCu : MO l.prog w K mg base CC "current" 1 ["self"] (spVal CC) _ _ := ⟨M_cU, b_cU, ok_curC F_cU TC⟩
  have cu := curs (P := l.prog) (w := w) (mg := mg) (base := base) (KC := KC) TF TC TK TR F_kU M_kU b_kU F_fO M_fO b_fO F_kW M_kW b_kW F_fC M_fC b_fC mB mY mCu
  have ca := calls TF TK F_kC ⟨at_kC, fn_kC⟩ fi_kC b_kC cu mNA
  have oIK : FnOk l.prog w K mg base CX0 1 _ _ _ _ := ok_initK (KC := KC) F_kI TK
  have oIC : FnOk l.prog w K mg base CX0 1 _ _ _ _ := ok_initC (CC := CC) F_cI TC
  have oID : FnOk l.prog w K mg base CX0 3 _ _ _ _ := ok_initD (FC := FC) (DC := DC) (CC := CC) F_dI TD ⟨mk_FC, at_fI, fn_fI, kc_FC⟩ (PySem.W.mg_of X G g_FC) oIF b_fI
  have mPut : MO l.prog w K mg base CC "put" 3 ["self", "value"] (spPutG FC DC CC) _ _ := ⟨M_cP, b_cP, ok_putG F_cP TC TF mP mS⟩
  have Ph : PH l.prog w K mg base KC pH _ _ := ⟨⟨at_pH, ge_pH, tk_pH, rest_pH, rc_pH⟩, b_kH, ok_held F_kH TK⟩
  have L0 : LawE l.prog w K mg base FC DC CC KC RC _ _ _ pH _ _ _ _ _ _ _ := {
    B := B
    TD := TD
    TC := TC
    TK := TK
    new := ⟨mk_DC, at_dI, fn_dI, kc_DC⟩
    gD := PySem.W.mg_of X G g_DC
    oD := oID
    bD := b_dI
    cell := ⟨M_dC, b_dC, ok_cellD F_dC TD TF mP mT ⟨mk_CC, at_cI, fn_cI, kc_CC⟩ (PySem.W.mg_of X G g_CC) oIC b_cI⟩
    sm := ⟨at_dS, fn_dS⟩
    sq := q_DC
    sb := b_dS
    so := ok_setG F_dS B TD TF TC mPut mP
    held := Ph
    ans := anys ca }
  have mKept : MO l.prog w K mg base DC "kept" 3 ["self", "name", "work"] (spKeptD FC DC CC KC) _ _ := ⟨M_dK, b_dK, ok_keptD F_dK TD TF mP mT ⟨mk_KC, at_kI, fn_kI, kc_KC⟩ (PySem.W.mg_of X G g_KC) oIK b_kI⟩
  have dT : LD l.prog w K mg base "_law_take" 1 _ spTake _ _ := ⟨A_take, b_take, ok_take F_take B⟩
  have dO : LD l.prog w K mg base "_law_of" 2 _ (spOf K) _ _ := ⟨A_of, b_of, ok_of F_of B A_take b_take dT.o⟩
  have dW : LD l.prog w K mg base "_law_worth" 2 _ spWorth _ _ := ⟨A_worth, b_worth, ok_worth F_worth A_take b_take dT.o⟩
  have wk : Works l.prog w K mg base FC CC KC RC := works F_work A_work b_work B TK TC ⟨⟨at_cC, fn_cC⟩, fi_cC, b_cC, fnOk_or (ok_call F_cC TC TF mN) (ok_callR F_cC TC TF mNR)⟩ ca Ph
  have C_kept : FunC K "_law_kept" "_law_kept" sKept f_kept _ cR := ⟨oc_kept, od_kept, kV_kept, dc_kept, pm_kept, an_kept, ct_kept, sl_kept, rfl, l_kept, c_kept⟩
  have dK : LD l.prog w K mg base "_law_kept" 4 _ (spKeptL FC DC CC KC PT) _ _ := ⟨A_kept, b_kept, ok_kept C_kept TB B TD mKept⟩
  have dRd : LD l.prog w K mg base "_law_read" 1 _ spRead _ _ := ⟨A_read, b_read, ok_read F_read B⟩
  have dR : LD l.prog w K mg base "_law_right" 51 _ (spRight PT) _ _ := ⟨A_right, b_right, ok_right F_right L0 dT dW dO dK dRd wk⟩
  exact ok_law F_law B ⟨A_bag, b_bag, ok_bag F_bag B⟩ dR
theorem walk {l : PySem.W.OpenLaw} {q : Program} {loose : List Str} {XP : (Str → Option Value) → Heap → Prop} {YP : World → Heap → Prop} {d : DefRec} {K : Params → PySem.W.Frag} (hn : l.most = some 63) (hdf : d.params.defaults = []) (hY : ∀ (w : World) (h : Heap), YP w h → (K w.params).In h)
    (F : ∀ (w : World) (mg : Str → Option Value) (fa : Addr) (h : Heap), YP w h → (K w.params).In h → h.Ns mainGlobals mg → mg d.name = some (.ref fa) → LawAtS l w (K w.params) CX0 52 63 "_law_script" mg fa h) :
    PySem.W.WalkO q loose XP YP l.row.toRowW d [] (fun f vs => PySem.call f vs) :=
  LamX.walk_ofTs (n := 63) (k := 52) (x := "_law_script") (CX := fun _ => CX0) hn (by decide) hdf ⟨rfl, by decide, by decide⟩ hY F fun _ _ _ _ _ z => z
end My

set_option Elab.async false
set_option linter.all false
set_option maxRecDepth 100000
set_option maxHeartbeats 0
open PySem PySem.W PyProof.Rows in
set_option maxRecDepth 100000 in
set_option maxHeartbeats 0 in
theorem PySem.Challenge.cw_trackedreads_k70_ladders_of_answers_holds : PySem.Challenge.rw_trackedreads_k70_ladders_of_answers.Holds := by
  w_on; o_law; k_head; (case hw => w_witness2)
  k_fill
  refine My.walk (l := PySem.Challenge.rw_trackedreads_k70_ladders_of_answers) rfl rfl (fun w h Y => PySem.W.km_in_of Y) ?F
  case F =>
    intro w mg fa h Y KX G hmg
    refine' My.all_mk KX G hmg ?a_bag ?l_bag ?c_bag ?k_bag ?a_take ?l_take ?c_take ?k_take ?a_of ?l_of ?c_of ?k_of ?a_worth ?l_worth ?c_worth ?k_worth ?a_work ?l_work ?c_work ?k_work ?a_kept ?l_kept ?c_kept ?k_kept ?a_read ?l_read ?c_read ?k_read ?a_right ?l_right ?c_right ?k_right ?a_law ?l_law ?c_law ?k_law ?hTab ?nTab ?cTab ?g_FC ?kc_FC ?mk_FC ?z_FC ?g_DC ?kc_DC ?mk_DC ?z_DC ?g_CC ?kc_CC ?mk_CC ?z_CC ?g_RC ?kc_RC ?mk_RC ?z_RC ?g_KC ?kc_KC ?mk_KC ?z_KC ?at_fI ?fn_fI ?fi_fI ?l_fI ?c_fI ?k_fI ?at_fP ?fn_fP ?fi_fP ?l_fP ?c_fP ?k_fP ?at_fN ?fn_fN ?fi_fN ?l_fN ?c_fN ?k_fN ?at_fT ?fn_fT ?fi_fT ?l_fT ?c_fT ?k_fT ?at_fU ?fn_fU ?fi_fU ?l_fU ?c_fU ?k_fU ?at_fS ?fn_fS ?fi_fS ?l_fS ?c_fS ?k_fS ?at_fB ?fn_fB ?fi_fB ?l_fB ?c_fB ?k_fB ?at_fC ?fn_fC ?fi_fC ?l_fC ?c_fC ?k_fC ?at_fY ?fn_fY ?fi_fY ?l_fY ?c_fY ?k_fY ?at_fO ?fn_fO ?fi_fO ?l_fO ?c_fO ?k_fO ?at_dI ?fn_dI ?fi_dI ?l_dI ?c_dI ?k_dI ?at_dC ?fn_dC ?fi_dC ?l_dC ?c_dC ?k_dC ?at_dK ?fn_dK ?fi_dK ?l_dK ?c_dK ?k_dK ?at_dS ?fn_dS ?fi_dS ?l_dS ?c_dS ?k_dS ?at_cI ?fn_cI ?fi_cI ?l_cI ?c_cI ?k_cI ?at_cC ?fn_cC ?fi_cC ?l_cC ?c_cC ?k_cC ?at_cP ?fn_cP ?fi_cP ?l_cP ?c_cP ?k_cP ?at_cU ?fn_cU ?fi_cU ?l_cU ?c_cU ?k_cU ?at_rI ?fn_rI ?fi_rI ?l_rI ?c_rI ?k_rI ?at_kI ?fn_kI ?fi_kI ?l_kI ?c_kI ?k_kI ?at_kC ?fn_kC ?fi_kC ?l_kC ?c_kC ?k_kC ?at_kU ?fn_kU ?fi_kU ?l_kU ?c_kU ?k_kU ?at_kW ?fn_kW ?fi_kW ?l_kW ?c_kW ?k_kW ?at_pH ?ge_pH ?tk_pH ?rc_pH ?l_kH ?c_kH ?k_kH ?co_at ?co_get ?z_b ?q_DC
    (case a_bag => k_is)
    (case l_bag => k_is)
    (case c_bag => k_is)
    (case k_bag => k_is)
    (case a_take => k_is)
    (case l_take => k_is)
    (case c_take => k_is)
    (case k_take => k_is)
    (case a_of => k_is)
    (case l_of => k_is)
    (case c_of => k_is)
    (case k_of => k_is)
    (case a_worth => k_is)
    (case l_worth => k_is)
    (case c_worth => k_is)
    (case k_worth => k_is)
    (case a_work => k_is)
    (case l_work => k_is)
    (case c_work => k_is)
    (case k_work => k_is)
    (case a_kept => k_is)
    (case l_kept => k_is)
    (case c_kept => k_is)
    (case k_kept => k_is)
    (case a_read => k_is)
    (case l_read => k_is)
    (case c_read => k_is)
    (case k_read => k_is)
    (case a_right => k_is)
    (case l_right => k_is)
    (case c_right => k_is)
    (case k_right => k_is)
    (case a_law => k_is)
    (case l_law => k_is)
    (case c_law => k_is)
    (case k_law => k_is)
    (case hTab => exact PySem.W.km_tabs_of Y _ (List.mem_singleton.mpr rfl))
    (case nTab => kernel_rfl)
    (case cTab => kernel_rfl)
    (case g_FC => k_is)
    (case kc_FC => k_is)
    (case mk_FC => k_is)
    (case z_FC => kernel_rfl)
    (case g_DC => k_is)
    (case kc_DC => k_is)
    (case mk_DC => k_is)
    (case z_DC => kernel_rfl)
    (case g_CC => k_is)
    (case kc_CC => k_is)
    (case mk_CC => k_is)
    (case z_CC => kernel_rfl)
    (case g_RC => k_is)
    (case kc_RC => k_is)
    (case mk_RC => k_is)
    (case z_RC => kernel_rfl)
    (case g_KC => k_is)
    (case kc_KC => k_is)
    (case mk_KC => k_is)
    (case z_KC => kernel_rfl)
    (case at_fI => k_is)
    (case fn_fI => k_is)
    (case fi_fI => k_is)
    (case l_fI => k_is)
    (case c_fI => k_is)
    (case k_fI => k_is)
    (case at_fP => k_is)
    (case fn_fP => k_is)
    (case fi_fP => k_is)
    (case l_fP => k_is)
    (case c_fP => k_is)
    (case k_fP => k_is)
    (case at_fN => k_is)
    (case fn_fN => k_is)
    (case fi_fN => k_is)
    (case l_fN => k_is)
    (case c_fN => k_is)
    (case k_fN => k_is)
    (case at_fT => k_is)
    (case fn_fT => k_is)
    (case fi_fT => k_is)
    (case l_fT => k_is)
    (case c_fT => k_is)
    (case k_fT => k_is)
    (case at_fU => k_is)
    (case fn_fU => k_is)
    (case fi_fU => k_is)
    (case l_fU => k_is)
    (case c_fU => k_is)
    (case k_fU => k_is)
    (case at_fS => k_is)
    (case fn_fS => k_is)
    (case fi_fS => k_is)
    (case l_fS => k_is)
    (case c_fS => k_is)
    (case k_fS => k_is)
    (case at_fB => k_is)
    (case fn_fB => k_is)
    (case fi_fB => k_is)
    (case l_fB => k_is)
    (case c_fB => k_is)
    (case k_fB => k_is)
    (case at_fC => k_is)
    (case fn_fC => k_is)
    (case fi_fC => k_is)
    (case l_fC => k_is)
    (case c_fC => k_is)
    (case k_fC => k_is)
    (case at_fY => k_is)
    (case fn_fY => k_is)
    (case fi_fY => k_is)
    (case l_fY => k_is)
    (case c_fY => k_is)
    (case k_fY => k_is)
    (case at_fO => k_is)
    (case fn_fO => k_is)
    (case fi_fO => k_is)
    (case l_fO => k_is)
    (case c_fO => k_is)
    (case k_fO => k_is)
    (case at_dI => k_is)
    (case fn_dI => k_is)
    (case fi_dI => k_is)
    (case l_dI => k_is)
    (case c_dI => k_is)
    (case k_dI => k_is)
    (case at_dC => k_is)
    (case fn_dC => k_is)
    (case fi_dC => k_is)
    (case l_dC => k_is)
    (case c_dC => k_is)
    (case k_dC => k_is)
    (case at_dK => k_is)
    (case fn_dK => k_is)
    (case fi_dK => k_is)
    (case l_dK => k_is)
    (case c_dK => k_is)
    (case k_dK => k_is)
    (case at_dS => k_is)
    (case fn_dS => k_is)
    (case fi_dS => k_is)
    (case l_dS => k_is)
    (case c_dS => k_is)
    (case k_dS => k_is)
    (case at_cI => k_is)
    (case fn_cI => k_is)
    (case fi_cI => k_is)
    (case l_cI => k_is)
    (case c_cI => k_is)
    (case k_cI => k_is)
    (case at_cC => k_is)
    (case fn_cC => k_is)
    (case fi_cC => k_is)
    (case l_cC => k_is)
    (case c_cC => k_is)
    (case k_cC => k_is)
    (case at_cP => k_is)
    (case fn_cP => k_is)
    (case fi_cP => k_is)
    (case l_cP => k_is)
    (case c_cP => k_is)
    (case k_cP => k_is)
    (case at_cU => k_is)
    (case fn_cU => k_is)
    (case fi_cU => k_is)
    (case l_cU => k_is)
    (case c_cU => k_is)
    (case k_cU => k_is)
    (case at_rI => k_is)
    (case fn_rI => k_is)
    (case fi_rI => k_is)
    (case l_rI => k_is)
    (case c_rI => k_is)
    (case k_rI => k_is)
    (case at_kI => k_is)
    (case fn_kI => k_is)
    (case fi_kI => k_is)
    (case l_kI => k_is)
    (case c_kI => k_is)
    (case k_kI => k_is)
    (case at_kC => k_is)
    (case fn_kC => k_is)
    (case fi_kC => k_is)
    (case l_kC => k_is)
    (case c_kC => k_is)
    (case k_kC => k_is)
    (case at_kU => k_is)
    (case fn_kU => k_is)
    (case fi_kU => k_is)
    (case l_kU => k_is)
    (case c_kU => k_is)
    (case k_kU => k_is)
    (case at_kW => k_is)
    (case fn_kW => k_is)
    (case fi_kW => k_is)
    (case l_kW => k_is)
    (case c_kW => k_is)
    (case k_kW => k_is)
    (case at_pH => k_is)
    (case ge_pH => k_is)
    (case tk_pH => k_is)
    (case rc_pH => k_is)
    (case l_kH => k_is)
    (case c_kH => k_is)
    (case k_kH => k_is)
    (case co_at => k_is)
    (case co_get => k_is)
    (case z_b => kernel_rfl)
    (case q_DC => kernel_rfl)
