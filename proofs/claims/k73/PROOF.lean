import PyProof.Rows.All
import Wide.All
import OpenK.AllK
import Wide.FinOn
import HandS.ForMost
import HandS.ExcInit
import HandS.ExcIs
import HandS.ExcOwn
import HandS.ExcValue
import HandS.ExcCtx
import HandS.ExcField
import KE.KExcInit
import KE.KExcIs
import HandS.MakeKwOnly
import HandS.Wide
import HandS.Codes
import HandS.Star
import HandS.Property
import HandS.OwnIter
import HandS.IterVal
import HandS.IterNext
import HandS.Defaults
import HandS.Nested
import HandS.Lambda
import HandS.Finally
import HandS.More
import PySem.Challenge.RW_trackedreads_k73_effects_that_put_what_t
import HandS.IsInst
import HandS.WordsExc
import HandS.SetKeys
import HandS.Walk
import HandS.Ends
import HandS.EndTab
set_option Elab.async false
set_option linter.all false
set_option maxRecDepth 100000
set_option maxHeartbeats 4000000
/-! X1: exceptions of own classes over ValueError or RuntimeError: their fields, as values. -/
namespace My
open PySem PySem.Spec PyProof.Rows L2
/-- what the written part says of an own exception class -/
structure XC (K : PySem.W.Frag) (C : Addr) : Prop where
  mks : ∃ (B newId initId : String) (bmB : List Value), ExcBaseFacts B newId initId bmB ∧ PySem.W.excInitIn K C bmB newId = true ∧ ∀ self : Value, refuseLoop self "__setattr__" bmB = pure ()
  sa : PySem.W.findIn K (.ref C) "__setattr__" = some (some (.builtin "object.__setattr__"))
  ty : PySem.W.typeIn K (.ref C) = some (.type "type")
  kC : PySem.W.keepIn K (.ref C) = true
  is : ExcC K C
theorem pass_tail {bmB : List Value} (hp : ∀ self : Value, refuseLoop self "__setattr__" bmB = pure ()) (self : Value) : ∀ l : List Value, PySem.W.excTail bmB l = true → refuseLoop self "__setattr__" l = pure ()
  | [], e => by
    rcases PySem.W.excTail_cases [] e with ⟨c, r, q, _⟩ | q
    · cases q
    · rw [q]; exact hp self
  | a :: r, e => by
    rcases PySem.W.excTail_cases (a :: r) e with ⟨c, r', q, h⟩ | q
    · cases q
      rw [refuseLoop_ref]
      exact pass_tail hp self r h
    · rw [q]; exact hp self
theorem XC.cd {K : PySem.W.Frag} {C : Addr} (T : XC K C) : ∃ cd : ClassData, PySem.W.clsIn K C = some cd ∧ cd.hasDict = true ∧ ∀ self : Value, refuseLoop self "__setattr__" cd.mro = pure () := by
  obtain ⟨B, newId, initId, bmB, F, hI, hp⟩ := T.mks
  obtain ⟨cd, hc, hd⟩ := PySem.W.any_some T.is.hd
  refine ⟨cd, hc, hd, fun self => ?_⟩
  unfold PySem.W.excInitIn at hI
  split at hI
  · rename_i dd cd' sl ho
    have hc' : PySem.W.clsIn K C = some cd' := by unfold PySem.W.clsIn; rw [ho]
    rw [hc'] at hc
    cases hc
    split at hI
    · rename_i C' bm k0 k1 k2 k3 n k5 hm hs
      simp only [Bool.and_eq_true, beq_iff_eq, Bool.not_eq_true'] at hI
      rw [hm, refuseLoop_ref]
      exact pass_tail hp self bm hI.2
    · cases hI
  · cases hI

/-! ### a field stored -/
section
open Builtin Builtin.ObjectAttr
variable {prog : Program} {w : World} {A : Around} {R : Result → Shared → Prop} {hp : Heap} {g : Array GenState} {d : Drawn} {t : Nat} {os : OsState} {K : PySem.W.Frag} {nm : Str} {tk : Tok} {v : Value} {x C dx : Addr} {fv : Array Value}
/-- object.__setattr__ up to the store in the own dict -/
theorem xs_walk {ox : Obj} {od : Option Obj} {cd : ClassData} (Y : K.In hp) (I : PySem.W.InstAt hp x ox C od) (T : XC K C) (hcd : PySem.W.clsIn K C = some cd) (hps : ∀ self : Value, refuseLoop self "__setattr__" cd.mro = pure ())
    (hno : PySem.W.findIn K (.ref C) nm = some none)
    (hq : wpAny (model prog w) A.in1 (storeInOwnDict (.ref x) (.ref C) (.str nm tk) nm v false) (fun fin s' => match fin with | .done f => R (.ok f) s' | .again c' => c'.quiet = true ∧ codeAny (model prog w) A c' R s') (fun e s' => R (.error e) s') ⟨hp, g, d, t, os⟩) :
    codeAny (model prog w) A (.call (.builtin "object.__setattr__") ⟨[.ref x, .str nm tk, v], []⟩) R ⟨hp, g, d, t, os⟩ := by
  have S0 := F.store_object; have isO : PySem.W.Looks (model prog w) hp (isInstance (.ref x) (.type "object")) true := I.type.andThen (PySem.W.looks_mroIn Y T.is.hm)
  refine codeAny_call_builtin S0.slot.plain S0.entry (@PySem.W.check_slot (model prog w) _ _ ⟨hp, g, d, t, os⟩ "object.__setattr__" "object" "__setattr__" (.ref x) [.str nm tk, v] [] _ S0.kind S0.split isO (S0.args _ _ _) ?_)
  have lm : PySem.W.Looks (model prog w) hp (mroOf (.ref C)) cd.mro := (PySem.W.looks_clsIn Y hcd).andThen .now
  have l3 : PySem.W.Looks (model prog w) hp (storeTaker? none) none := .now
  rw [PySem.W.osa_eq, refuse_eq]
  refine wpAny_bind (wpAny_bind (I.type.at (wpAny_bind (lm.at ?_)))); rw [hps]
  exact wpAny_pure (wpAny_bind (I.type.at (wpAny_bind ((PySem.W.looks_findIn Y hno).at (wpAny_bind (l3.at hq))))))
theorem xs_new (Y : K.In hp) (T : XC K C) (hx : hp.get? x = some { cls := .ref C, data := .fields fv }) (hno : PySem.W.findIn K (.ref C) nm = some none)
    (hq : ∀ h' tk' dx, (∀ b o, b ≠ x → hp.get? b = some o → h'.get? b = some o) → hp.objs.size ≤ dx → dx ≠ x → h'.get? x = some { cls := .ref C, dict := some dx, data := .fields fv } → h'.Ns1 dx (fun y => if y = nm then some v else none) → R (.ok (.ret .none)) ⟨h', g, d, tk', os⟩) :
    codeAny (model prog w) A (.call (.builtin "object.__setattr__") ⟨[.ref x, .str nm tk, v], []⟩) R ⟨hp, g, d, t, os⟩ := by
  obtain ⟨cd, hcd, hhd, hps⟩ := T.cd
  have hxs : x ≠ hp.objs.size := Nat.ne_of_lt (Heap.lt_size hx)
  refine xs_walk (ox := { cls := .ref C, data := .fields fv }) (od := none) Y ⟨hx, rfl, rfl, trivial⟩ T hcd hps hno ?_
  have lc : PySem.W.Looks (model prog w) hp (classData C) cd := PySem.W.looks_clsIn Y hcd
  obtain ⟨n0, bs, mro, ns, qn, hd, sn, sb, ab, col, del⟩ := cd
  dsimp only at hhd; subst hhd
  unfold storeInOwnDict ownDictForStores
  repeat (first | with_reducible refine HandSPX.store_in_new ?_ ?_ | with_reducible refine wpAny_loadPart_at hx ?_ | with_reducible refine lc.at ?_ | wp_step)
  · exact ⟨_, #[], _, (Heap.get?_update_ne _ _ _ _ hxs.symm).trans (Heap.get?_push_at rfl rfl), rfl, fun e he => absurd he (by simp), fun _ => rfl⟩
  · intro h' tk' hn' hs
    have hx1 : (hp.push { cls := .type "dict", data := .dict #[] }).get? x = some { cls := .ref C, data := .fields fv } := Heap.get?_push_of_some _ hx
    exact hq h' tk' hp.objs.size (fun b o hb ho => (hs.2 b (Nat.ne_of_lt (Heap.lt_size ho))).trans ((Heap.get?_update_ne _ _ _ _ hb).trans (Heap.get?_push_of_some _ ho))) (Nat.le_refl _) hxs.symm ((hs.2 x hxs).trans (Heap.get?_update_self _ hx1 rfl)) hn'
theorem xs_old {m0 : Str → Option Value} {nl : List Str} (Y : K.In hp) (T : XC K C) (hx : hp.get? x = some { cls := .ref C, dict := some dx, data := .fields fv }) (hns : hp.Ns1 dx m0) (hw : Within m0 nl) (hz : nl.length ≤ 1000) (hno : PySem.W.findIn K (.ref C) nm = some none)
    (hq : ∀ h' tk', (∀ b o, b ≠ dx → hp.get? b = some o → h'.get? b = some o) → h'.Ns1 dx (fun y => if y = nm then some v else m0 y) → R (.ok (.ret .none)) ⟨h', g, d, tk', os⟩) :
    codeAny (model prog w) A (.call (.builtin "object.__setattr__") ⟨[.ref x, .str nm tk, v], []⟩) R ⟨hp, g, d, t, os⟩ := by
  obtain ⟨cd, hcd, hhd, hps⟩ := T.cd
  obtain ⟨oD, esD, epD, hoD, _, _⟩ := hns.count hw
  refine xs_walk (ox := { cls := .ref C, dict := some dx, data := .fields fv }) (od := some oD) Y ⟨hx, rfl, rfl, hoD⟩ T hcd hps hno ?_
  have lc : PySem.W.Looks (model prog w) hp (classData C) cd := PySem.W.looks_clsIn Y hcd
  obtain ⟨n0, bs, mro, ns, qn, hd, sn, sb, ab, col, del⟩ := cd
  dsimp only at hhd; subst hhd
  unfold storeInOwnDict ownDictForStores
  repeat (first | with_reducible refine OEX.store_in_old hns hw hz ?_ | with_reducible refine wpAny_loadPart_at hx ?_ | with_reducible refine lc.at ?_ | wp_step)
  exact fun h' tk' hn' hs => hq h' tk' (fun b o hb ho => (hs.2 b hb).trans ho) hn'
end
section
variable {X : Cx} {pins : List (Addr × Obj)} {σ : L2.St} {H : Hp} {s : Shared} {a C dx : Addr} {f : Str} {y : V} {u : Value} {fs : List (Str × V)} {Q : Unit → Shared → Prop} {E : Value → Shared → Prop} {A : Around}
theorem xset_new (T : XC X.K C) (I : Inv X pins σ H s) (e : H a = some (exo a C none)) (hno : PySem.W.findIn X.K (.ref C) f = some none) (ry : RelV y u)
    (h : ∀ dx s', H dx = none → dx ≠ a → Inv X pins σ (upd (upd H dx (exd dx [(f, y)])) a (exo a C (some dx))) s' → Q () s') : wpAny (model X.prog X.w) A (setAttr (.ref a) f u) Q E s := by
  obtain ⟨t1, ho⟩ := exo_at I.hok e
  obtain ⟨hp, g, d, t, os⟩ := s
  refine PySem.W.set_plain I.kIn (ox := { cls := .ref C, dict := none, data := .fields #[.ref t1, .none, .none, .none, .bool false, .none] }) (od := none) ⟨ho, rfl, rfl, trivial⟩ T.sa (xs_new I.kIn T ho hno fun h' tk' dx k dn dne hx hn => ?_)
  have hnd : H dx = none := I.hok.fresh dn
  have nd : ∀ {b : Addr} {o : Obj}, hp.get? b = some o → b ≠ dx := fun {b o} q => Nat.ne_of_lt (Nat.lt_of_lt_of_le (Heap.lt_size q) dn)
  have na : ∀ {b : Addr}, H b = none → b ≠ a := fun {b} n z => by rw [z, e] at n; cases n
  have U : Un X.fs [] H (upd (upd H dx (exd dx [(f, y)])) a (exo a C (some dx))) hp h' := ⟨fun b o q n _ _ => k b o (na n) q, fun b o q n _ _ => ⟨o.slots, k b o (na n) q⟩, fun b o q n _ => by rw [upd_ne (na n), upd_ne (nd q)]; exact n,
    fun b o q _ => (Decidable.em (b = a)).elim (fun hb => by subst hb; exact ⟨_, hx⟩) fun hb => ⟨o, k b o hb q⟩, fun b xs q => by rw [upd_ne (at_ne e q exo_tup), upd_ne (ne_of_none q hnd)]; exact q,
    fun b o v q => by rw [upd_ne (at_ne e q exo_frz), upd_ne (ne_of_none q hnd)]; exact q, fun b ps q => ⟨#[], by rw [upd_ne (at_ne e q exo_tbl), upd_ne (ne_of_none q hnd), q]; simp⟩⟩
  refine h dx _ hnd dne (I.un (t' := tk') U fun b o q => ?_)
  by_cases hb : b = a
  · subst hb; rw [upd_same] at q; cases q
    exact exo_ok hx
  · by_cases hd : b = dx
    · subst hd; rw [upd_ne hb, upd_same] at q; cases q
      exact exd_ok hn (relO_put (fs := []) ry fun _ => True.intro)
    · rw [upd_ne hb, upd_ne hd] at q
      exact (I.hok b o q).stay (fun c v hc z => k c v (hc.elim (fun z => by rw [z]; exact hb) fun z => at_ne e z exo_own) z) (fun c hc => by rw [upd_ne (at_ne e hc exo_own), upd_ne (ne_of_none hc hnd)]; exact hc)
        (fun c xs hc => by rw [upd_ne (at_ne e hc exo_tup), upd_ne (ne_of_none hc hnd)]; exact hc)
theorem xset_old (T : XC X.K C) (I : Inv X pins σ H s) (e : H a = some (exo a C (some dx))) (ed : H dx = some (exd dx fs)) (hl : fs.length ≤ 900) (hno : PySem.W.findIn X.K (.ref C) f = some none) (ry : RelV y u)
    (h : ∀ s', Inv X pins σ (upd H dx (exd dx ((f, y) :: fs))) s' → Q () s') : wpAny (model X.prog X.w) A (setAttr (.ref a) f u) Q E s := by
  obtain ⟨t1, ho⟩ := exo_at I.hok e
  obtain ⟨mA, hns, rel⟩ := exd_at I.hok ed
  have hw := within_of rel
  obtain ⟨hp, g, d, t, os⟩ := s
  obtain ⟨oD, _, _, hoD, _, _⟩ := hns.count hw
  refine PySem.W.set_plain I.kIn (ox := { cls := .ref C, dict := some dx, data := .fields #[.ref t1, .none, .none, .none, .bool false, .none] }) (od := some oD) ⟨ho, rfl, rfl, hoD⟩ T.sa (xs_old I.kIn T ho hns hw (by rw [List.length_map]; omega) hno fun h' tk' k hn => ?_)
  have hd : ∃ o, h'.get? dx = some o := let ⟨o, _, _, e', _⟩ := hn; ⟨o, e'⟩
  exact h _ (I.write (t' := tk') (x := dx) (e := dx) (o := exd dx ((f, y) :: fs)) (by rw [ed]; exact True.intro) (.inl rfl) k hd (exd_ok hn (relO_put ry rel)))
end
/-- self.f = e in an own exception's __init__ -/
def tXst (K : PySem.W.Frag) (f : Str) (to te : TE) : TS := fun D σ H => te σ H fun y H1 => to σ H1 fun x H2 => ∃ a C : Addr, x = .ref a ∧ XC K C ∧ PySem.W.findIn K (.ref C) f = some none ∧
  ((H2 a = some (exo a C none) ∧ ∀ dx, H2 dx = none → dx ≠ a → D.nx σ (upd (upd H2 dx (exd dx [(f, y)])) a (exo a C (some dx)))) ∨
    ∃ (dx : Addr) (fs : List (Str × V)), H2 a = some (exo a C (some dx)) ∧ H2 dx = some (exd dx fs) ∧ fs.length ≤ 900 ∧ D.nx σ (upd H2 dx (exd dx ((f, y) :: fs))))
theorem ps_xst {X : Cx} {o e : Expr} {to te : TE} {f : Str} {p' pos : Pos} (ho : PE X o to) (he : PE X e te) (hs : swapsWith e (some (.Attribute o f p')) pos.line X.env = pure false := by rfl) : PS X (.Assign [.Attribute o f p'] e pos) (tXst X.K f to te) := by
  refine ⟨fun pins s σ H D I h => plainObj_wpAny_Assign_Attribute (thn (he.run pins s σ H _ I h) fun v s1 ⟨y, H1, I1, r1, q1⟩ => thn (ho.run pins s1 σ H1 _ I1 q1) fun u s2 ⟨x, H2, I2, r2, a, C, ex, T, hno, q⟩ => ?_) hs⟩
  subst ex
  obtain rfl : u = Value.ref a := r2
  rcases q with ⟨ea, q⟩ | ⟨dx, fs, ea, ed, hl, q⟩
  · exact xset_new T I2 ea hno r1 fun dx s' n ne J => ⟨σ, _, J, q dx n ne⟩
  · exact xset_old T I2 ea ed hl hno r1 fun s' J => ⟨σ, _, J, q⟩
end My

set_option Elab.async false
set_option linter.all false
set_option maxRecDepth 100000
set_option maxHeartbeats 4000000
/-! X2: an own exception class called, with keywords too. -/
namespace PySem.XKw
open PySem.HandSPX
open Builtin Builtin.ObjectAttr
section
variable {M : Model} {prog : Program} {w : World} {A : Around} {E : Value → Shared → Prop} {R : Result → Shared → Prop} {h : Heap} {g : Array GenState} {d : Drawn} {t : Nat} {os : OsState}
variable {nm q : Str} {C N : Addr} {bs bm bmB : List Value} {hdct : Bool} {sn : List Str} {sub : List Value} {ab : Bool} {col : Option Bool} {dd : Option Addr} {k0 k1 k2 k3 k5 : Option Value} {B newId initId : String} {kw : List (Str × Value)}
theorem kw_check_new (F : ExcBaseFacts B newId initId bmB) (hT : ∀ Y : String, bm.contains (.type Y) = bmB.contains (.type Y)) {rest : List Value} {Q : Unit → Shared → Prop}
    (hC : h.get? C = some (excClassObj nm q C N bs bm hdct sn sub ab col dd k0 k1 k2 k3 k5 newId)) (hq : Q () ⟨h, g, d, t, os⟩) : wpAny M A (checkBuiltinCall newId ⟨.ref C :: rest, kw⟩) Q E ⟨h, g, d, t, os⟩ := by
  have hB : (Value.ref C :: bm).contains (.type B) = true := by rw [List.contains_cons, hT, F.hasB, Bool.or_true]
  have hst := F.noStar
  simp only [checkBuiltinCall, F.newKind, F.newSplit, F.newRow]
  repeat (first | refine wpAny_loadPart_at hC ?_ | (refine wpAny_isSubtype_exc hC ?_; rw [hB]) | refine wpAny_staticBase_exc hC ?_ | refine wpAny_madeBy_exc hC ?_ | simp only [bne_self_eq_false, Bool.false_eq_true, if_false] | wp_step)
  first | exact hq | skip
theorem kw_new (F : ExcBaseFacts B newId initId bmB) (hT : ∀ Y : String, bm.contains (.type Y) = bmB.contains (.type Y)) {rest : List Value} (hC : h.get? C = some (excClassObj nm q C N bs bm hdct sn sub ab col dd k0 k1 k2 k3 k5 newId))
    (hq : R (.ok (.ret (.ref (h.objs.size + 1)))) ⟨(h.push { cls := .type "tuple", data := .seq rest.toArray }).push { cls := .ref C, data := .fields #[.ref h.objs.size, .none, .none, .none, .bool false, .none] }, g, d, t, os⟩) (hl : rest.length ≤ sizeLine) :
    codeAny (model prog w) A (.builtin newId ⟨.ref C :: rest, kw⟩) R ⟨h, g, d, t, os⟩ := by
  have hends := F.ends
  have hB : (Value.ref C :: bm).contains (.type B) = true := by rw [List.contains_cons, hT, F.hasB, Bool.or_true]
  have hA : (Value.ref C :: bm).contains (.type "AttributeError") = false := by rw [List.contains_cons, hT, F.noAttr]; rfl
  have hN : (Value.ref C :: bm).contains (.type "NameError") = false := by rw [List.contains_cons, hT, F.noName]; rfl
  refine codeAny_builtinAt F.entry ?_
  unfold Builtin.«BaseException.__new__»
  refine wpAt_bind ?_
  show wpAt _ _ _ (stack >>= _) _ _ _
  refine wpAt_bind (wpAt_stack fun p below => wpAt_of_wpAny ?_)
  wp_walk
  refine wpAt_of_wpAny ?_
  rw [F.owner]
  repeat (first | with_reducible refine wpAny_madeHere_exc F.canon hC ?_ | with_reducible refine wpAny_loadPart_at hC ?_ | (with_reducible refine wpAny_isSubtype_exc hC ?_; first | rw [hB] | rw [hA] | rw [hN]) | wp_step)
  show R _ _
  rw [Heap.size_push]; exact hq
theorem kw_type (F : ExcBaseFacts B newId initId bmB) (hT : ∀ Y : String, bm.contains (.type Y) = bmB.contains (.type Y)) {rest : List Value} {fI : Addr} {Q : Fin → Shared → Prop} (hC : h.get? C = some (excClassObj nm q C N bs bm hdct sn sub ab col dd k0 k1 k2 k3 k5 newId))
    (hi : W.Looks (model prog w) h (typeLookup (.ref C) "__init__") (some (.ref fI))) (hb : ∀ self, W.Looks (model prog w) h (bindSpecial (.ref fI) self) (.ref fI, [self])) (hl : rest.length ≤ sizeLine)
    (hq : codeAny (model prog w) A (.call (.ref fI) ⟨.ref (h.objs.size + 1) :: rest, kw⟩) (fun r s' => match r with | .ok (.ret v) => v = .none ∧ Q (.done (.ret (.ref (h.objs.size + 1)))) s' | .ok _ => False | .error e => E e s') ⟨(h.push (W.kdv_tup rest)).push (excO C h.objs.size), g, d, t, os⟩) :
    wpAny (model prog w) A (Builtin.«type.__call__» ⟨.ref C :: rest, kw⟩) Q E ⟨h, g, d, t, os⟩ := by
  repeat (first | with_reducible refine wpAny_loadPart_at hC ?_ | with_reducible refine wpAny_madeBy_exc hC ?_ | wp_step)
  refine codeAny_call_builtin_code (Code.quiet_builtin _ F.quiet) (kw_check_new F hT hC ?_)
  refine kw_new F hT hC ?_ hl
  show wpAny _ _ _ _ _ _
  have k : ∀ b o, h.get? b = some o → ((h.push (W.kdv_tup rest)).push (excO C h.objs.size)).get? b = some o := fun b o e => Heap.get?_push_of_some _ (Heap.get?_push_of_some _ e)
  have hC1 := k _ _ hC
  have hG : ((h.push (W.kdv_tup rest)).push (excO C h.objs.size)).get? (h.objs.size + 1) = some (excO C h.objs.size) := by heap_get
  have hcC : (Value.ref C :: bm).contains (.ref C) = true := by simp
  have i1 := hi.keeps k; have b1 := (hb (.ref (h.objs.size + 1))).keeps k
  unfold isInstance
  repeat (first | with_reducible refine wpAny_loadPart_at hG ?_ | (with_reducible refine wpAny_isSubtype_exc hC1 ?_; rw [hcC]) | wp_step)
  show wpAny _ _ (typeLookup (.ref C) _) _ _ _
  refine i1.at (wpAny_holding (wpAny_bind (b1.at (wpAny_bind (wpAny_call (codeAny_mono hq fun r s' z => ?_))))))
  rcases r with e | (v | _ | _ | _) <;> first | exact z | exact z.elim | skip
  obtain ⟨rfl, z⟩ := z
  first
    | exact wpAny_pure (wpAny_pure z)
    | (wp_walk; exact z)
theorem kw_check_type {rest : List Value} {Q : Unit → Shared → Prop} (hC : h.get? C = some (excClassObj nm q C N bs bm hdct sn sub ab col dd k0 k1 k2 k3 k5 newId)) (hq : Q () ⟨h, g, d, t, os⟩) :
    wpAny M A (checkBuiltinCall "type.__call__" ⟨.ref C :: rest, kw⟩) Q E ⟨h, g, d, t, os⟩ := by
  have s3 := tc_sub
  have isT : (⟨h, g, d, t, os⟩ : Shared).TypeIs (.ref C) "type" := ⟨_, hC, rfl⟩
  simp only [checkBuiltinCall, tc_kind, tc_split]
  repeat (any_goals (first | assumption | with_reducible refine wpAny_loadPart_at hC ?_ | with_reducible refine wpAny_onRaise ?_ | with_reducible refine wpAny_map ?_ | wp_step))
theorem kw_call (F : ExcBaseFacts B newId initId bmB) (hT : ∀ Y : String, bm.contains (.type Y) = bmB.contains (.type Y)) {rest : List Value} {fI : Addr} (hC : h.get? C = some (excClassObj nm q C N bs bm hdct sn sub ab col dd k0 k1 k2 k3 k5 newId))
    (hi : W.Looks (model prog w) h (typeLookup (.ref C) "__init__") (some (.ref fI))) (hb : ∀ self, W.Looks (model prog w) h (bindSpecial (.ref fI) self) (.ref fI, [self])) (hl : rest.length ≤ sizeLine)
    (hq : codeAny (model prog w) (A.under (.builtin "type.__call__" ⟨.ref C :: rest, kw⟩)) (.call (.ref fI) ⟨.ref (h.objs.size + 1) :: rest, kw⟩) (W.InitBack (h.objs.size + 1) R) ⟨(h.push (W.kdv_tup rest)).push (excO C h.objs.size), g, d, t, os⟩) :
    codeAny (model prog w) A (.call (.ref C) ⟨rest, kw⟩) R ⟨h, g, d, t, os⟩ := by
  have g1 := tc_lookup; have g2 := tc_bind (.ref C)
  have isT : (⟨h, g, d, t, os⟩ : Shared).TypeIs (.ref C) "type" := ⟨_, hC, rfl⟩
  refine codeAny_of_tree ?_
  show wpAny _ _ (callAny (.ref C) _) _ _ _
  repeat (any_goals (first | assumption | with_reducible refine wpAny_loadPart_at hC ?_ | wp_step))
  refine ⟨rfl, ?_⟩
  refine codeAny_call_builtin_at (Code.quiet_builtin _ (by decide +kernel)) entry_typeCall (kw_check_type hC (kw_type F hT hC hi hb hl (codeAny_mono hq fun r s' z => ?_)))
  rcases r with e | (v | _ | _ | _) <;> exact z
end
end PySem.XKw

set_option Elab.async false
set_option linter.all false
set_option maxRecDepth 100000
set_option maxHeartbeats 4000000
/-! X3: own exceptions as values: made, read, asked for their class, kept by an except suite. -/
namespace My
open PySem PySem.Spec PyProof.Rows L2
/-- an exception of the class cls with the dict d stands at a -/
def xv (a : Addr) (cls : Value) (d : Option Addr) : HO := .ext fun h => ∃ (oe : Obj) (vs : Array Value), h.get? a = some oe ∧ Zc cls d oe ∧ oe.data = .fields vs
/-- at dx: an exception's dict -/
inductive XD (H : Hp) (dx : Addr) (fs : List (Str × V)) : Prop where
  | a (e : H dx = some (exd dx fs))
  | b (e : H dx = some (.xd fs))
/-- at a: an exception of the class at C with the dict d -/
inductive XO (H : Hp) (a C : Addr) (d : Option Addr) : Prop where
  | a (e : H a = some (exo a C d))
  | b (e : H a = some (xv a (.ref C) d))
theorem xv_ok {P : Program} {w : World} {H : Hp} {h : Heap} {a : Addr} {cls : Value} {d : Option Addr} {oe : Obj} {vs : Array Value} (e : h.get? a = some oe) (z : Zc cls d oe) (hd : oe.data = .fields vs) : ObjOk P w H h a (xv a cls d) :=
  ⟨⟨oe, vs, e, z, hd⟩, ⟨oe, e⟩, fun _ _ ⟨o, v, q, r⟩ k => ⟨o, v, k o q, r⟩⟩
section
variable {X : Cx} {pins : List (Addr × Obj)} {σ : L2.St} {H : Hp} {s : Shared} {a C dx : Addr} {d : Option Addr} {fs : List (Str × V)}
theorem XO.get (h : XO H a C d) (k : HOk X.prog X.w H s.heap) : ∃ (oe : Obj) (vs : Array Value), s.heap.get? a = some oe ∧ Zc (.ref C) d oe ∧ oe.data = .fields vs := by
  rcases h with e | e
  · obtain ⟨t1, q⟩ := exo_at k e
    exact ⟨_, _, q, ⟨rfl, rfl⟩, rfl⟩
  · have x : ObjOk X.prog X.w H s.heap a (xv a (.ref C) d) := k a _ e
    exact x.1
theorem XD.get (h : XD H dx fs) (k : HOk X.prog X.w H s.heap) : ∃ mA, s.heap.Ns1 dx mA ∧ ∀ f, RelO (fs.lookup f) (mA f) := by
  rcases h with e | e
  · exact exd_at k e
  · have x : ObjOk X.prog X.w H s.heap dx (.xd fs) := k dx _ e
    exact x
end
/-- a dict, if there is one, is tracked -/
def XDo (H : Hp) (d : Option Addr) : Prop := ∀ dx, d = some dx → ∃ fs, XD H dx fs
/-- x.f, x an exception that stands there -/
def tXf (K : PySem.W.Frag) (f : Str) (te : TE) : TE := fun σ H Q => te σ H fun x H1 => ∃ (a C dx : Addr) (fs : List (Str × V)) (v : V), x = .ref a ∧ XO H1 a C (some dx) ∧ XD H1 dx fs ∧ XC K C ∧ PySem.W.findIn K (.ref C) f = some none ∧ fs.lookup f = some v ∧ Q v H1
theorem pe_xget {X : Cx} {e : Expr} {te : TE} {pos : Pos} {f : Str} (he : PE X e te) (hb : attributeBase e f X.env (eval e X.env) = eval e X.env := by rfl) : PE X (.Attribute e f pos) (tXf X.K f te) := by
  refine ⟨fun pins s σ H Q I h => attr_of hb (thn (he.run pins s σ H _ I h) fun u s1 ⟨x, H1, I1, rx, a, C, dx, fs, v, ex, hO, hD, T, hno, l, q⟩ => ?_)⟩
  subst ex
  obtain rfl : u = Value.ref a := rx
  obtain ⟨oe, vs, ha, hz, hdt⟩ := hO.get (X := X) I1.hok
  obtain ⟨mA, hns, hr⟩ := hD.get (X := X) I1.hok
  obtain ⟨od, ho, hl⟩ := lookIn_ns hns
  obtain ⟨u, hu, ru⟩ := RelO.some_of (v := v) (o := mA f) (by rw [← l]; exact hr f)
  have J : PySem.W.InstAt s1.heap a oe C (some od) := ⟨ha, hz.1, by unfold PySem.W.notCls; rw [hdt] <;> rfl, by rw [hz.2]; exact ho⟩
  exact HandSPX.exc_get I1.kIn J T.is.hg T.is.hk T.is.hs (PySem.W.findObj_own T.is.hd hno rfl (by rw [hl, hu])) (handed_of ru) ⟨v, H1, I1.tok _, ru, q⟩
/-- isinstance(x, c), x an exception that stands there -/
def rXis (K : PySem.W.Frag) : List V → Hp → VK → Prop := fun xs H Q => ∃ (a C : Addr) (d : Option Addr) (c : V) (cv : Value) (b : Bool), xs = [.ref a, c] ∧ XO H a C d ∧ XDo H d ∧ XC K C ∧ (∀ u, RelV c u → u = cv) ∧ PySem.W.kitOne K (.ref C) cv = some b ∧ Q (.bl b) H
theorem call_xis {X : Cx} : CallR X (.builtin "isinstance") (rXis X.K) := by
  intro pins s σ H xs us Q I r h
  obtain ⟨a, C, d, c, cv, b, rfl, hO, hD, T, hcv, e, q⟩ := h
  obtain ⟨u1, u2, rfl, r1, r2⟩ := vals2 r
  have ec := hcv _ r2
  subst ec
  obtain rfl : u1 = Value.ref a := r1
  obtain ⟨oe, vs, ha, hz, hdt⟩ := hO.get (X := X) I.hok
  obtain ⟨cd, hcd, _⟩ := T.cd
  have hcl : (PySem.W.clsIn X.K C).isSome = true := by rw [hcd]; rfl
  have go : ∀ od : Option Obj, PySem.W.InstAt s.heap a oe C od → wpAny (model X.prog X.w) X.A (call (.builtin "isinstance") [.ref a, u2]) (EP X pins σ Q) X.xe s := fun od J =>
    PySem.W.kia_one (PySem.W.kitx_exc hcl T.is.hg T.is.hk T.is.hs T.is.ha T.is.hn T.is.ht T.is.hm) I.kIn J e (fun z => nomatch z) fun tk => ⟨.bl b, H, I.tok tk, rfl, q⟩
  cases d with
  | none => exact go none ⟨ha, hz.1, by unfold PySem.W.notCls; rw [hdt] <;> rfl, by rw [hz.2]; exact True.intro⟩
  | some dx =>
    obtain ⟨fs, hd⟩ := hD dx rfl
    obtain ⟨mA, hns, _⟩ := hd.get (X := X) I.hok
    obtain ⟨od, ho, _⟩ := lookIn_ns hns
    exact go (some od) ⟨ha, hz.1, by unfold PySem.W.notCls; rw [hdt] <;> rfl, by rw [hz.2]; exact ho⟩
/-- C(e, .., k = v, ..), the new exception standing as a value -/
def tNew (C : Addr) (n m : Nat) (sp : Sp) (gV : List V → List V → List V) (t tk : TA) : TE := fun σ H Q => t σ H fun vs H1 => tk σ H1 fun zs H2 => vs.length = n ∧ zs.length = m ∧ n ≤ 1000 ∧ ∀ a, H2 a = none →
  sp (gV (.ref a :: vs) zs) (upd H2 a (exo a C none)) (fun v H3 => v = .non ∧ Q (.ref a) H3) (fun _ _ _ => False)
section
variable {X : Cx} {CX : CXT} {k n : Nat} {fI C : Addr} {fd : FuncData} {ps ks : List Str} {sp : Sp} {x : Str} {p pos : Pos} {e : Expr} {es : List Expr} {kws : List Keyword} {t tk : TA} {g : List Value → List Value → List Value} {gV : List V → List V → List V}
theorem run_new {pins : List (Addr × Obj)} {σ : L2.St} {H : Hp} {s : Shared} {Q : VK} {us ws : List Value} {vs zs : List V} (T : XC X.K C) (iC : PySem.W.findIn X.K (.ref C) "__init__" = some (some (.ref fI))) (tI : PySem.W.typeIn X.K (.ref fI) = some (.type "function"))
    (F1 : FnOk X.prog X.w X.K X.mg X.base CX k fI fd ps sp) (hr : Room (k + 1) X.A) (hb : KBn X.K fd ps (n + 1) ks g gV) (hx : Passes CX X (fun _ _ _ => False)) (I : Inv X pins σ H s) (r : Vals vs us) (rz : Vals zs ws) (l1 : vs.length = n) (l2 : zs.length = ks.length) (l3 : n ≤ 1000)
    (h : ∀ a, H a = none → sp (gV (.ref a :: vs) zs) (upd H a (exo a C none)) (fun v H2 => v = .non ∧ Q (.ref a) H2) (fun _ _ _ => False)) : wpAny (model X.prog X.w) X.A (call (.ref C) us (ks.zip ws)) (EP X pins σ Q) X.xe s := by
  obtain ⟨B, newId, initId, bmB, F, hI, _⟩ := T.mks
  obtain ⟨nm, N, q, bs, bm, hdct, sn, sub, ab, col, dd, k0, k1, k2, k3, k5, hC, hTT⟩ := PySem.W.excInit_of I.kIn hI
  obtain ⟨hp, g1, dr, tk1, os⟩ := s
  have hsz : hp.objs.size ≤ hp.objs.size + 1 := Nat.le_succ _
  have hn : H (hp.objs.size + 1) = none := I.hok.fresh hsz
  have hq := h (hp.objs.size + 1) hn
  have kk : ∀ b o, hp.get? b = some o → ((hp.push (PySem.W.kdv_tup us)).push (PySem.HandSPX.excO C hp.objs.size)).get? b = some o := fun b o e => Heap.get?_push_of_some _ (Heap.get?_push_of_some _ e)
  have hG : ((hp.push (PySem.W.kdv_tup us)).push (PySem.HandSPX.excO C hp.objs.size)).get? (hp.objs.size + 1) = some (PySem.HandSPX.excO C hp.objs.size) := by heap_get
  have I2 := I.laid (t' := tk1) (a := hp.objs.size + 1) (o := exo (hp.objs.size + 1) C none) (h' := (hp.push (PySem.W.kdv_tup us)).push (PySem.HandSPX.excO C hp.objs.size)) kk hsz (exo_ok hG)
  have r2 := hb.rel (.cons rfl r : Vals (V.ref (hp.objs.size + 1) :: vs) (Value.ref (hp.objs.size + 1) :: us)) rz
  have e1 : (Value.ref (hp.objs.size + 1) :: us).length = n + 1 := by rw [List.length_cons, ← r.length, l1]
  have e2 : us.length ≤ sizeLine := by rw [← r.length, l1, sizeLine_eq]; omega
  refine wpAny_call (PySem.XKw.kw_call F hTT hC (PySem.W.looks_findIn I.kIn iC) (fun self => PySem.W.bind_fn I.kIn self tI) e2 (codeAny_mono (F1.run _ X.stack _ _ ⟨Value.ref (hp.objs.size + 1) :: us, ks.zip ws⟩ (g (Value.ref (hp.objs.size + 1) :: us) ws) _ _ _ (hr.make C us (ks.zip ws))
    (I2.env0.make C us (ks.zip ws)) (hb.to _ _ ws I2.kIn e1 (rz.length.symm.trans l2)) r2 hq) fun r s' hq' => ?_))
  cases r with
  | error er => exact hx pins σ _ _ er s' I2 hq'
  | ok fl =>
    cases fl with
    | ret u =>
      obtain ⟨v, H', I3, rv, ev, q3⟩ := I2.after hq'
      subst ev
      exact ⟨rv, ⟨V.ref (hp.objs.size + 1), H', I3, rfl, q3⟩⟩
    | next => exact False.elim hq'
    | brk => exact False.elim hq'
    | cont => exact False.elim hq'
theorem pe_newk (T : XC X.K C) (iC : PySem.W.findIn X.K (.ref C) "__init__" = some (some (.ref fI))) (tI : PySem.W.typeIn X.K (.ref fI) = some (.type "function")) (F1 : FnOk X.prog X.w X.K X.mg X.base CX k fI fd ps sp) (hr : Room (k + 1) X.A) (hg : Gl X x) (hm : X.mg x = some (.ref C))
    (hb : KBn X.K fd ps 1 ks g gV) (hx : Passes CX X (fun _ _ _ => False)) (hkw : PK X kws tk) (hall : (backToKw pos (keywordEach kws X.env)).all (·.1.isSome) = true := by rfl) (hks : (backToKw pos (keywordEach kws X.env)).filterMap (·.1) = ks := by rfl) (hdb : (x == ("__debug__" : Str)) = false := by decide)
    (hpl : ((backTo pos (starEach [] X.env)).any (·.1) || (backToKw pos (keywordEach kws X.env)).any (·.1.isNone)) = false := by rfl) : PE X (.Call (.Name x p) [] kws pos) (tNew C 0 ks.length sp gV tNil tk) := by
  refine ⟨fun pins s σ H Q I h => wpAny_Call_Name_kw (ld_glob I hg hm (PySem.W.callWith_KW0 (h₀ := X.base) I.ok.mod.kin T.kC hall ?_ hpl) hdb)⟩
  refine thn (hkw.run pos pins s σ H _ I h) fun ws s2 ⟨zs, H2, I2, rz, l1, l2, l3, q2⟩ => ⟨I2.kIn, ?_⟩
  rw [hks]
  exact run_new (us := []) (vs := []) T iC tI F1 hr hb hx I2 .nil rz rfl l2 l3 q2
theorem pe_new (T : XC X.K C) (iC : PySem.W.findIn X.K (.ref C) "__init__" = some (some (.ref fI))) (tI : PySem.W.typeIn X.K (.ref fI) = some (.type "function")) (F1 : FnOk X.prog X.w X.K X.mg X.base CX k fI fd ps sp) (hr : Room (k + 1) X.A) (hg : Gl X x) (hm : X.mg x = some (.ref C))
    (hb : KBn X.K fd ps (n + 1) [] g gV) (hx : Passes CX X (fun _ _ _ => False)) (ha : PA X (e :: es) t) (hdb : (x == ("__debug__" : Str)) = false := by decide) (he : starEach (e :: es) X.env = (false, eval e X.env) :: starEach es X.env := by rfl)
    (hpl : (backTo pos (starEach es X.env)).any (·.1) = false := by rfl) : PE X (.Call (.Name x p) (e :: es) [] pos) (tNew C n 0 sp gV t tNil) := by
  refine ⟨fun pins s σ H Q I h => wpAny_Call_Name_kw (ld_glob I hg hm ?_ hdb)⟩
  refine PySem.W.callWith_K (h₀ := X.base) I.ok.mod.kin T.kC (thn (ha.run pos pins s σ H _ I h) fun us s1 ⟨vs, H1, I1, r, l1, l2, l3, q⟩ => ⟨I1.kIn, ?_⟩) he hpl
  exact run_new (ws := []) (zs := []) T iC tI F1 hr hb hx I1 r .nil l1 rfl l3 q
end
end My

set_option Elab.async false
set_option linter.all false
set_option maxRecDepth 100000
set_option maxHeartbeats 4000000
/-! X4: an exception without arguments made; one raised; one kept behind its suite. -/
namespace My
open PySem PySem.Spec PyProof.Rows L2
section
variable {X : Cx} {C : Addr} {bmB : List Value} {B newId initId : String} {x : Str} {p pos : Pos}
/-- C(), C without an own __init__ -/
theorem pe_new0 (F : ExcBaseFacts B newId initId bmB) (q : PySem.W.excIn X.K C bmB newId = true) (gC : X.mg x = some (.ref C)) (kC : PySem.W.keepIn X.K (.ref C) = true) (hg : Gl X x) (hdb : (x == ("__debug__" : Str)) = false := by decide) :
    PE X (.Call (.Name x p) [] [] pos) (fun _ H Q => ∀ a, H a = none → Q (.ref a) (upd H a (exo a C none))) := by
  refine ⟨fun pins s σ H Q I h => wpAny_Call_Name_kw (ld_glob I hg gC (PySem.W.callWith_K0 I.kIn kC ?_) hdb)⟩
  show wpAny _ _ (call (.ref C) []) _ _ _
  obtain ⟨bm, N, nm, qn, bs, hdct, sn, sub, ab, col, dd, k0, k1, k2, k3, k5, mN, hC, hN, hni, T⟩ := exc_obj I.kIn q
  refine wpAny_call_exc_subT F T hC hN hni (fun h' a hm => ?_) (by rw [sizeLine_eq]; exact Nat.zero_le _)
  have hn : H a = none := I.hok.gone hm.new
  obtain ⟨t, ht, _, _⟩ := hm.there
  exact ⟨.ref a, upd H a (exo a C none), I.laidN hm.keeps hm.new hn (exo_ok ht), rfl, h a hn⟩
end
/-- C(e, ..) to be raised -/
def tRz (C : Addr) (n : Nat) (sp : Sp) (gV : List V → List V → List V) (t : TA) : L2.St → Hp → XK → Prop := fun σ H Q => t σ H fun vs H1 => vs.length = n ∧ n ≤ 1000 ∧ ∀ a, H1 a = none → sp (gV (.ref a :: vs) []) (upd H1 a (exo a C none))
  (fun v H2 => v = .non ∧ ∃ (d : Addr) (fs : List (Str × V)), H2 a = some (exo a C (some d)) ∧ H2 d = some (exd d fs) ∧ H1 d = none ∧ Q (.ref C) (some d) (upd (del H2 a) d (.xd fs))) (fun _ _ _ => False)
section
variable {X : Cx} {CX : CXT} {k n : Nat} {fI C : Addr} {fd : FuncData} {ps : List Str} {sp : Sp} {x : Str} {p pos : Pos} {e : Expr} {es : List Expr} {t : TA} {g : List Value → List Value → List Value} {gV : List V → List V → List V}
theorem pmk_new (T : XC X.K C) (iC : PySem.W.findIn X.K (.ref C) "__init__" = some (some (.ref fI))) (tI : PySem.W.typeIn X.K (.ref fI) = some (.type "function")) (F1 : FnOk X.prog X.w X.K X.mg X.base CX k fI fd ps sp) (hr : Room (k + 1) X.A) (hg : Gl X x) (hm : X.mg x = some (.ref C))
    (hb : KBn X.K fd ps (n + 1) [] g gV) (hx : Passes CX X (fun _ _ _ => False)) (ha : PA X (e :: es) t) (hdb : (x == ("__debug__" : Str)) = false := by decide) (he : starEach (e :: es) X.env = (false, eval e X.env) :: starEach es X.env := by rfl)
    (hpl : (backTo pos (starEach es X.env)).any (·.1) = false := by rfl) : PMk X (.Call (.Name x p) (e :: es) [] pos) (tRz C n sp gV t) := by
  intro pins s σ H Q I h
  refine wpAny_Call_Name_kw (ld_glob I hg hm ?_ hdb)
  refine PySem.W.callWith_K (h₀ := X.base) I.ok.mod.kin T.kC (thn (ha.run pos pins s σ H _ I h) fun us s1 ⟨vs, H1, I1, r, l1, l3, q⟩ => ⟨I1.kIn, ?_⟩) he hpl
  show wpAny _ _ (call (.ref C) us) _ _ _
  obtain ⟨B, newId, initId, bmB, F, hI, _⟩ := T.mks
  obtain ⟨nm, N, qn, bs, bm, hdct, sn, sub, ab, col, dd, k0, k1, k2, k3, k5, hC, hTT⟩ := PySem.W.excInit_of I1.kIn hI
  obtain ⟨hp, g1, dr, tk1, os⟩ := s1
  have hsz : hp.objs.size ≤ hp.objs.size + 1 := Nat.le_succ _
  have hq := q (hp.objs.size + 1) (I1.hok.fresh hsz)
  have kk : ∀ b o, hp.get? b = some o → ((hp.push (PySem.W.kdv_tup us)).push (PySem.HandSPX.excO C hp.objs.size)).get? b = some o := fun b o e => Heap.get?_push_of_some _ (Heap.get?_push_of_some _ e)
  have hG : ((hp.push (PySem.W.kdv_tup us)).push (PySem.HandSPX.excO C hp.objs.size)).get? (hp.objs.size + 1) = some (PySem.HandSPX.excO C hp.objs.size) := by heap_get
  have I2 := I1.laid (t' := tk1) (a := hp.objs.size + 1) (o := exo (hp.objs.size + 1) C none) (h' := (hp.push (PySem.W.kdv_tup us)).push (PySem.HandSPX.excO C hp.objs.size)) kk hsz (exo_ok hG)
  have r2 := hb.rel (.cons rfl r : Vals (V.ref (hp.objs.size + 1) :: vs) (Value.ref (hp.objs.size + 1) :: us)) (.nil : Vals [] [])
  have e1 : (Value.ref (hp.objs.size + 1) :: us).length = n + 1 := by rw [List.length_cons, ← r.length, l1]
  have e2 : us.length ≤ sizeLine := by rw [← r.length, l1, sizeLine_eq]; omega
  refine wpAny_call (PySem.XKw.kw_call (kw := []) F hTT hC (PySem.W.looks_findIn I1.kIn iC) (fun self => PySem.W.bind_fn I1.kIn self tI) e2 (codeAny_mono (F1.run _ X.stack _ _ ⟨Value.ref (hp.objs.size + 1) :: us, []⟩ (g (Value.ref (hp.objs.size + 1) :: us) []) _ _ _ (hr.make C us [])
    (I2.env0.make C us []) (hb.to _ _ [] I2.kIn e1 rfl) r2 hq) fun r s' hq' => ?_))
  cases r with
  | error er => exact hx pins σ _ _ er s' I2 hq'
  | ok fl =>
    cases fl with
    | ret u =>
      obtain ⟨v, H2, os2, bare2, un2, hok2, rv, ev, d, fs, ea, ed, hd1, q2⟩ := hq'
      subst ev
      obtain ⟨h2, g2, d2, t2, os'⟩ := s'
      exact ⟨rv, mk_end (raises_own T.is.hs T.ty) I1 hsz kk un2 hok2 os2 bare2 ea ed hd1 q2⟩
    | next => exact False.elim hq'
    | brk => exact False.elim hq'
    | cont => exact False.elim hq'
end
section
variable {X : Cx} {pins : List (Addr × Obj)} {σ : L2.St} {H : Hp} {s : Shared} {a : Addr} {o : HO}
/-- an object that came in the meantime is tracked from now on -/
theorem track (I : Inv X pins σ H s) (na : H a = none) (nL : a ≠ X.env.locals) (nC : ∀ x c, X.env.cells.lookup x = some c → c ≠ a) (nP : ∀ p ∈ X.pn ++ pins, p.1 ≠ a) (n0 : X.s_0.heap.get? a = none) (new : ObjOk X.prog X.w (upd H a o) s.heap a o) : Inv X pins σ (upd H a o) s := by
  have n1 : ∀ b u, X.s_0.heap.get? b = some u → b ≠ a := fun b u e z => by rw [z, n0] at e; cases e
  refine ⟨I.ok, I.os, I.bare, ⟨I.base.keep, I.base.slot, fun b u e n hq => ?_, I.base.there, fun b xs e => ?_, fun b u v e => ?_, fun b ps e => ?_⟩, I.loc, I.cell, ?_, fun x c e => ?_, fun p hp => ?_, fun b u e => ?_, I.len⟩
  · rw [upd_ne (n1 b u e)]; exact I.base.free b u e n hq
  · have q := I.base.tups b xs e
    rw [upd_ne (ne_of_none q na)]; exact q
  · have q := I.base.frzs b u v e
    rw [upd_ne (ne_of_none q na)]; exact q
  · obtain ⟨m, q⟩ := I.base.tbls b ps e
    exact ⟨m, by rw [upd_ne (ne_of_none q na)]; exact q⟩
  · rw [upd_ne (Ne.symm nL)]; exact I.free
  · rw [upd_ne (nC x c e)]; exact I.freeC x c e
  · obtain ⟨e, n, r⟩ := I.pin p hp
    exact ⟨e, by rw [upd_ne (nP p hp)]; exact n, r⟩
  · by_cases hb : b = a
    · subst hb; rw [upd_same] at e; cases e
      exact new
    · rw [upd_ne hb] at e
      exact (I.hok b u e).stay (fun c v _ q => q) (fun c q => by rw [upd_ne (ne_of_none q na)]; exact q) fun c xs q => by rw [upd_ne (ne_of_none q na)]; exact q
end
/-- what the clause 'except x as n' wishes whose suite lets the exception stand behind it (at a, tracked) -/
def wKp (K : PySem.W.Frag) (c : Value) (i : Nat) (ts : Addr → Value → Option Addr → TS) (D : Ends) : WX := fun cls d σ H =>
  PySem.W.exmOne K cls c = some true ∧ (∀ a, H a = none → ts a cls d { nx := fun σ' H' => H' a = none → D.nx (σ'.set i none) (upd H' a (xv a cls d)), rt := fun _ _ => False, bk := fun _ _ => False, ct := fun _ _ => False } (σ.set i (some (.ref a))) H)
section
variable {X : Cx} {x n : Str} {c : Value} {i : Nat} {body suite : List Stmt} {b₀ : Stmt} {np pos pos' : Pos} {tb : WX → TS} {ts : Addr → Value → Option Addr → TS}
theorem ps_try_keep (hs : X.stack = X.env :: X.outer) (hf : X.env.frame = some X.env.locals) (hE : X.ex = []) (hcl : X.env.cells = []) (hN : X.N.Nodup) (hi : X.N[i]? = some n) (hln : X.env.kindOf n = some .local) (hc : Names X x c)
    (hb : ∀ (W : WX) (pn : List (Addr × Obj)) (xe : Value → Shared → Prop), Takes (X.tr pn xe) W → PassesOwn (model X.prog X.w) X.A X.env xe → PSs (X.tr pn xe) body (tb W))
    (hsu : ∀ (a : Addr) (oe : Obj) (cls : Value) (d : Option Addr) (pn : List (Addr × Obj)), Zc cls d oe → (∃ vs, oe.data = .fields vs) → PSs (X.suite a ((a, oe) :: pn)) (b₀ :: suite) (ts a cls d)) :
    PS X (.Try body [.ExceptHandler (some (.Name x np)) (some n) (b₀ :: suite) pos'] [] [] pos) (fun D σ H => tb (wKp X.K c i ts D) D σ H) := by
  refine ⟨fun pins s σ H D I h => ?_⟩
  have ok := I.ok; have hfr : X.A.frames = some (X.env :: X.outer) := by rw [ok.frames, hs]
  have hvis : Loc X.env.scope n := .inl hln
  refine wpAny_Try_except (wpAny_mono ((hb (wKp X.K c i ts D) (X.pn ++ pins) (fun e s₁ => wpAny (model X.prog X.w) X.A (noteFrame e X.env) (fun _ s₂ => wpAny (model X.prog X.w) X.A (setFlight e none) (fun _ s₃ => wpAny (model X.prog X.w) X.A (handleBy e X.env [.ExceptHandler (some (.Name x np)) (some n) (b₀ :: suite) pos']) (SP X pins D) X.xe s₃) X.xe s₂) X.xe s₁)
    (fun u s' xx => ?_) PassesOwn.looking).run [] s σ H D (I.toTry _) h) (fun f s1 hsp => ?_) (fun e s1 he => he))
  · obtain ⟨a, B, sI, pins', σ', H', cls, d, rfl, J', nb, up, sky, na, os, ag, hb1, hyes⟩ := xx
    have J : Inv X pins σ' H' sI := J'.ofTry ok
    have sky2 : Sky B (X.env :: X.outer) a (Zc cls d) X.env.locals s'.heap := by rw [← hs]; exact sky
    show wpAny (model X.prog X.w) X.A (noteFrame (.ref a) X.env) _ _ _
    refine Sky.land Zc.steady hfr hf sky2 fun h3 fl3 up3 => ?_
    have J3 : Inv X pins σ' H' { s' with heap := h3 } := J.landed nb fl3.1 (up.trans up3) os ag
    obtain ⟨oe3, vs3, he3, hz3, hd3⟩ := fl3.there
    have noFr : a ∉ frs (X.env :: X.outer) := fun hm => by
      obtain ⟨_, o', e', hnf⟩ := fl3.2.2.1.mem hm
      rw [he3] at e'; cases e'
      exact hnf _ hd3
    have noB : ∀ {o : Obj}, sI.heap.get? a = some o → False := fun {o} e => by
      have z := nb a o e (by rw [hs]; exact noFr)
      rw [fl3.2.1] at z; cases z
    have nL : a ≠ X.env.locals := fun z => noFr (List.mem_filterMap.mpr ⟨X.env, List.mem_cons_self, by rw [hf, z]⟩)
    have nF : a ∉ X.fs := fun hm => let ⟨e, he, q⟩ := List.mem_filterMap.mp hm; noFr (List.mem_filterMap.mpr ⟨e, List.mem_cons_of_mem _ he, q⟩)
    have n0 : X.s_0.heap.get? a = none := by
      cases e : X.s_0.heap.get? a with
      | none => rfl
      | some o =>
        obtain ⟨o', q⟩ := J.base.there a o e (by rw [hE]; exact fun z => nomatch z)
        exact (noB q).elim
    have nP : ∀ p ∈ X.pn ++ pins, p.1 ≠ a := fun p hp z => noB (z ▸ (J.pin p hp).1)
    have S3 := J3.suite he3 hd3 na nL nF
    refine wpAny_handleBy_cons (codeAny_handlers_test ?_) (by intro q; cases q)
    have LT : PySem.W.Looks (model X.prog X.w) h3 (typeOf (.ref a)) cls := fun A Q E s k q => wpAny_typeOf_ref (k _ _ he3) (by rw [hz3.1]; exact q)
    have LM := PySem.W.exm_one (M := model X.prog X.w) (J3.kIn) LT hb1
    have ask : ∀ {Q : Value → Shared → Prop} {E : Value → Shared → Prop}, Q c { s' with heap := h3 } → wpAny (model X.prog X.w) (X.A.mark (some (.ref a))) (eval (.Name x np) X.env) Q E { s' with heap := h3 } := fun {Q E} q => by
      obtain ⟨hg, hdbg, hm | ⟨hm, hv, hnn⟩⟩ := hc
      · exact ld_glob (X := X.suite a ((a, oe3) :: (X.pn ++ pins))) S3 hg hm q hdbg
      · exact ld_blt (X := X.suite a ((a, oe3) :: (X.pn ++ pins))) S3 hg hm hv q hnn hdbg
    refine ask (LM.here ?_)
    refine codeAny_handlers_suite_as (HandSPX.lands_againZ fl3 fun h4 fl4 up4 => ?_)
    have J4 : Inv X pins σ' H' { s' with heap := h4 } := J.landed nb fl4.1 ((up.trans up3).trans up4) os ag
    obtain ⟨oe4, vs4, he4, hz4, hd4⟩ := fl4.there
    have S4 := J4.suite he4 hd4 na nL nF
    refine store_ok (X := X.suite a ((a, oe4) :: (X.pn ++ pins))) (v := .ref a) S4 hN hi hvis rfl (fun s5 S5 => ?_) (.inr hln)
    refine wpAny_mono ((hsu a oe4 cls d (X.pn ++ pins) hz4 ⟨_, hd4⟩).run [] s5 _ H' _ S5 (hyes a na)) (fun f s6 hsp => ?_) (fun _ _ z => False.elim z)
    cases f with
    | next =>
      obtain ⟨σ6, H6, S6, q6⟩ := hsp
      obtain ⟨p1, p2, _⟩ := S6.pin (a, oe4) (List.mem_append_left _ List.mem_cons_self)
      have S7 : Inv X pins σ6 (upd H6 a (xv a cls d)) s6 := track (S6.unsuite ok) p2 nL (fun x c e => by rw [hcl] at e; cases e) nP n0 (xv_ok p1 hz4 hd4)
      exact gone_ok S7 hN hi hln fun s7 J7 => ⟨_, _, J7, q6 p2⟩
    | brk =>
      obtain ⟨σ6, H6, S6, q6⟩ := hsp
      exact False.elim q6
    | cont =>
      obtain ⟨σ6, H6, S6, q6⟩ := hsp
      exact False.elim q6
    | ret u =>
      obtain ⟨v6, σ6, H6, S6, r6, q6⟩ := hsp
      exact False.elim q6
  · cases f with
    | next => exact let ⟨σ', H', J', q⟩ := hsp; wpAny_execs_nil ⟨σ', H', J'.ofTry ok, q⟩
    | brk => exact let ⟨σ', H', J', q⟩ := hsp; ⟨σ', H', J'.ofTry ok, q⟩
    | cont => exact let ⟨σ', H', J', q⟩ := hsp; ⟨σ', H', J'.ofTry ok, q⟩
    | ret u => exact let ⟨v, σ', H', J', r, q⟩ := hsp; ⟨v, σ', H', J'.ofTry ok, r, q⟩
end
end My

set_option Elab.async false
set_option linter.all false
set_option maxRecDepth 100000
set_option maxHeartbeats 4000000
/-! S1: what an own class says of [], in, len, += and (). -/
namespace My
open PySem PySem.Spec PyProof.Rows L2
/-- the class has a def of this special name -/
structure Spc (K : PySem.W.Frag) (C : Addr) (nm : Str) (f : Addr) : Prop where
  at_ : PySem.W.findIn K (.ref C) nm = some (some (.ref f))
  fn : PySem.W.isFn K (.ref f) = true
section
variable {X : Cx} {CX : CXT} {k : Nat} {f C : Addr} {fd : FuncData} {ps : List Str} {sp : Sp} {E : XK} {a b e : Expr} {ta tb te : TE} {pos : Pos}
theorem inst_of {pins : List (Addr × Obj)} {σ : L2.St} {H : Hp} {s : Shared} {x C dx : Addr} {fs : List (Str × V)} (I : Inv X pins σ H s) (h : H x = some (.ins C dx fs)) : ∃ ox od, PySem.W.InstAt s.heap x ox C od ∧ ox.data = .plain := by
  obtain ⟨mA, O, _⟩ := ins_get I.hok h
  obtain ⟨od, J, _⟩ := O.look
  exact ⟨_, _, J, rfl⟩
def rOne (C : Addr) (sp : Sp) (E : XK) : V → V → Hp → VK → Prop := fun x y H Q => ∃ (p dx : Addr) (fs : List (Str × V)), x = .ref p ∧ H p = some (.ins C dx fs) ∧ sp [.ref p, y] H Q E
theorem get_own (m : Spc X.K C "__getitem__" f) (hq : PySem.W.noSeq X.K C = true) (F : FnOk X.prog X.w X.K X.mg X.base CX k f fd ps sp) (hr : Room k X.A) (hb : Binds X.K fd ps []) (hx : Passes CX X E) : PGet X (rOne C sp E) := by
  intro pins s σ H o i ov iv Q I ro ri h
  obtain ⟨p, dx, fs, rfl, hp, q⟩ := h
  obtain rfl : ov = Value.ref p := ro
  obtain ⟨ox, od, J, _⟩ := inst_of I hp
  obtain ⟨m0, hF⟩ := I.fr
  exact PySem.W.getItem_K hF I.ok.mod.kin J hq m.at_ m.fn (run_fn (ds := []) (dvs := []) (us := [.ref p, iv]) (vs := [.ref p, i]) F hr hb .nil hx I (.cons rfl (.cons ri .nil)) q)
def rSetO (C : Addr) (sp : Sp) (E : XK) : V → V → V → Hp → (Hp → Prop) → Prop := fun x y v H Q => ∃ (p dx : Addr) (fs : List (Str × V)), x = .ref p ∧ H p = some (.ins C dx fs) ∧ sp [.ref p, y, v] H (fun _ H' => Q H') E
theorem seqkey_own {M : Model} {A : Around} {E' : Value → Shared → Prop} {s : Shared} {K : PySem.W.Frag} {x : Addr} {k : Value} {nm : Str} {ox : Obj} {od : Option Obj} {Q : Value → Shared → Prop} (hK : K.In s.heap) (J : PySem.W.InstAt s.heap x ox C od) (hq : PySem.W.noSeq K C = true) (h : Q k s) :
    wpAny M A (sequenceKey (.ref x) k nm) Q E' s := by
  unfold sequenceKey
  refine wpAny_bind (J.type.here (wpAny_bind ((PySem.W.anyM_none hK hq).here ?_)))
  rw [if_pos (by rfl)]
  exact wpAny_pure h
theorem setItem_own (m : Spc X.K C "__setitem__" f) (hq : PySem.W.noSeq X.K C = true) {pins : List (Addr × Obj)} {σ : L2.St} {H : Hp} {s : Shared} {p dx : Addr} {fs : List (Str × V)} {iv u : Value} {Q : Unit → Shared → Prop} {E' : Value → Shared → Prop} (I : Inv X pins σ H s) (hp : H p = some (.ins C dx fs))
    (h : wpAny (model X.prog X.w) X.A (call (.ref f) [.ref p, iv, u]) (fun _ s' => Q () s') E' s) : wpAny (model X.prog X.w) X.A (setItem (.ref p) iv u) Q E' s := by
  obtain ⟨ox, od, J, _⟩ := inst_of I hp
  unfold setItem
  refine wpAny_holding (wpAny_bind (seqkey_own I.kIn J hq ?_))
  exact wpAny_bind (PySem.W.special_fn I.kIn J m.at_ (beq_iff_eq.mp m.fn) (wpAny_mono h (fun _ _ z => wpAny_pure z) fun _ _ z => z))
theorem set_own (m : Spc X.K C "__setitem__" f) (hq : PySem.W.noSeq X.K C = true) (F : FnOk X.prog X.w X.K X.mg X.base CX k f fd ps sp) (hr : Room k X.A) (hb : Binds X.K fd ps []) (hx : Passes CX X E) : PSet X (rSetO C sp E) := by
  intro pins s σ H o i v ov iv u Q I ro ri rv h
  obtain ⟨p, dx, fs, rfl, hp, q⟩ := h
  obtain rfl : ov = Value.ref p := ro
  refine setItem_own m hq I hp (wpAny_mono (run_fn (ds := []) (dvs := []) (us := [.ref p, iv, u]) (vs := [.ref p, i, v]) F hr hb .nil hx I (.cons rfl (.cons ri (.cons rv .nil))) q) (fun _ s' z => ?_) fun _ _ z => z)
  obtain ⟨v', H', I', _, q'⟩ := z
  exact ⟨H', I', q'⟩
/-- o[i] = .., where the store may raise -/
def gSubS (C : Addr) (sp : Sp) (E : L2.St → XK) (to ti : TE) : TG := fun v σ H Q => to σ H fun x H1 => ti σ H1 fun y H2 => ∃ (p dx : Addr) (fs : List (Str × V)), x = .ref p ∧ H2 p = some (.ins C dx fs) ∧ sp [.ref p, y, v] H2 (fun _ H' => Q σ H') (E σ)
theorem pg_subS {E : L2.St → XK} {o i : Expr} {to ti : TE} (ho : PE X o to) (hi : PE X i ti) (m : Spc X.K C "__setitem__" f) (hq : PySem.W.noSeq X.K C = true) (F : FnOk X.prog X.w X.K X.mg X.base CX k f fd ps sp) (hr : Room k X.A) (hb : Binds X.K fd ps []) (hx : ∀ σ, PassesAt CX X σ (E σ))
    (ha : ∀ v, assign (.Subscript o i pos) X.env v = (do
      let ov ← holding [v] (eval o X.env)
      let iv ← holding [v, ov] (eval i X.env)
      standAt pos
      holding [v, ov, iv] (setItem ov iv v)
      release [v, ov, iv] []) := by intro _; rfl) : PG X (.Subscript o i pos) (gSubS C sp E to ti) := by
  refine ⟨fun pins s σ H v u Q I r h => ?_⟩
  rw [ha]
  refine wpAny_bind (wpAny_holding (thn (ho.run pins s σ H _ I h) fun ov s1 ⟨x, H1, I1, r1, q1⟩ => ?_))
  refine wpAny_bind (wpAny_holding (thn (hi.run pins s1 σ H1 _ I1 q1) fun iv s2 ⟨y, H2, I2, r2, p, dx, fs, ex, hp, q2⟩ => ?_))
  subst ex
  obtain rfl : ov = Value.ref p := r1
  refine wpAny_bind (wpAny_standAt (wpAny_bind (wpAny_holding (setItem_own m hq I2 hp (wpAny_mono (run_fnS (us := [.ref p, iv, u]) (vs := [.ref p, y, v]) F hr hb (hx σ) I2 (.cons rfl (.cons r2 (.cons r .nil))) q2) (fun _ s3 z => ?_) fun _ _ z => z)))))
  obtain ⟨v', H', I', _, q'⟩ := z
  exact wpAny_release ⟨σ, H', I', q'⟩
/-- a[b], an own class's def -/
def tSubO (C : Addr) (sp : Sp) (E : L2.St → XK) (ta tb : TE) : TE := fun σ H Q => ta σ H fun x H1 => tb σ H1 fun y H2 => ∃ (p dx : Addr) (fs : List (Str × V)), x = .ref p ∧ H2 p = some (.ins C dx fs) ∧ sp [.ref p, y] H2 Q (E σ)
theorem pe_subO {E : L2.St → XK} (ha : PE X a ta) (hb' : PE X b tb) (m : Spc X.K C "__getitem__" f) (hfi : PySem.W.fnIn X.K f = true) (F : FnOk X.prog X.w X.K X.mg X.base CX k f fd ps sp) (hr : Room (k + 1) X.A) (hb : Binds X.K fd ps []) (hx : ∀ σ, PassesAt CX X σ (E σ))
    (hsl : ∀ (p : Addr) (i : Value), subscripted b true (.ref p) i = runValue (.builtin "lifetime.subscript" ⟨[.ref p, i], []⟩) := by intro _ _; with_unfolding_all rfl) : PE X (.Subscript a b pos) (tSubO C sp E ta tb) := by
  refine ⟨fun pins s σ H Q I h => ?_⟩
  refine Subscript_ (binT (X := X) ha hb' I h fun v u s2 x y H2 I2 rx ry q => ?_)
  obtain ⟨p, dx, fs, rfl, hp, q⟩ := q
  obtain rfl : v = Value.ref p := rx
  obtain ⟨ox, od, J, _⟩ := inst_of I2 hp
  obtain ⟨m0, hF⟩ := I2.fr
  refine PySem.W.sub_K hF I2.ok.mod.kin J m.at_ hfi m.fn ?_ (hsl p u)
  refine wpAny_call (codeAny_mono (F.run X.A.in1 X.stack s2 H2 ⟨[.ref p, u], []⟩ [.ref p, u] [.ref p, y] Q (E σ) hr.in1 I2.env0.in1 ?_ (.cons rfl (.cons ry .nil)) q) fun r s' hq => ?_)
  · have hl : ([.ref p, u] : List Value).length = ps.length := F.len _ _ _ _ q
    have b := hb s2 [.ref p, u] I2.kIn (by rw [List.append_nil]; exact hl)
    rw [List.append_nil] at b
    exact b
  · cases r with
    | error er => exact hx σ pins H2 s2 er s' I2 hq
    | ok fl =>
      cases fl with
      | ret w => exact I2.after hq
      | next => exact False.elim hq
      | brk => exact False.elim hq
      | cont => exact False.elim hq
/-- x in o, o of an own class -/
def rInO (C : Addr) (sp : Sp) (E : XK) (g : Bool → Bool) : R2 := fun y x H Q => ∃ (p dx : Addr) (fs : List (Str × V)), x = .ref p ∧ H p = some (.ins C dx fs) ∧ sp [.ref p, y] H (fun v H' => ∃ b, v = .bl b ∧ Q (.bl (g b)) H') E
theorem in_own (m : Spc X.K C "__contains__" f) (F : FnOk X.prog X.w X.K X.mg X.base CX k f fd ps sp) (hr : Room k X.A) (hb : Binds X.K fd ps []) (hx : Passes CX X E) : OpR X (compareOp .In) (rInO C sp E id) := by
  intro pins s σ H y x uy ux Q I ry rx h
  obtain ⟨p, dx, fs, rfl, hp, q⟩ := h
  obtain rfl : ux = Value.ref p := rx
  obtain ⟨ox, od, J, _⟩ := inst_of I hp
  obtain ⟨m0, hF⟩ := I.fr
  refine PySem.W.in_K hF I.ok.mod.kin J m.at_ m.fn (wpAny_mono (run_fn (ds := []) (dvs := []) (us := [.ref p, uy]) (vs := [.ref p, y]) F hr hb .nil hx I (.cons rfl (.cons ry .nil)) q) (fun r s' z => ?_) fun _ _ z => z)
  obtain ⟨v, H', I', rv, b, rfl, q'⟩ := z
  obtain rfl : r = Value.bool b := rv
  exact wpAny_truthy_bool ⟨.bl b, H', I', rfl, q'⟩
theorem notin_own (m : Spc X.K C "__contains__" f) (F : FnOk X.prog X.w X.K X.mg X.base CX k f fd ps sp) (hr : Room k X.A) (hb : Binds X.K fd ps []) (hx : Passes CX X E) : OpR X (compareOp .NotIn) (rInO C sp E not) := by
  intro pins s σ H y x uy ux Q I ry rx h
  obtain ⟨p, dx, fs, rfl, hp, q⟩ := h
  obtain rfl : ux = Value.ref p := rx
  obtain ⟨ox, od, J, _⟩ := inst_of I hp
  obtain ⟨m0, hF⟩ := I.fr
  refine PySem.W.notIn_K hF I.ok.mod.kin J m.at_ m.fn (wpAny_mono (run_fn (ds := []) (dvs := []) (us := [.ref p, uy]) (vs := [.ref p, y]) F hr hb .nil hx I (.cons rfl (.cons ry .nil)) q) (fun r s' z => ?_) fun _ _ z => z)
  obtain ⟨v, H', I', rv, b, rfl, q'⟩ := z
  obtain rfl : r = Value.bool b := rv
  exact wpAny_truthy_bool ⟨.bl (!b), H', I', rfl, q'⟩
/-- len(o) -/
def rLenO (C : Addr) (sp : Sp) (E : XK) : List V → Hp → VK → Prop := fun xs H Q => ∃ (p dx : Addr) (fs : List (Str × V)), xs = [.ref p] ∧ H p = some (.ins C dx fs) ∧ sp [.ref p] H (fun v H' => ∃ n : Int, v = .int n ∧ 0 ≤ n ∧ n < 2 ^ 63 ∧ Q (.int n) H') E
theorem len_own (m : Spc X.K C "__len__" f) (F : FnOk X.prog X.w X.K X.mg X.base CX k f fd ps sp) (hr : Room (k + 1) X.A) (hb : Binds X.K fd ps []) (hx : ∀ pins σ H s e s', Inv X pins σ H s → CX X.stack H s E e s' → X.xe e s') : CallR X (.builtin "len") (rLenO C sp E) := by
  intro pins s σ H xs us Q I rv h
  obtain ⟨p, dx, fs, rfl, hp, q⟩ := h
  obtain ⟨u, rfl, ru⟩ := rv.one
  obtain rfl : u = Value.ref p := ru
  obtain ⟨ox, od, J, _⟩ := inst_of I hp
  obtain ⟨m0, hF⟩ := I.fr
  refine PySem.W.len_K hF I.ok.mod.kin J m.at_ m.fn ?_
  refine wpAny_call (codeAny_mono (F.run X.A.in1 X.stack s H ⟨[.ref p], []⟩ [.ref p] [.ref p] _ E hr.in1 I.env0.in1 ?_ (.cons rfl .nil) q) fun r s' hq => ?_)
  · have hl : ([.ref p] : List Value).length = ps.length := F.len _ _ _ _ q
    have b := hb s [.ref p] I.kIn (by rw [List.append_nil]; exact hl)
    rw [List.append_nil] at b
    exact b
  · cases r with
    | error er => exact hx pins σ H s er s' I hq
    | ok fl =>
      cases fl with
      | ret w =>
        obtain ⟨v, H', I', rv', n, rfl, n0, n1, q'⟩ := I.after hq
        obtain ⟨t, rfl⟩ := rv'
        exact ⟨⟨n0, n1⟩, .int n, H', I'.tok _, ⟨_, rfl⟩, q'⟩
      | next => exact False.elim hq
      | brk => exact False.elim hq
      | cont => exact False.elim hq
/-- a += b, a of an own class -/
def ipO (C : Addr) (sp : Sp) (E : XK) : TIp := fun x y H Q => ∃ (p dx : Addr) (fs : List (Str × V)), x = .ref p ∧ H p = some (.ins C dx fs) ∧ sp [.ref p, y] H (fun v H' => (∃ r, v = .ref r) ∧ Q v H') E
theorem fillsI_own {M : Model} {h : Heap} {K : PySem.W.Frag} {cd : ClassData} {rest : List Value} {b : Bool} (hK : K.In h) (hc : PySem.W.clsIn K C = some cd) (hm : cd.mro = .ref C :: rest) (hs : PySem.W.findIn K (.ref C) "__iadd__" = some (some (.ref f))) :
    PySem.W.Looks M h (fillsInplaceSlot (.ref C) "add" b) true := by
  intro A Q E' s k q
  unfold fillsInplaceSlot
  refine wpAny_bind ((PySem.W.looks_clsIn hK hc).andThen (f := fun cd => pure cd.mro) .now A _ E' s k ?_)
  rw [hm, List.anyM_cons]
  refine wpAny_bind (wpAny_bind (PySem.W.looks_findIn hK hs A _ E' s k ?_))
  show wpAny M A (if (!ownNameWrapper (.ref f) _) = true then _ else _) _ _ _
  rw [if_pos (show (!ownNameWrapper (.ref f) (dunderI "add")) = true from rfl)]
  exact wpAny_pure (by rw [if_pos rfl]; exact wpAny_pure q)
theorem ip_own (m : Spc X.K C "__iadd__" f) (hc : PySem.W.selfFirst X.K C = true) (F : FnOk X.prog X.w X.K X.mg X.base CX k f fd ps sp) (hr : Room k X.A) (hb : Binds X.K fd ps []) (hx : Passes CX X E) : PIp X .Add (ipO C sp E) := by
  intro pins s σ H x y v u Q I rx ry h
  obtain ⟨p, dx, fs, rfl, hp, q⟩ := h
  obtain rfl : v = Value.ref p := rx
  obtain ⟨ox, od, J, _⟩ := inst_of I hp
  obtain ⟨cd, hcd, hm⟩ := PySem.W.any_some hc
  obtain ⟨rest, hm⟩ : ∃ rest, cd.mro = .ref C :: rest := by
    cases q : cd.mro with
    | nil => rw [q] at hm; cases hm
    | cons a r => rw [q] at hm; exact ⟨r, by rw [List.head?_cons] at hm; cases (beq_iff_eq.mp hm); rfl⟩
  unfold inplaceOp
  refine wpAny_holding (wpAny_bind (J.type.here (wpAny_bind ((fillsI_own I.kIn hcd hm m.at_).here ?_))))
  rw [if_pos rfl]
  refine wpAny_bind (m := tryMethod (.ref p) _ u) ?_
  unfold tryMethod
  refine wpAny_bind (PySem.W.special_fn I.kIn J m.at_ (beq_iff_eq.mp m.fn) (wpAny_mono (run_fn (ds := []) (dvs := []) (us := [.ref p, u]) (vs := [.ref p, y]) F hr hb .nil hx I (.cons rfl (.cons ry .nil)) q) (fun r s' z => ?_) fun _ _ e => e))
  obtain ⟨v', H', I', rv, ⟨r0, rfl⟩, q'⟩ := z
  obtain rfl : r = Value.ref r0 := rv
  exact wpAny_pure (wpAny_bind (wpAny_rule (wpAny_pure ⟨.ref r0, H', I', rfl, q'⟩)))
/-- o(), o of an own class -/
def tCallO0 (C : Addr) (sp : Sp) (E : XK) (tf : TE) : TE := fun σ H Q => tf σ H fun y H1 => ∃ (p dx : Addr) (fs : List (Str × V)), y = .ref p ∧ H1 p = some (.ins C dx fs) ∧ sp [.ref p] H1 Q E
theorem pe_callO0 {fe : Expr} {tf : TE} (hf : PE X fe tf) (m : Spc X.K C "__call__" f) (hfi : PySem.W.fnIn X.K f = true) (F : FnOk X.prog X.w X.K X.mg X.base CX k f fd ps sp) (hr : Room k X.A) (hb : Binds X.K fd ps []) (hx : Passes CX X E)
    (ht : eval (.Call fe [] [] pos) X.env = (do callWith pos (← eval fe X.env) [] (backTo pos (starEach [] X.env)) (backToKw pos (keywordEach [] X.env))) := by rfl) : PE X (.Call fe [] [] pos) (tCallO0 C sp E tf) := by
  refine ⟨fun pins s σ H Q I h => ?_⟩
  refine Call_ (thn (hf.run pins s σ H _ I h) fun u s1 ⟨y, H1, I1, ry, p, dx, fs, ey, hp, q⟩ => ?_) ht
  subst ey
  obtain rfl : u = Value.ref p := ry
  obtain ⟨ox, od, J, hd⟩ := inst_of I1 hp
  refine StX.callO_of rfl (evalArgs_nil3 ⟨⟨C, ox, od, J, hd⟩, ?_⟩)
  refine wpAny_call (PySem.W.kco_code I1.kIn J hd m.at_ m.fn hfi (codeAny_mono (F.run X.A X.stack s1 H1 ⟨[.ref p], []⟩ [.ref p] [.ref p] Q E hr I1.env0 ?_ (.cons rfl .nil) q) fun r s' hq => ?_))
  · have hl : ([.ref p] : List Value).length = ps.length := F.len _ _ _ _ q
    have b := hb s1 [.ref p] I1.kIn (by rw [List.append_nil]; exact hl)
    rw [List.append_nil] at b
    exact b
  · cases r with
    | error er => exact hx pins σ H1 s1 er s' I1 hq
    | ok fl =>
      cases fl with
      | ret w => exact I1.after hq
      | next => exact False.elim hq
      | brk => exact False.elim hq
      | cont => exact False.elim hq
end
end My

set_option Elab.async false
set_option linter.all false
set_option maxRecDepth 100000
set_option maxHeartbeats 4000000
/-! S2: list(o) of an own class with __iter__ and __len__; isinstance of a caught exception with fields. -/
namespace My
open PySem PySem.Spec PyProof.Rows L2
section
variable {prog : Program} {w : World} {A : Around} {E : Value → Shared → Prop} {s : Shared} {it l : Addr} {i : Nat} {items : Array Value}
theorem pnx_item {x : Value} {Q : Option Value → Shared → Prop} (ho : s.heap.get? it = some (GNX.itObj l i)) (hl : s.heap.IsList l items) (hx : items[i]? = some x)
    (hQ : ∀ h', h'.get? it = some (GNX.itObj l (i + 1)) → Heap.SameBut it s.heap h' → Q (some x) { s with heap := h' }) : wpAny (model prog w) A (pyNext (.ref it)) Q E s := by
  have hT : s.TypeIs (.ref it) "list_iterator" := ⟨_, ho, rfl⟩
  unfold pyNext
  refine wpAny_bind (wpAny_attempt (wpAny_callSpecial?_slot (name := Str.ofString "__next__") hT slot_listiter_next (wpAny_call_entry slot_listiter_next hT entry_listiter_next (wpAny_mono (GNX.next_item (Q := fun v s' => Q (some v) s') ho hl hx hQ) (fun fin s' hq => ?_) fun _ _ z => z) (args_listiter_next _))))
  obtain ⟨v, e, q⟩ := hq
  exact ⟨v, e, wpAny_pure q⟩
theorem pnx_end {Q : Option Value → Shared → Prop} (hh : A.handled = none) (ho : s.heap.get? it = some (GNX.itObj l i)) (hl : s.heap.IsList l items) (hx : items[i]? = none)
    (hQ : ∀ h1 h', h1.get? it = some (GNX.itEnd i) → Heap.SameBut it s.heap h1 → (∀ b o, h1.get? b = some o → h'.get? b = some o) → Q none { s with heap := h' }) : wpAny (model prog w) A (pyNext (.ref it)) Q E s := by
  have hT : s.TypeIs (.ref it) "list_iterator" := ⟨_, ho, rfl⟩
  unfold pyNext
  refine wpAny_bind (wpAny_attempt (wpAny_callSpecial?_slot (name := Str.ofString "__next__") hT slot_listiter_next (wpAny_call_entry slot_listiter_next hT entry_listiter_next (wpAny_mono (GNX.next_end (A := A) (Q := fun _ _ => False) hh ho hl hx (fun h1 h' e vs e1 sb k ne he hv => ?_)) (fun fin s' hq => ?_) fun _ _ z => z) (args_listiter_next _))))
  · have hT2 : ({ s with heap := h' } : Shared).TypeIs (.ref e) "StopIteration" := ⟨_, he, rfl⟩
    refine wpAny_bind (wpAny_isInstance hT2 PySem.isSubtype_stop ?_)
    rw [if_pos rfl]
    exact wpAny_pure (hQ h1 h' e1 sb k)
  · obtain ⟨v, e, q⟩ := hq
    exact q.elim
end
section
variable {X : Cx} {CI : CXT} {n : Nat} {C fi fl : Addr} {fdI fdL : FuncData} {psI psL : List Str} {spI spL : Sp} {EI EL : XK} {pins : List (Addr × Obj)} {σ : L2.St}
/-- the list at q is filled from the iterator at it -/
theorem fill_loop {A1 : Around} {Rs : Result → Shared → Prop} {H1 : Hp} {l it q : Addr} {zs : List V} (hh : A1.in1.handled = none) (nq : q ≠ it) (nl : l ≠ q) (nli : l ≠ it) (hl1 : H1 l = some (.lst zs)) (hlen : zs.length < sizeLine)
    (hdone : ∀ H s, Inv X pins σ H s → H q = some (.lst zs) → (∀ b, b ≠ q → b ≠ it → H b = H1 b) → Rs (.ok (.ret .none)) s) :
    ∀ (m i : Nat) (H : Hp) (s : Shared), m + i = zs.length → Inv X pins σ H s → H q = some (.lst (zs.take i)) → H it = some (ItO l it i) → (∀ b, b ≠ q → b ≠ it → H b = H1 b) →
      codeAny (model X.prog X.w) A1 (.builtin "list.extend.loop" ⟨[.ref q, .ref it, .none], []⟩) Rs s := by
  intro m
  induction m with
  | zero =>
    intro i H s hm I hq hit oth
    obtain rfl : i = zs.length := by omega
    refine codeAny_builtin PySem.F.entry_extend_loop ?_
    rw [Around.under_plainId PySem.F.plain_extend_loop _]
    show wpAny _ A1.in1 (pyNext (.ref it) >>= _) _ _ s
    obtain ⟨its, rv, pl, hz⟩ := I.list (SqL.of (K := X.K) ((oth l nl nli).trans hl1))
    have mu : Mut (H it) := by rw [hit]; exact True.intro
    refine wpAny_bind (pnx_end hh (itO_get I hit) pl.isList (by rw [List.getElem?_toArray]; exact rv.none_of (by simp)) fun h1 h' e1 sb k => ?_)
    have I2 : Inv X pins σ (upd H it (ItE it zs.length)) { s with heap := h1 } := I.write (x := it) (e := it) (t' := s.toks) mu (.inl rfl) (fun b o nb z => (sb.2 b nb).trans z) ⟨_, e1⟩ (itE_ok e1)
    have I3 : Inv X pins σ (upd H it (ItE it zs.length)) { s with heap := h' } := I2.kept (t' := s.toks) k
    refine wpAny_pure (hdone _ _ I3 ?_ fun b b1 b2 => ?_)
    · rw [upd_ne nq, hq, List.take_length]
    · rw [upd_ne b2]; exact oth b b1 b2
  | succ m ih =>
    intro i H s hm I hq hit oth
    have hi : i < zs.length := by omega
    refine codeAny_builtin PySem.F.entry_extend_loop ?_
    rw [Around.under_plainId PySem.F.plain_extend_loop _]
    show wpAny _ A1.in1 (pyNext (.ref it) >>= _) _ _ s
    obtain ⟨its, rv, pl, hz⟩ := I.list (SqL.of (K := X.K) ((oth l nl nli).trans hl1))
    have mu : Mut (H it) := by rw [hit]; exact True.intro
    obtain ⟨u, hu, ru⟩ := rv.get (List.getElem?_eq_getElem hi)
    refine wpAny_bind (pnx_item (itO_get I hit) pl.isList (x := u) (by rw [List.getElem?_toArray]; exact hu) fun h' e1 sb => ?_)
    have I2 : Inv X pins σ (upd H it (ItO l it (i + 1))) { s with heap := h' } := I.write (x := it) (e := it) (t' := s.toks) mu (.inl rfl) (fun b o nb z => (sb.2 b nb).trans z) ⟨_, e1⟩ (itO_ok e1)
    have hq2 : upd H it (ItO l it (i + 1)) q = some (.lst (zs.take i)) := by rw [upd_ne nq]; exact hq
    show wpAny _ A1.in1 (updateSeq q (·.push u) >>= _) _ _ _
    obtain ⟨z, its2, k, r2, hl2, e⟩ := I2.lstM hq2
    have tl : (zs.take i).length = i := by rw [List.length_take]; omega
    have tk : zs.take (i + 1) = zs.take i ++ [zs[i]] := by rw [List.take_succ, List.getElem?_eq_getElem hi]; rfl
    refine wpAny_bind (wpAny_updateSeq e rfl (wpAny_pure ⟨plainId_quiet PySem.F.plain_extend_loop _, ?_⟩) (by rw [List.size_toArray]; omega) (by show (its2.toArray.push u).size ≤ sizeLine + 1; rw [Array.size_push, List.size_toArray]; omega))
    refine ih (i + 1) _ _ (by omega) (I2.lset (its' := its2 ++ [u]) (t' := s.toks) hq2 e (by simp) (r2.append (.cons ru .nil)) (by rw [List.length_append, List.length_singleton]; omega)) ?_ ?_ fun b b1 b2 => ?_
    · rw [upd_same, tk]
    · rw [upd_ne nq.symm]; exact upd_same
    · rw [upd_ne b1, upd_ne b2]; exact oth b b1 b2
/-- list(o) -/
def rListIt (C : Addr) (spI spL : Sp) (EI EL : XK) : List V → Hp → VK → Prop := fun xs H Q => ∃ (a dx : Addr) (fs : List (Str × V)), xs = [.ref a] ∧ H a = some (.ins C dx fs) ∧ ∀ q, H q = none →
  spI [.ref a] (upd H q (.lst [])) (fun v H1 => ∃ (it l dx' : Addr) (fs' : List (Str × V)) (zs : List V), v = .ref it ∧ H1 it = some (ItO l it 0) ∧ H1 l = some (.lst zs) ∧ zs.length < 1000000 ∧ l ≠ q ∧ H1 q = some (.lst []) ∧ H1 a = some (.ins C dx' fs') ∧
    spL [.ref a] H1 (fun v2 H2 => H2 = H1 ∧ v2 = .int zs.length ∧ ∀ H3, H3 q = some (.lst zs) → (∀ b, b ≠ q → b ≠ it → H3 b = H1 b) → Q (.ref q) H3) EL) EI
theorem call_listIt (hc : X.calm = true) (mi : Spc X.K C "__iter__" fi) (ml : Spc X.K C "__len__" fl) (FI : FnOk X.prog X.w X.K X.mg X.base CI n fi fdI psI spI) (bI : Binds X.K fdI psI []) (xI : Passes CI X EI)
    (FL : FnOk X.prog X.w X.K X.mg X.base CX0 n fl fdL psL spL) (bL : Binds X.K fdL psL []) (hr : Room (n + 3) X.A) : CallR X (.type "list") (rListIt C spI spL EI EL) := by
  intro pins s σ H xs us Q I rv h
  obtain ⟨a, dx, fs, rfl, ha, hq⟩ := h
  obtain ⟨u, rfl, ru⟩ := rv.one
  cases ru
  have sb : Sub X (n + 1) X.A.in1.in1 := Sub.in1 (Sub.in1 (⟨hr, rfl⟩ : Sub X (n + 3) X.A))
  refine callType_codes (Q₁ := fun obj s₁ => obj = .ref s.heap.objs.size ∧ s₁ = { s with heap := s.heap.push { cls := .type "list", data := .seq #[] } }) PySem.F.called_list (PySem.F.typeCall_list_1 _) PySem.F.entry_list_init (code_list_new _ ⟨rfl, rfl⟩) fun obj s₁ h₁ => ?_
  obtain ⟨rfl, rfl⟩ := h₁
  have hS : (s.heap.push { cls := .type "list", data := .seq #[] }).get? s.heap.objs.size = some { cls := .type "list", data := .seq #[] } := Heap.get?_push_size _ rfl
  refine ⟨⟨_, hS, rfl⟩, PySem.F.args_list_init_2 _ _, ?_⟩
  have fr : H s.heap.objs.size = none := I.hok.fresh (Nat.le_refl _)
  have hsp := hq _ fr
  have I1 : Inv X pins σ (upd H s.heap.objs.size (.lst [])) { s with heap := s.heap.push { cls := .type "list", data := .seq #[] } } := I.lnew (its := []) (t' := s.toks) .nil (Nat.zero_le _)
  obtain ⟨q, hqq⟩ : ∃ q, s.heap.objs.size = q := ⟨_, rfl⟩
  show wpAny _ _ (do let old ← Builtin.List.listItems (.ref s.heap.objs.size); Builtin.List.listUpdate (.ref s.heap.objs.size) (fun _ => #[]); letGo old.toList.reverse; Builtin.List.listExtendWith (.ref s.heap.objs.size) (.ref a) .none) _ _ _
  refine wpAny_bind ?_
  unfold Builtin.List.listItems
  refine wpAny_bind (wpAny_seqItems hS rfl (wpAny_pure ?_))
  show wpAny _ _ (updateSeq s.heap.objs.size (fun _ => #[]) >>= fun _ => letGo (#[] : Array Value).toList.reverse >>= fun _ => Builtin.List.listExtendWith (.ref s.heap.objs.size) (.ref a) .none) _ _ _
  refine wpAny_bind (wpAny_updateSeq hS rfl ?_)
  have I2 := I1.lset (f := fun _ => #[]) (its := []) (its' := []) (ys := []) (t' := s.toks) upd_same hS rfl .nil (Nat.zero_le _)
  rw [upd_upd] at I2
  refine wpAny_bind (wpAny_letGo ?_)
  rw [hqq] at I2 hsp fr ⊢
  generalize hs2 : ({ s with heap := (s.heap.push { cls := .type "list", data := .seq #[] }).update q (Obj.mapSeq fun _ => #[]) } : Shared) = s2 at *
  have ha2 : upd H q (.lst []) a = some (.ins C dx fs) := by rw [upd_ne (ne_of_none ha fr)]; exact ha
  have hne : q ≠ a := (ne_of_none ha fr).symm
  obtain ⟨mA, J, _⟩ := ins_get I2.hok ha2
  obtain ⟨od, J, _⟩ := J.look
  obtain ⟨m0, hF⟩ := I2.fr
  unfold Builtin.List.listExtendWith
  refine wpAny_bind (J.type.here ?_)
  have h1 : Builtin.List.listSameRef (.ref q) (.ref a) = false := by simp [Builtin.List.listSameRef, hne]
  have h2 : (Value.ref C == Value.type "list") = false := rfl
  have h3 : (Value.ref C == Value.type "tuple") = false := rfl
  simp only [h1, h2, h3, Bool.or_false, Bool.false_eq_true, if_false]
  refine wpAny_bind (PySem.W.owit_iter hF I2.ok.mod.kin J mi.at_ mi.fn ?_)
  have e0 : ∀ {s' : Shared} {H' : Hp}, Inv X pins σ H' s' → Env0 X.prog X.w X.K X.mg X.base X.A.in1.in1 X.stack s' H' := fun I' => by
    have e := I'.env0
    exact ⟨by rw [sb.fr]; exact e.frames, e.mod, e.bs, e.bsz, e.funs, e.frf, e.hok, e.bare⟩
  have one : ∀ {ps : List Str} {fd : FuncData} {s' : Shared}, Binds X.K fd ps [] → ([Value.ref a] : List Value).length = ps.length → X.K.In s'.heap → BindsTo s' fd ⟨[.ref a], []⟩ (ps.zip [.ref a]) := fun {ps fd s'} b hl kI => by
    have q := b s' [.ref a] kI (by rw [List.append_nil]; exact hl)
    rw [List.append_nil] at q
    exact q
  refine wpAny_call (codeAny_mono (FI.run X.A.in1.in1 X.stack s2 _ ⟨[.ref a], []⟩ [.ref a] [.ref a] _ EI (sb.room.mono (Nat.le_succ _)) (e0 I2) (one bI (FI.len _ _ _ _ hsp) I2.kIn) (.cons rfl .nil) hsp) fun r s' hq' => ?_)
  cases r with
  | error e => exact xI pins σ _ s2 e s' I2 hq'
  | ok fl2 =>
    cases fl2 with
    | next => exact False.elim hq'
    | brk => exact False.elim hq'
    | cont => exact False.elim hq'
    | ret u =>
      obtain ⟨v, H1, I3, rv, it, l, dx', fs', zs, ev, hit, hl, hlen, nlq, hq1, ha1, hspL⟩ := I2.after hq'
      subst ev
      obtain rfl : u = Value.ref it := rv
      have hT : s'.TypeIs (.ref it) "list_iterator" := ⟨_, itO_get I3 hit, rfl⟩
      unfold PySem.W.OwitIt
      refine wpAny_specialOf (name := Str.ofString "__next__") hT slot_listiter_next.lookup ?_
      refine wpAny_bind (wpAny_holding ?_)
      obtain ⟨mA', J', _⟩ := ins_get I3.hok ha1
      obtain ⟨od', J', _⟩ := J'.look
      obtain ⟨m1, hF'⟩ := I3.fr
      unfold Builtin.List.listLengthHint
      refine wpAny_bind (wpAny_bind (J'.type.here ((PySem.W.looks_findIn I3.kIn ml.at_).here ?_)))
      refine PySem.W.KFB.if_not rfl ?_
      rw [if_pos (by rfl)]
      refine wpAny_bind (wpAny_rule (wpAny_bind (wpAny_attempt (PySem.W.len_K hF' I3.ok.mod.kin J' ml.at_ ml.fn ?_))))
      refine wpAny_call (codeAny_mono (FL.run X.A.in1.in1.in1 X.stack s' _ ⟨[.ref a], []⟩ [.ref a] [.ref a] _ EL sb.room.in1 ((e0 I3).in1) (one bL (FL.len _ _ _ _ hspL) I3.kIn) (.cons rfl .nil) hspL) fun r s3 hq3 => ?_)
      cases r with
      | error e => exact (show False from hq3).elim
      | ok fl3 =>
        cases fl3 with
        | next => exact False.elim hq3
        | brk => exact False.elim hq3
        | cont => exact False.elim hq3
        | ret u2 =>
          obtain ⟨v2, H2, I4, rv2, eH, ev2, kQ⟩ := I3.after hq3
          subst ev2
          rw [eH] at I4
          obtain ⟨t2, rfl⟩ := rv2
          refine ⟨⟨by omega, by omega⟩, ?_⟩
          have I5 := I4.tok (s3.toks + 1)
          generalize hs5 : ({ s3 with toks := s3.toks + 1 } : Shared) = s5 at *
          refine wpAny_bind (wpAny_pure ?_)
          refine PySem.W.KFB.if_not (show Builtin.List.listTooLong ((zs.length : Int)).toNat = false from notLongL (by rw [sizeLine_eq]; simp; omega)) ?_
          refine wpAny_pure ?_
          have loop : ∀ s6 : Shared, Inv X pins σ H1 s6 → codeAny (model X.prog X.w) X.A.in1 (.builtin "list.extend.loop" ⟨[.ref q, .ref it, .none], []⟩) (wants (fun r s₂ => r = .none ∧ EP X pins σ Q (.ref q) s₂) X.xe) s6 := fun s6 I6 =>
            fill_loop (A1 := X.A.in1) (l := l) (q := q) (zs := zs) (I6.ok.hd hc) (ne_of hq1 hit (fun z => nomatch z)) nlq (ne_of hl hit (fun z => nomatch z)) hl (by rw [sizeLine_eq]; omega) (fun H s I h1 h2 => ⟨rfl, .ref q, H, I, rfl, kQ H h1 h2⟩) zs.length 0 H1 s6 (by omega) I6 (by rw [List.take_zero]; exact hq1) hit (fun _ _ _ => rfl)
          obtain ⟨z, its, kk, r3, hl3, e3⟩ := I5.lstM hq1
          cases r3
          refine wpAny_ite_split (fun _ => ?_) (fun _ => wpAny_pure ⟨plainId_quiet PySem.F.plain_extend_loop _, loop _ I5⟩)
          refine wpAny_bind (wpAny_rule ?_)
          refine wpAny_bind ?_
          show wpAny _ _ (updateSeq q (·.push .none) >>= fun _ => updateSeq q (·.pop)) _ _ _
          refine wpAny_bind (wpAny_updateSeq e3 rfl ?_)
          have I6 := I5.lset (f := (·.push Value.none)) (its' := [Value.none]) (ys := [.non]) (t' := s5.toks) hq1 e3 (by simp) (.cons rfl .nil) (by rw [List.length_singleton, sizeLine_eq]; decide)
          obtain ⟨z4, its4, k4, r4, hl4, e4⟩ := I6.lstM upd_same
          obtain ⟨u4, rfl, ru4⟩ := r4.one
          refine wpAny_updateSeq e4 rfl ?_ (by show 1 ≤ sizeLine; rw [sizeLine_eq]; decide) (by show 0 ≤ sizeLine + 1; exact Nat.zero_le _)
          refine wpAny_pure ⟨plainId_quiet PySem.F.plain_extend_loop _, loop _ ?_⟩
          have I7 := I6.lset (f := (·.pop)) (its := [u4]) (its' := []) (ys := []) (t' := s5.toks) upd_same e4 (by rfl) .nil (Nat.zero_le _)
          rw [upd_upd] at I7
          have hH : upd H1 q (.lst []) = H1 := by
            funext b
            by_cases hb : b = q
            · rw [hb, upd_same, hq1]
            · rw [upd_ne hb]
          rw [hH] at I7
          exact I7
end
/-- isinstance(e, c), e the exception that the suite holds, with fields -/
def rIsP (C a : Addr) (cls : Value) (d : Option Addr) (K : PySem.W.Frag) : List V → Hp → VK → Prop := fun xs H Q => ∃ (c : V) (cv : Value) (b : Bool) (dd : Addr) (fs : List (Str × V)), xs = [.ref a, c] ∧ cls = .ref C ∧ d = some dd ∧ H dd = some (.xd fs) ∧ (∀ u, RelV c u → u = cv) ∧ PySem.W.kitOne K (.ref C) cv = some b ∧ Q (.bl b) H
theorem call_isP {X : Cx} {a C : Addr} {cls : Value} {d : Option Addr} {oe : Obj} {pn : List (Addr × Obj)} (T : XC X.K C) (hz : Zc cls d oe) (hf : ∃ vs, oe.data = .fields vs) : CallR (X.suite a ((a, oe) :: pn)) (.builtin "isinstance") (rIsP C a cls d X.K) := by
  intro pins s σ H xs us Q I r h
  obtain ⟨c, cv, b, dd, fs, rfl, rfl, rfl, hd, hcv, e, q⟩ := h
  obtain ⟨u1, u2, rfl, r1, r2⟩ := vals2 r
  have ec := hcv _ r2
  subst ec
  obtain rfl : u1 = Value.ref a := r1
  obtain ⟨ha, _⟩ := I.pin (a, oe) (List.mem_append_left _ List.mem_cons_self)
  obtain ⟨vs, hdt⟩ := hf
  obtain ⟨cd, hcd, _⟩ := T.cd
  have hcl : (PySem.W.clsIn X.K C).isSome = true := by rw [hcd]; rfl
  have hx : ObjOk X.prog X.w H s.heap dd (.xd fs) := I.hok dd _ hd
  obtain ⟨mA, hns, _⟩ := hx
  obtain ⟨od, ho, _⟩ := lookIn_ns hns
  have J : PySem.W.InstAt s.heap a oe C (some od) := ⟨ha, hz.1, by unfold PySem.W.notCls; rw [hdt] <;> rfl, by rw [hz.2]; exact ho⟩
  exact PySem.W.kia_one (PySem.W.kitx_exc hcl T.is.hg T.is.hk T.is.hs T.is.ha T.is.hn T.is.ht T.is.hm) I.kIn J e (fun z => nomatch z) fun tk => ⟨.bl b, H, I.tok tk, rfl, q⟩
end My

set_option Elab.async false
set_option linter.all false
set_option maxRecDepth 100000
set_option maxHeartbeats 4000000
/-! S3: o.m(k = e). -/
namespace My
open PySem PySem.Spec PyProof.Rows L2
/-- o.m(k = e, ..), keywords alone -/
def tMethK (C : Addr) (m : Str) (n : Nat) (sp : Sp) (gV : List V → List V → List V) (E : XK) (ta : TE) (tk : TA) : TE := fun σ H Q => ta σ H fun x H1 => ∃ (p dx : Addr) (fs : List (Str × V)), x = .ref p ∧ H1 p = some (.ins C dx fs) ∧ fs.lookup m = none ∧
  tk σ H1 fun zs H2 => zs.length = n ∧ sp (gV [.ref p] zs) H2 Q E
section
variable {X : Cx} {CX : CXT} {k : Nat} {f C : Addr} {fd : FuncData} {ps ks : List Str} {sp : Sp} {E : XK} {m : Str} {pos apos : Pos} {o : Expr} {ta : TE} {tk : TA} {kws : List Keyword} {g : List Value → List Value → List Value} {gV : List V → List V → List V}
theorem pe_methK {pl : Sem Bool} (he : PE X o ta) (c : Cls X.K C) (hm : Meth X.K C m f) (F : FnOk X.prog X.w X.K X.mg X.base CX k f fd ps sp) (hr : Room k X.A) (hb : KBn X.K fd ps 1 ks g gV) (hx : Passes CX X E) (hkw : PK X kws tk)
    (hall : (backToKw pos (keywordEach kws X.env)).all (·.1.isSome) = true := by rfl) (hks : (backToKw pos (keywordEach kws X.env)).filterMap (·.1) = ks := by rfl)
    (hpl : ((backTo pos (starEach [] X.env)).any (·.1) || (backToKw pos (keywordEach kws X.env)).any (·.1.isNone)) = false := by rfl)
    (ht : eval (.Call (.Attribute o m apos) [] kws pos) X.env = (do
      let ov ← eval o X.env
      standAt apos.atName
      let (f, first) ← holding [ov] (getMethod ov m pl)
      callWith pos f first (backTo pos (starEach [] X.env)) (backToKw pos (keywordEach kws X.env))) := by rfl) : PE X (.Call (.Attribute o m apos) [] kws pos) (tMethK C m ks.length sp gV E ta tk) := by
  refine ⟨fun pins s σ H Q I h => ?_⟩
  refine PySem.W.methodCall_KW (pl := pl) (thn (he.run pins s σ H _ I h) fun u s1 ⟨x, H1, I1, rx, p, dx, fs, ex, ea, l, q⟩ => ?_) ht
  subst ex
  obtain rfl : u = Value.ref p := rx
  refine getmeth_ok I1 ea c hm l (PySem.W.callWith_KW0 (first := [.ref p]) (h₀ := X.base) I.ok.mod.kin hm.kp hall ?_ hpl)
  refine thn (hkw.run pos pins s1 σ H1 _ I1 q) fun ws s2 ⟨zs, H2, I2, rz, l2, q2⟩ => ⟨I2.kIn, ?_⟩
  rw [hks]
  exact run_fnN (us := [.ref p]) (vs := [.ref p]) F hr hb hx I2 (.cons rfl .nil) rz rfl l2 q2
end
end My

set_option Elab.async false
set_option linter.all false
set_option maxRecDepth 100000
set_option maxHeartbeats 4000000
/-! S4: functions that are handed on: a call by promise; captured cells tracked while others run. -/
namespace My
open PySem PySem.Spec PyProof.Rows L2
/-- calling the function at f without arguments in the heap H does what Q wants -/
def WorkCall (P : Program) (w : World) (K : PySem.W.Frag) (mg : Str → Option Value) (base : Heap) (k : Nat) (f : Addr) (H : Hp) (Q : VK) : Prop :=
  ∀ (A : Around) (outer : List Env) (s : Shared), Room k A → Env0 P w K mg base A outer s H → codeAny (model P w) A (.call (.ref f) ⟨[], []⟩) (CR CX0 outer P w H s Q E0) s
/-- a function stands at f -/
def IsFnO (H : Hp) (f : Addr) : Prop := ∃ φ, H f = some (.ext φ) ∧ ∀ h : Heap, φ h → PySem.W.FnAt f h
theorem IsFnO.at_ {P : Program} {w : World} {H : Hp} {h : Heap} {f : Addr} (x : IsFnO H f) (ok : HOk P w H h) : PySem.W.FnAt f h := by
  obtain ⟨φ, e, q⟩ := x
  obtain ⟨p, _, _⟩ := ok f _ e
  exact q h p
section
variable {X : Cx} {i k : Nat} {x : Str} {p pos : Pos}
/-- x(), x a name that holds a function -/
def tWork (P : Program) (w : World) (K : PySem.W.Frag) (mg : Str → Option Value) (base : Heap) (k i : Nat) : TE := fun σ H Q => ∃ f, σ[i]? = some (some (.ref f)) ∧ IsFnO H f ∧ WorkCall P w K mg base k f H Q
theorem pe_work (hr : Room k X.A) (hN : X.N[i]? = some x) (hv : Vis X.env.scope x) (hd : (x == ("__debug__" : Str)) = false := by decide) (hcd : (x == ("__classdict__" : Str)) = false := by decide) : PE X (.Call (.Name x p) [] [] pos) (tWork X.prog X.w X.K X.mg X.base k i) := by
  refine ⟨fun pins s σ H Q I ⟨f, hs, hf, hw⟩ => ?_⟩
  refine wpAny_Call_Name_kw (thn ((pe_var (pos := p) hN hv hd hcd).run pins s σ H (fun v H1 => v = .ref f ∧ H1 = H) I ⟨.ref f, hs, rfl, rfl⟩) fun u s1 ⟨v, H1, I1, r1, ev, eH⟩ => ?_)
  subst ev
  rw [eH] at I1
  obtain rfl : u = Value.ref f := r1
  refine PySem.W.callWith_F0 (first := []) (hf.at_ I1.hok) ?_
  show wpAny _ _ (call (.ref f) []) _ _ _
  refine wpAny_call (codeAny_mono (hw X.A X.stack s1 hr I1.env0) fun r s' hq => ?_)
  cases r with
  | error e => exact (show False from hq).elim
  | ok fl =>
    cases fl with
    | ret u => exact I1.after hq
    | next => exact False.elim hq
    | brk => exact False.elim hq
    | cont => exact False.elim hq
end
/-! ### cells tracked and let go -/
abbrev Cells := List (Addr × Obj)
/-- the very object at c -/
def CO (c : Addr) (o : Obj) : HO := .ext fun h => h.get? c = some o
theorem co_ok {P : Program} {w : World} {H : Hp} {h : Heap} {c : Addr} {o : Obj} (e : h.get? c = some o) : ObjOk P w H h c (CO c o) := ⟨e, ⟨_, e⟩, fun h1 h2 q k => k _ q⟩
theorem co_at {P : Program} {w : World} {H : Hp} {h : Heap} {c : Addr} {o : Obj} (ok : HOk P w H h) (e : H c = some (CO c o)) : h.get? c = some o := (ok c _ e).1
def upC (cs : Cells) (H : Hp) : Hp := fun b => match cs.lookup b with | some o => some (CO b o) | none => H b
def dnC (cs : Cells) (H : Hp) : Hp := fun b => match cs.lookup b with | some _ => none | none => H b
theorem upC_in {cs : Cells} {H : Hp} {b : Addr} {o : Obj} (h : cs.lookup b = some o) : upC cs H b = some (CO b o) := by unfold upC; rw [h]
theorem upC_out {cs : Cells} {H : Hp} {b : Addr} (h : cs.lookup b = none) : upC cs H b = H b := by unfold upC; rw [h]
theorem dnC_in {cs : Cells} {H : Hp} {b : Addr} {o : Obj} (h : cs.lookup b = some o) : dnC cs H b = none := by unfold dnC; rw [h]
theorem dnC_out {cs : Cells} {H : Hp} {b : Addr} (h : cs.lookup b = none) : dnC cs H b = H b := by unfold dnC; rw [h]
theorem co_ne {c : Addr} {o : Obj} {u : HO} (n : ∀ φ, u ≠ .ext φ) : CO c o ≠ u := fun e => n _ e.symm
/-- untracked cells that hold these objects -/
def Loose (cs : Cells) (fs : List Addr) (H : Hp) (h : Heap) : Prop := ∀ c o, cs.lookup c = some o → H c = none ∧ h.get? c = some o ∧ c ∉ fs
theorem hok_up {P : Program} {w : World} {cs : Cells} {fs : List Addr} {H : Hp} {h : Heap} (L : Loose cs fs H h) (ok : HOk P w H h) : HOk P w (upC cs H) h := by
  intro b u e
  cases hl : cs.lookup b with
  | some o =>
    rw [upC_in hl] at e
    cases e
    exact co_ok (L b o hl).2.1
  | none =>
    rw [upC_out hl] at e
    have nn : ∀ {c : Addr} {v : HO}, H c = some v → upC cs H c = some v := fun {c v} q => by
      cases hc : cs.lookup c with
      | some o => rw [(L c o hc).1] at q; cases q
      | none => rw [upC_out hc]; exact q
    exact (ok b u e).stay (fun _ _ _ q => q) (fun _ q => nn q) fun _ _ q => nn q
theorem hok_dn {P : Program} {w : World} {cs : Cells} {H : Hp} {h : Heap} (hc : ∀ c o, cs.lookup c = some o → H c = some (CO c o)) (ok : HOk P w H h) : HOk P w (dnC cs H) h := by
  intro b u e
  cases hl : cs.lookup b with
  | some o => rw [dnC_in hl] at e; cases e
  | none =>
    rw [dnC_out hl] at e
    have nn : ∀ {c : Addr} {v : HO}, (∀ φ, v ≠ .ext φ) → H c = some v → dnC cs H c = some v := fun {c v} n q => by
      cases hcc : cs.lookup c with
      | some o => rw [hc c o hcc] at q; exact absurd (Option.some.inj q) (co_ne n)
      | none => rw [dnC_out hcc]; exact q
    exact (ok b u e).stay (fun _ _ _ q => q) (fun _ q => nn (fun φ z => by cases z) q) fun _ _ q => nn (fun φ z => by cases z) q
/-- what ran with the cells tracked, told without them -/
theorem un_dn {P : Program} {w : World} {fs : List Addr} {cs : Cells} {H H2 : Hp} {h h' : Heap} (L : Loose cs fs H h) (u : Un fs [] (upC cs H) H2 h h') (ok2 : HOk P w H2 h') (h2 : ∀ c o, cs.lookup c = some o → H2 c = some (CO c o)) : Un fs [] H (dnC cs H2) h h' := by
  have out : ∀ {b : Addr} {v : HO}, H b = some v → cs.lookup b = none := fun {b v} e => by
    cases hl : cs.lookup b with
    | none => rfl
    | some o => rw [(L b o hl).1] at e; cases e
  refine ⟨fun b o e n hb hx => ?_, fun b o e n hb hx => ?_, fun b o e n hx => ?_, u.there, fun b xs e => ?_, fun b o v e => ?_, fun b ps e => ?_⟩
  · cases hl : cs.lookup b with
    | some o' =>
      have h1 := (L b o' hl).2.1
      rw [e] at h1
      cases h1
      exact co_at ok2 (h2 b _ hl)
    | none => exact u.keep b o e (by rw [upC_out hl]; exact n) hb hx
  · cases hl : cs.lookup b with
    | some o' => exact absurd hb (L b o' hl).2.2
    | none => exact u.slot b o e (by rw [upC_out hl]; exact n) hb hx
  · cases hl : cs.lookup b with
    | some o' => exact dnC_in hl
    | none => rw [dnC_out hl]; exact u.free b o e (by rw [upC_out hl]; exact n) hx
  · have hl := out e
    rw [dnC_out hl]; exact u.tups b xs (by rw [upC_out hl]; exact e)
  · have hl := out e
    rw [dnC_out hl]; exact u.frzs b o v (by rw [upC_out hl]; exact e)
  · have hl := out e
    obtain ⟨m, q⟩ := u.tbls b ps (by rw [upC_out hl]; exact e)
    exact ⟨m, by rw [dnC_out hl]; exact q⟩
/-- what ran without the cells, told with them -/
theorem un_up {P : Program} {w : World} {fs : List Addr} {cs : Cells} {H H2 : Hp} {h h' : Heap} (hc : ∀ c o, cs.lookup c = some o → H c = some (CO c o) ∧ c ∉ fs) (ok : HOk P w H h) (u : Un fs [] (dnC cs H) H2 h h') : Un fs [] H (upC cs H2) h h' := by
  have out : ∀ {b : Addr} {v : HO}, (∀ φ, v ≠ .ext φ) → H b = some v → cs.lookup b = none := fun {b v} n e => by
    cases hl : cs.lookup b with
    | none => rfl
    | some o => rw [(hc b o hl).1] at e; exact absurd (Option.some.inj e) (co_ne n)
  have out0 : ∀ {b : Addr}, H b = none → cs.lookup b = none := fun {b} e => by
    cases hl : cs.lookup b with
    | none => rfl
    | some o => rw [(hc b o hl).1] at e; cases e
  refine ⟨fun b o e n hb hx => ?_, fun b o e n hb hx => ?_, fun b o e n hx => ?_, u.there, fun b xs e => ?_, fun b o v e => ?_, fun b ps e => ?_⟩
  · exact u.keep b o e (by rw [dnC_out (out0 n)]; exact n) hb hx
  · exact u.slot b o e (by rw [dnC_out (out0 n)]; exact n) hb hx
  · rw [upC_out (out0 n)]; exact u.free b o e (by rw [dnC_out (out0 n)]; exact n) hx
  · have hl := out (fun φ z => by cases z) e
    rw [upC_out hl]; exact u.tups b xs (by rw [dnC_out hl]; exact e)
  · have hl := out (fun φ z => by cases z) e
    rw [upC_out hl]; exact u.frzs b o v (by rw [dnC_out hl]; exact e)
  · have hl := out (fun φ z => by cases z) e
    obtain ⟨m, q⟩ := u.tbls b ps (by rw [dnC_out hl]; exact e)
    exact ⟨m, by rw [upC_out hl]; exact q⟩
/-- behind it the cells stand as they did -/
theorem loose_after {fs : List Addr} {cs : Cells} {H H2 : Hp} {h h' : Heap} (hc : ∀ c o, cs.lookup c = some o → h.get? c = some o ∧ c ∉ fs) (u : Un fs [] (dnC cs H) H2 h h') : Loose cs fs H2 h' := fun c o hl => by
  obtain ⟨e, n⟩ := hc c o hl
  exact ⟨u.free c o e (dnC_in hl) (by simp), u.keep c o e (dnC_in hl) n (by simp), n⟩
end My

set_option Elab.async false
set_option linter.all false
set_option maxRecDepth 100000
set_option maxHeartbeats 4000000
/-! S5: a lambda called by whoever holds it; calls out of the def whose names it captured. -/
namespace My
open PySem PySem.Spec PyProof.Rows L2 LamX NdefX
theorem env0_up {P : Program} {w : World} {K : PySem.W.Frag} {mg : Str → Option Value} {base : Heap} {A : Around} {outer : List PySem.Env} {s : Shared} {H : Hp} {cs : Cells} (L : Loose cs (frs outer) H s.heap) (nb : ∀ c o, cs.lookup c = some o → base.get? c = none) (e : Env0 P w K mg base A outer s H) :
    Env0 P w K mg base A outer s (upC cs H) := by
  refine ⟨e.frames, e.mod, fun b o q => ⟨(e.bs b o q).1, ?_⟩, e.bsz, e.funs, fun b hb => ?_, hok_up L e.hok, e.bare⟩
  · cases hl : cs.lookup b with
    | some o' => rw [nb b o' hl] at q; cases q
    | none => rw [upC_out hl]; exact (e.bs b o q).2
  · cases hl : cs.lookup b with
    | some o' => exact absurd hb (L b o' hl).2.2
    | none => rw [upC_out hl]; exact e.frf b hb
theorem env0_dn {P : Program} {w : World} {K : PySem.W.Frag} {mg : Str → Option Value} {base : Heap} {A : Around} {outer : List PySem.Env} {s : Shared} {H : Hp} {cs : Cells} (hc : ∀ c o, cs.lookup c = some o → H c = some (CO c o)) (e : Env0 P w K mg base A outer s H) : Env0 P w K mg base A outer s (dnC cs H) := by
  have nn : ∀ {b : Addr}, H b = none → dnC cs H b = none := fun {b} n => by
    cases hl : cs.lookup b with
    | some o' => exact dnC_in hl
    | none => rw [dnC_out hl]; exact n
  exact ⟨e.frames, e.mod, fun b o q => ⟨(e.bs b o q).1, nn (e.bs b o q).2⟩, e.bsz, e.funs, fun b hb => nn (e.frf b hb), hok_dn hc e.hok, e.bare⟩
/-- what the cells that a function captured hold -/
structure CsAt (cl : List (Str × Addr)) (fr : List Str) (ws : List (Option V)) (cs : Cells) : Prop where
  len : ws.length = fr.length
  all : ∀ y c, cl.lookup y = some c → ∃ o v, cs.lookup c = some o ∧ o.data = .cell v
  inj : ∀ x y c, cl.lookup x = some c → cl.lookup y = some c → x = y
  has : ∀ (i : Nat) (y : Str), fr[i]? = some y → ∃ c o, cl.lookup y = some c ∧ cs.lookup c = some o ∧ ∀ v, ws[i]? = some (some v) → ∃ u, L2.RelV v u ∧ o.data = .cell (some u)
theorem CsAt.cells {cl : List (Str × Addr)} {fr : List Str} {ws : List (Option V)} {cs : Cells} {H : Hp} {h : Heap} (x : CsAt cl fr ws cs) (hc : ∀ c o, cs.lookup c = some o → H c = none ∧ h.get? c = some o) : CellsAt cl fr ws h H := by
  refine ⟨x.len, fun y c e => ?_, x.inj, fun i y e => ?_⟩
  · obtain ⟨o, v, h1, h2⟩ := x.all y c e
    obtain ⟨n, g⟩ := hc c o h1
    exact ⟨n, v, o, g, h2⟩
  · obtain ⟨c, o, h1, h2, h3⟩ := x.has i y e
    obtain ⟨n, g⟩ := hc c o h2
    refine ⟨c, h1, fun v ev => ?_⟩
    obtain ⟨u, r, d⟩ := h3 v ev
    exact ⟨u, r, o, g, d⟩
/-- a lambda: its words, the cells that it captured, its code object -/
def LamO (f : Addr) (F : NF) (body : Expr) : HO := .ext fun h => ∃ pm ctv : Value, h.get? f = some (PySem.W.kla_obj F.name F.qual F.params body F.scope F.cl pm F.c ctv)
theorem lamO_ok {P : Program} {w : World} {H : Hp} {h : Heap} {f : Addr} {F : NF} {body : Expr} {pm ctv : Value} (e : h.get? f = some (PySem.W.kla_obj F.name F.qual F.params body F.scope F.cl pm F.c ctv)) : ObjOk P w H h f (LamO f F body) :=
  ⟨⟨pm, ctv, e⟩, ⟨_, e⟩, fun h1 h2 ⟨pm, ctv, q⟩ k => ⟨pm, ctv, k _ q⟩⟩
theorem lamO_fn {H : Hp} {f : Addr} {F : NF} {body : Expr} (e : H f = some (LamO f F body)) : IsFnO H f := ⟨_, e, fun h ⟨pm, ctv, q⟩ => ⟨_, _, _, _, q⟩⟩
section
variable {P : Program} {w : World} {K : PySem.W.Frag} {mg : Str → Option Value} {base : Heap} {N fr : List Str} {F : NF} {f : Addr} {k : Nat} {body : Expr} {H : Hp} {Q : VK} {ws : List (Option V)} {cs : Cells} {tb : TE}
/-- THE RULE: a lambda without parameters, called where its cells are tracked -/
theorem work_lam (S : NScope N [] fr F.scope) (hb : ∀ pm ctv : Value, bindArgs (PySem.W.kla_fn F.name F.qual F.params body F.scope F.cl pm (.ref F.c) ctv) ⟨[], []⟩ = pure []) (hf : H f = some (LamO f F body)) (hco : H F.c = some (CodeO F.c F.qual)) (C : CsAt F.cl fr ws cs) (hc : ∀ c o, cs.lookup c = some o → H c = some (CO c o))
    (hbody : ∀ (A : Around) (outer : List PySem.Env) (s : Shared), Room k (A.deeper (envF F f s.heap.objs.size)) → PE (ncx CX0 P w K mg base N F f A outer s (dnC cs H) E0).nox body tb) (hq : tb (startF N [] ws) (dnC cs H) fun v H2 => (∀ c o, cs.lookup c = some o → H2 c = none) → Q v (upC cs H2)) : WorkCall P w K mg base (k + 1) f H Q := by
  intro A outer s hr e0
  obtain ⟨⟨pm, ctv, ho⟩, _, _⟩ := e0.hok f _ hf
  have lim : s.heap.NoLimit := e0.mod.nolimit.keeps fun b o e => (e0.bs b o e).1
  have nfr : ∀ c o, cs.lookup c = some o → c ∉ frs outer := fun c o e hm => by
    have := e0.frf c hm
    rw [hc c o e] at this; cases this
  have e1 := env0_dn hc e0
  have Ca : CellsAt F.cl fr ws s.heap (dnC cs H) := C.cells fun c o e => ⟨dnC_in e, co_at e0.hok (hc c o e)⟩
  refine PySem.W.kla_callFunE hr.depth ho rfl S.co S.gen rfl (codeO_at e0.hok hco) ?_
  rw [hb pm ctv]
  refine wpAny_pure (wpAny_newFunctionEnv S.nocell (fun y hy => absurd hy (by simp)) (fun h₁ hns hsb => ⟨lim.fresh _ hsb, ?_⟩) S.kind)
  show codeAny _ _ (.expr body (envF F f s.heap.objs.size)) _ _
  have kp : ∀ b o, s.heap.get? b = some o → h₁.get? b = some o := fun b o e => hsb.extBut b o (Nat.ne_of_lt (Heap.lt_size e)) (Heap.get?_push_of_some _ e)
  have J : Inv (ncx CX0 P w K mg base N F f A outer s (dnC cs H) E0) [] (startF N [] ws) (dnC cs H) { s with heap := h₁, toks := s.toks + ([] : List (Str × Value)).length } := inv_startN S hr.hd e1 rfl .nil Ca hns kp
  refine PySem.W.kla_codeExpr (wpAny_mono ((hbody A outer s (hr.deeper _)).run [] _ _ _ _ (J.wish _) hq) (fun v s' hv => ?_) fun _ _ z => False.elim z)
  obtain ⟨v', H', J', rv, q⟩ := hv
  have un : Un (frs outer) [] (dnC cs H) H' s.heap s'.heap := J'.base
  have lo := loose_after (fun c o e => ⟨co_at e0.hok (hc c o e), nfr c o e⟩) un
  exact ⟨v', upC cs H', J'.os, J'.bare, un_up (fun c o e => ⟨hc c o e, nfr c o e⟩) e0.hok un, hok_up lo J'.hok, rv, q fun c o e => (lo c o e).1⟩
end
/-! ### calls out of the def -/
/-- the objects of the cells of a list of names -/
def csOf (h : Heap) (cl : List (Str × Addr)) : Cells := (cl.map (·.1)).filterMap fun y => (cl.lookup y).bind fun c => (h.get? c).map fun o => (c, o)
theorem lookup_mem {α : Type} : ∀ {l : List (Addr × α)} {a : Addr} {b : α}, l.lookup a = some b → (a, b) ∈ l
  | [], _, _, h => by cases h
  | (x, y) :: r, a, b, h => by
    by_cases e : a = x
    · subst e
      simp [List.lookup] at h
      rw [h]; simp
    · have e2 : (a == x) = false := by simpa using e
      simp only [List.lookup, e2] at h
      exact List.mem_cons_of_mem _ (lookup_mem h)
theorem mem_lookup' {α : Type} : ∀ {l : List (Addr × α)} {a : Addr} {b : α}, (a, b) ∈ l → ∃ c, l.lookup a = some c
  | (x, y) :: r, a, b, h => by
    by_cases e : a = x
    · subst e
      exact ⟨y, by simp [List.lookup]⟩
    · have e2 : (a == x) = false := by simpa using e
      rcases List.mem_cons.mp h with h | h
      · cases h; exact absurd rfl e
      · obtain ⟨c, q⟩ := mem_lookup' h
        exact ⟨c, by simp only [List.lookup, e2]; exact q⟩
theorem cs_get {h : Heap} {cl : List (Str × Addr)} {c : Addr} {o : Obj} (e : (csOf h cl).lookup c = some o) : h.get? c = some o ∧ ∃ y, cl.lookup y = some c := by
  have m := lookup_mem e
  unfold csOf at m
  obtain ⟨y, hy, q⟩ := List.mem_filterMap.mp m
  cases e1 : cl.lookup y with
  | none => rw [e1] at q; cases q
  | some c' =>
    rw [e1] at q
    cases e2 : h.get? c' with
    | none => simp [e2] at q
    | some o' =>
      simp [e2] at q
      obtain ⟨rfl, rfl⟩ := q
      exact ⟨e2, y, e1⟩
theorem cs_has {h : Heap} {cl : List (Str × Addr)} {y : Str} {c : Addr} {o : Obj} (e : cl.lookup y = some c) (g : h.get? c = some o) : (csOf h cl).lookup c = some o := by
  have hy : y ∈ cl.map (·.1) := by
    have := PySem.mem_of_lookup e
    exact List.mem_map_of_mem (f := (·.1)) this
  have m : (c, o) ∈ csOf h cl := List.mem_filterMap.mpr ⟨y, hy, by simp [e, g]⟩
  obtain ⟨o', q⟩ := mem_lookup' m
  obtain ⟨g', _⟩ := cs_get q
  rw [g] at g'
  cases g'
  exact q
theorem cs_at {cl : List (Str × Addr)} {fr : List Str} {ws : List (Option V)} {H : Hp} {h : Heap} (C : CellsAt cl fr ws h H) : CsAt cl fr ws (csOf h cl) := by
  refine ⟨C.len, fun y c e => ?_, C.inj, fun i y e => ?_⟩
  · obtain ⟨_, v, o, g, d⟩ := C.all y c e
    exact ⟨o, v, cs_has e g, d⟩
  · obtain ⟨c, h1, h2⟩ := C.has i y e
    obtain ⟨_, v, o, g, d⟩ := C.all y c h1
    refine ⟨c, o, h1, cs_has h1 g, fun v' ev => ?_⟩
    obtain ⟨u, r, o', g', d'⟩ := h2 v' ev
    rw [g] at g'
    cases g'
    exact ⟨u, r, d'⟩
section
variable {X : Cx} {k : Nat} {f : Addr} {fd : FuncData} {ps : List Str} {sp : Sp} {pins : List (Addr × Obj)} {σ : L2.St} {H : Hp} {s : Shared} {Q : VK} {us : List Value} {vs : List V} {cs : Cells} {cl : List (Str × Addr)} {fr : List Str} {js : List Nat}
theorem loose_of (hex : X.ex = []) (hfn : ∀ y, X.fn y = true) (I : Inv X pins σ H s) (cp : Caps X cl fr js) : Loose (csOf s.heap cl) (frs X.stack) H s.heap ∧ (∀ c o, (csOf s.heap cl).lookup c = some o → X.base.get? c = none) ∧ CsAt cl fr (js.map (slotAt σ)) (csOf s.heap cl) := by
  have C := cells_of I cp
  have young : ∀ c o, (csOf s.heap cl).lookup c = some o → X.s_0.heap.objs.size ≤ c := fun c o e => by
    obtain ⟨_, y, hy⟩ := cs_get e
    exact I.ok.cab y c (hfn y) (cp.sub y c hy)
  refine ⟨fun c o e => ?_, fun c o e => ?_, cs_at C⟩
  · obtain ⟨g, y, hy⟩ := cs_get e
    obtain ⟨n, v, o', g', d⟩ := C.all y c hy
    rw [g] at g'
    cases g'
    refine ⟨n, g, fun hm => ?_⟩
    rcases List.mem_cons.mp (I.stkSub c hm) with e1 | e1
    · obtain ⟨m, hn, _⟩ := I.loc
      obtain ⟨ob, es, ep, h1, h2, _⟩ := hn
      rw [← e1, g] at h1
      cases h1
      rw [d] at h2; cases h2
    · obtain ⟨_, ob, h1, _⟩ := I.ok.funs.mem e1
      exact absurd (Heap.lt_size h1) (Nat.not_lt.mpr (young c _ e))
  · cases e1 : X.base.get? c with
    | none => rfl
    | some ob => exact absurd (Nat.lt_of_lt_of_le (Heap.lt_size e1) I.ok.bsz) (Nat.not_lt.mpr (young c o e))
/-- a def runs while the cells are tracked -/
theorem run_up (F : FnOk X.prog X.w X.K X.mg X.base CX0 k f fd ps sp) (hr : Room k X.A) (hb : Binds X.K fd ps []) (I : Inv X pins σ H s) (L : Loose cs (frs X.stack) H s.heap) (nb : ∀ c o, cs.lookup c = some o → X.base.get? c = none) (r : Vals vs us)
    (h : sp vs (upC cs H) (fun v H2 => (∀ c o, cs.lookup c = some o → H2 c = some (CO c o)) ∧ Q v (dnC cs H2)) E0) : codeAny (model X.prog X.w) X.A (.call (.ref f) ⟨us, []⟩) (CR CX0 X.stack X.prog X.w H s Q E0) s := by
  have hl : us.length = ps.length := by rw [← r.length]; exact F.len _ _ _ _ h
  have b := hb s us I.kIn (by rw [List.append_nil]; exact hl)
  rw [List.append_nil] at b
  refine codeAny_mono (F.run X.A X.stack s _ ⟨us, []⟩ us vs _ E0 hr (env0_up L nb I.env0) b r h) fun r s' hq => ?_
  cases r with
  | error e => exact hq
  | ok fl =>
    cases fl with
    | ret u =>
      obtain ⟨v, H2, os, bare, un, hok, rv, hc2, q⟩ := hq
      exact ⟨v, dnC cs H2, os, bare, un_dn L un hok hc2, hok_dn hc2 hok, rv, q⟩
    | next => exact hq
    | brk => exact hq
    | cont => exact hq
/-- behind it the cells stand as they did, and Q holds of what is known without them -/
def UpQ (cs : Cells) (Q : VK) : VK := fun v H2 => (∀ c o, cs.lookup c = some o → H2 c = some (CO c o)) ∧ Q v (dnC cs H2)
/-- o(), o of an own class, called where the def's cells may be asked for -/
def tCallO0Up (X : Cx) (cl : List (Str × Addr)) (fr : List Str) (js : List Nat) (C : Addr) (sp : Sp) (tf : TE) : TE := fun σ H Q => tf σ H fun y H1 => ∃ (p dx : Addr) (fs : List (Str × V)), y = .ref p ∧ H1 p = some (.ins C dx fs) ∧
  ∀ cs : Cells, CsAt cl fr (js.map (slotAt σ)) cs → (∀ c o, cs.lookup c = some o → H1 c = none) → sp [.ref p] (upC cs H1) (UpQ cs Q) E0
theorem pe_callO0Up {C : Addr} {fe : Expr} {tf : TE} {pos : Pos} (hex : X.ex = []) (hfn : ∀ y, X.fn y = true) (cp : X.Ok → Caps X cl fr js) (hf : PE X fe tf) (m : Spc X.K C "__call__" f) (hfi : PySem.W.fnIn X.K f = true) (F : FnOk X.prog X.w X.K X.mg X.base CX0 k f fd ps sp) (hr : Room k X.A) (hb : Binds X.K fd ps [])
    (ht : eval (.Call fe [] [] pos) X.env = (do callWith pos (← eval fe X.env) [] (backTo pos (starEach [] X.env)) (backToKw pos (keywordEach [] X.env))) := by rfl) : PE X (.Call fe [] [] pos) (tCallO0Up X cl fr js C sp tf) := by
  refine ⟨fun pins s σ H Q I h => ?_⟩
  refine Call_ (thn (hf.run pins s σ H _ I h) fun u s1 ⟨y, H1, I1, ry, p, dx, fs, ey, hp, q⟩ => ?_) ht
  subst ey
  obtain rfl : u = Value.ref p := ry
  obtain ⟨ox, od, J, hd⟩ := inst_of I1 hp
  obtain ⟨L, nb, C1⟩ := loose_of hex hfn I1 (cp I1.ok)
  refine StX.callO_of rfl (evalArgs_nil3 ⟨⟨C, ox, od, J, hd⟩, ?_⟩)
  refine wpAny_call (PySem.W.kco_code I1.kIn J hd m.at_ m.fn hfi (codeAny_mono (run_up (us := [.ref p]) (vs := [.ref p]) F hr hb I1 L nb (.cons rfl .nil) (q _ C1 fun c o e => (L c o e).1)) fun r s' hq => ?_))
  cases r with
  | error er => exact (show False from hq).elim
  | ok fl =>
    cases fl with
    | ret w => exact I1.after hq
    | next => exact False.elim hq
    | brk => exact False.elim hq
    | cont => exact False.elim hq
end
end My

set_option Elab.async false
set_option linter.all false
set_option maxRecDepth 100000
set_option maxHeartbeats 4000000
/-! S6: a lambda made, and tracked. -/
namespace My
open PySem PySem.Spec PyProof.Rows L2 LamX NdefX
section
variable {X : Cx} {pins : List (Addr × Obj)} {σ : L2.St} {H : Hp} {s : Shared}
/-- the lambda's words, made in the def X -/
def lamF (X : Cx) (params : Arguments) (scope : Scope) (c : Addr) : NF := ⟨"<lambda>", X.env.qual ++ "<lambda>", params, [], scope, cloFrom X.env.cells scope.names [], c⟩
/-- lambda: e, as a value -/
def tLamE (X : Cx) (P : Addr) (params : Arguments) (scope : Scope) (body : Expr) : TE := fun _ H Q => TabS H P (X.env.qual ++ "<lambda>") ∧ ∀ (f c' : Addr) (H1 : Hp), (∀ b o, b ≠ P → H b = some o → H1 b = some o) → (∀ b, H1 b = none → H b = none) → TabS H1 P (X.env.qual ++ "<lambda>") → H f = none →
  H1 f = some (LamO f (lamF X params scope c') body) → H1 c' = some (CodeO c' (X.env.qual ++ "<lambda>")) → Q (.ref f) H1
theorem pe_lamE {c P : Addr} {params : Arguments} {body : Expr} {scope : Scope} {pos : Pos} (TB : TabB X.base X.mg c P) (hcode : X.env.code = .ref c) (hdef : defaultsOf params X.env = ([], [])) (hfree : X.Ok → ∀ y ∈ scope.names, y.2 = .free → ∃ c, X.env.cells.lookup y.1 = some c) : PE X (.Lambda params body scope pos) (tLamE X P params scope body) := by
  refine ⟨fun pins s σ H Q I ⟨⟨ps, hP, ht, ha⟩, k⟩ => PySem.W.kla_eval hdef ?_⟩
  have bP : s.heap.BuiltinsAt X.mg P := TB.bm.keeps I.bk
  have hP' : s.heap.get? P = some { cls := .none, data := .fields ps } := I.hok P _ hP
  have put : ∀ {h' : Heap} {tk : Nat} {H' : Hp} {c' : Addr} {pm ctv : Value}, Inv X pins σ H' { s with heap := h', toks := tk } → Inv X pins σ (upd H' h'.objs.size (LamO h'.objs.size (lamF X params scope c') body)) { s with heap := h'.push (PySem.W.kla_obj "<lambda>" (X.env.qual ++ "<lambda>") params body scope (cloFrom X.env.cells scope.names []) pm c' ctv), toks := tk } := fun {h' tk H' c' pm ctv} I' =>
    I'.laid (t' := tk) (fun b o e => Heap.get?_push_of_some _ e) (Nat.le_refl _) (lamO_ok (F := lamF X params scope c') (Heap.get?_push_size _ rfl))
  cases hc : codeAmong pos ps.toList with
  | none =>
    refine PySem.W.kla_makeFunction (mg := X.mg) (c := c) (P := P) (ps := ps) (closure_ok (hfree I.ok)) I.ok.glob (I.mod.glob.keeps I.bk) hcode (TB.code.keeps I.bk) hP' ht hc TB.gP bP fun c' ctv h' tk hx hge hlt hrec htb => ?_
    obtain ⟨c2, oc, vs, t, e2, hoc, hd, hv⟩ := hrec
    cases e2
    have nC : H c' = none := I.hok.fresh hge
    have nF : H h'.objs.size = none := I.hok.fresh (Nat.le_trans hge (Nat.le_of_lt hlt))
    have nPC : P ≠ c' := ne_of_none hP nC
    have I1 := inv_table (q := X.env.qual ++ "<lambda>") (t' := tk) (more := #[rawInt pos.line, rawInt pos.col, .ref c']) (h' := h') I hP (fun b o hb e => hx b o hb e) htb hge ⟨oc, vs, t, hoc, hd, hv⟩
    have nfc : c' ≠ h'.objs.size := Nat.ne_of_lt hlt
    have nfP : P ≠ h'.objs.size := ne_of_none hP nF
    have eL : (ps ++ #[rawInt pos.line, rawInt pos.col, .ref c']).toList = ps.toList ++ [rawInt pos.line, rawInt pos.col, .ref c'] := by simp
    have cO : ∀ {c0 : Addr}, H c0 = some (CodeO c0 (X.env.qual ++ "<lambda>")) → c0 ≠ P ∧ c0 ≠ c' ∧ c0 ≠ h'.objs.size := fun {c0} e => ⟨fun z => by rw [z, hP] at e; exact absurd (Option.some.inj e).symm (codeO_ne ps), ne_of_none e nC, ne_of_none e nF⟩
    refine ⟨.ref h'.objs.size, _, put I1, rfl, k h'.objs.size c' _ (fun b o nb e => ?_) (fun b e => ?_) ⟨_, ?_, by rw [eL]; exact PySem.TriplesOk_snoc _ _ _ _ ht, fun p' cv hcv => ?_⟩ nF upd_same ?_⟩
    · rw [upd_ne (ne_of_none e nF), upd_ne (ne_of_none e nC), upd_ne nb]
      exact e
    · have n1 : b ≠ h'.objs.size := fun z => by rw [z, upd_same] at e; cases e
      rw [upd_ne n1] at e
      have n2 : b ≠ c' := fun z => by rw [z, upd_same] at e; cases e
      rw [upd_ne n2] at e
      have n3 : b ≠ P := fun z => by rw [z, upd_same] at e; cases e
      rw [upd_ne n3] at e
      exact e
    · rw [upd_ne nfP, upd_ne nPC, upd_same]
    · rw [eL] at hcv
      rcases among_app _ ht hcv with z | z
      · obtain ⟨c0, e1, e2⟩ := ha p' cv z
        obtain ⟨m1, m2, m3⟩ := cO e2
        exact ⟨c0, e1, by rw [upd_ne m3, upd_ne m2, upd_ne m1]; exact e2⟩
      · exact ⟨c', z, by rw [upd_ne nfc]; exact upd_same⟩
    · rw [upd_ne nfc]; exact upd_same
  | some cv =>
    obtain ⟨c', e, hco⟩ := ha pos cv hc
    subst e
    refine PySem.W.kla_makeFunctionHit (mg := X.mg) (c := c) (P := P) (ps := ps) (closure_ok (hfree I.ok)) I.ok.glob (I.mod.glob.keeps I.bk) hcode (TB.code.keeps I.bk) hP' ht hc bP fun ctv h' tk hx hsz => ?_
    have I1 : Inv X pins σ H { s with heap := h', toks := tk } := I.kept (t' := tk) hx
    have nF : H h'.objs.size = none := I.hok.fresh hsz
    refine ⟨.ref h'.objs.size, _, put I1, rfl, k h'.objs.size c' _ (fun b o nb e => ?_) (fun b e => ?_) ⟨ps, ?_, ht, fun p' cv hcv => ?_⟩ nF upd_same ?_⟩
    · rw [upd_ne (ne_of_none e nF)]; exact e
    · have n1 : b ≠ h'.objs.size := fun z => by rw [z, upd_same] at e; cases e
      rw [upd_ne n1] at e; exact e
    · rw [upd_ne (ne_of_none hP nF)]; exact hP
    · obtain ⟨c0, e1, e2⟩ := ha p' cv hcv
      exact ⟨c0, e1, by rw [upd_ne (ne_of_none e2 nF)]; exact e2⟩
    · rw [upd_ne (ne_of_none hco nF)]; exact hco
end
end My

set_option Elab.async false
set_option linter.all false
set_option maxRecDepth 100000
set_option maxHeartbeats 4000000
/-! S7: a def that returns what holds its own names: behind it their cells are tracked. -/
namespace My
open PySem PySem.Spec PyProof.Rows L2 LamX NdefX
/-- what grew with new cells tracked -/
theorem un_new {fs : List Addr} {cs : Cells} {H H2 : Hp} {h h' : Heap} (u : Un fs [] H H2 h h') (nw : ∀ c o, cs.lookup c = some o → h.get? c = none ∧ H2 c = none) : Un fs [] H (upC cs H2) h h' := by
  have out : ∀ {b : Addr} {o : Obj}, h.get? b = some o → cs.lookup b = none := fun {b o} e => by
    cases hl : cs.lookup b with
    | none => rfl
    | some o' => rw [(nw b o' hl).1] at e; cases e
  have out2 : ∀ {b : Addr} {v : HO}, H2 b = some v → cs.lookup b = none := fun {b v} e => by
    cases hl : cs.lookup b with
    | none => rfl
    | some o' => rw [(nw b o' hl).2] at e; cases e
  refine ⟨u.keep, u.slot, fun b o e n hx => ?_, u.there, fun b xs e => ?_, fun b o v e => ?_, fun b ps e => ?_⟩
  · rw [upC_out (out e)]; exact u.free b o e n hx
  · have := u.tups b xs e
    rw [upC_out (out2 this)]; exact this
  · have := u.frzs b o v e
    rw [upC_out (out2 this)]; exact this
  · obtain ⟨m, q⟩ := u.tbls b ps e
    exact ⟨m, by rw [upC_out (out2 q)]; exact q⟩
section
variable {CX : CXT} {P : Program} {w : World} {K : PySem.W.Frag} {mg : Str → Option Value} {base : Heap} {k : Nat} {f : Addr} {name qual : Str} {params : Arguments} {e : Expr} {rp : Pos} {scope : Scope} {dV kV doc pm cdv ct oc : Value} {an od : Option Addr} {osl : Array (Option Value)} {N ps : List Str} {sp : Sp} {fr : List Str} {js : List Nat} {te : List V → TE}
/-- THE RULE: def f(..): return e -/
theorem fn_ret1 (lk : K.lookup f = some ⟨oc, od, .func (PySem.W.fnOf name qual params [.Return (some e) rp] scope dV kV doc pm an cdv ct), osl⟩) (hcd : PySem.W.codeIn K cdv qual = true) (S : FnScope N ps scope)
    (len : ∀ vs H Q E, sp vs H Q E → vs.length = ps.length) {lsc : Scope} (hfree : ∀ y ∈ lsc.names, y.2 = .free → scope.names.lookup y.1 = some .cell ∨ scope.names.lookup y.1 = some .free) (hfr : ∀ y ∈ fr, (y, NameKind.free) ∈ lsc.names) (hjs : js.map (fun j => N[j]?) = fr.map some)
    (hbody : ∀ (A : Around) (outer : List PySem.Env) (s : Shared) (H : Hp) (vs : List V) (Q : VK) (E : XK), Room k (A.deeper (envOfC qual scope s.heap.objs.size f cdv)) → sp vs H Q E →
      ∃ te, PE (cxOf CX P w K mg base N qual scope f cdv A outer s H E).nox e te ∧ te (L2.start N vs) H fun v H' => ∀ cs : Cells, CsAt (cloFrom (envOfC qual scope s.heap.objs.size f cdv).cells lsc.names []) fr (js.map (slotAt (L2.start N vs))) cs → (∀ c o, cs.lookup c = some o → H c = none ∧ H' c = none ∧ ∃ x, o.data = .cell x) → Q v (upC cs H')) :
    FnOk P w K mg base CX (k + 1) f (PySem.W.fnOf name qual params [.Return (some e) rp] scope dV kV doc pm an cdv ct) ps sp := by
  refine ⟨len, fun A outer s H args us vs Q E hr e0 hb r hsp => ?_⟩
  have hl := len _ _ _ _ hsp
  have KX : K.In s.heap := e0.mod.kin.keeps fun b o e => (e0.bs b o e).1
  have lim : s.heap.NoLimit := e0.mod.nolimit.keeps fun b o e => (e0.bs b o e).1
  have hkind : ∀ y ∈ ps.zip us, scope.names.lookup y.1 = some .local ∨ (scope.names.lookup y.1 = some .cell ∧ ((cellsFrom (s.heap.objs.size + 1) scope.names []).lookup y.1).isSome = true) := fun ⟨n, v⟩ hy => by
    rcases S.par n (List.of_mem_zip hy).1 with q | q
    · exact .inl q
    · exact .inr ⟨q, PySem.W.cellsFrom_some _ _ _ (.inl q)⟩
  refine codeAny_call_function hr.depth (KX _ _ lk) rfl S.co S.gen rfl (PySem.W.codeRec_of KX hcd) (hb _ _ _ _ ?_)
  refine wpAny_newFunctionEnv_cells S.kind hkind fun env he s1 x => ?_
  subst he
  refine ⟨lim.keeps x.toInCall.keep, codeAny_func ?_⟩
  obtain ⟨te, ht, hq⟩ := hbody A outer s H vs Q E (hr.deeper _) hsp
  have I : Inv (cxOf CX P w K mg base N qual scope f cdv A outer s H E) [] (L2.start N vs) H s1 := inv_start S hr.hd e0 hl r x
  refine wpAny_execs_cons (wpAny_Return_some (wpAny_mono (ht.run [] s1 (L2.start N vs) H _ (I.wish _) hq) (fun u s2 z => ?_) fun _ _ z => False.elim z))
  obtain ⟨v, H', J, rv, q⟩ := z
  have J' : Inv (cxOf CX P w K mg base N qual scope f cdv A outer s H E) [] (L2.start N vs) H' s2 := J.unwish
  have cp : Caps (cxOf CX P w K mg base N qual scope f cdv A outer s H E) (cloFrom (envOfC qual scope s.heap.objs.size f cdv).cells lsc.names []) fr js := Caps.made J'.ok hfree hfr hjs
  obtain ⟨Lo, nb, C1⟩ := loose_of rfl (fun _ => rfl) J' cp
  have un : Un (frs outer) [] H H' s.heap s2.heap := J'.base
  have young : ∀ c o, (csOf s2.heap (cloFrom (envOfC qual scope s.heap.objs.size f cdv).cells lsc.names [])).lookup c = some o → s.heap.objs.size ≤ c := fun c o e => by
    obtain ⟨_, y, hy⟩ := cs_get e
    exact J'.ok.cab y c rfl (cp.sub y c hy)
  have new0 : ∀ c o, (csOf s2.heap (cloFrom (envOfC qual scope s.heap.objs.size f cdv).cells lsc.names [])).lookup c = some o → s.heap.get? c = none := fun c o e => by
    cases g : s.heap.get? c with
    | none => rfl
    | some ob => exact absurd (Heap.lt_size g) (Nat.not_lt.mpr (young c o e))
  have newH : ∀ c o, (csOf s2.heap (cloFrom (envOfC qual scope s.heap.objs.size f cdv).cells lsc.names [])).lookup c = some o → H c = none := fun c o e => e0.hok.fresh (young c o e)
  have Lo' : Loose (csOf s2.heap (cloFrom (envOfC qual scope s.heap.objs.size f cdv).cells lsc.names [])) (frs (cxOf CX P w K mg base N qual scope f cdv A outer s H E).stack) H' s2.heap := Lo
  exact ⟨v, upC _ H', J'.os, J'.bare, un_new un (fun c o e => ⟨new0 c o e, (Lo' c o e).1⟩), hok_up Lo' J'.hok, rv, q _ C1 fun c o e => ⟨newH c o e, (Lo' c o e).1, by
    obtain ⟨_, y, hy⟩ := cs_get e
    obtain ⟨o', x, e', hd⟩ := C1.all y c hy
    rw [e] at e'
    cases e'
    exact ⟨x, hd⟩⟩⟩
end
end My

set_option Elab.async false
set_option linter.all false
set_option maxRecDepth 100000
set_option maxHeartbeats 4000000
/-! S8: methods called out of the def whose names a lambda captured; what was handed on is called with no starred items. -/
namespace My
open PySem PySem.Spec PyProof.Rows L2 LamX NdefX
section
variable {X : Cx} {k : Nat} {f C : Addr} {sp : Sp} {m : Str} {pos apos : Pos} {o e : Expr} {es : List Expr} {ta : TE} {t : TA} {pins : List (Addr × Obj)} {σ : L2.St} {H : Hp} {s : Shared} {Q : VK} {us : List Value} {vs : List V} {cs : Cells} {cl : List (Str × Addr)} {fr : List Str} {js : List Nat}
/-- a promise by positional values runs while the cells are tracked -/
theorem run_upR (F : FnR X.prog X.w X.K X.mg X.base CX0 k f sp) (hr : Room k X.A) (I : Inv X pins σ H s) (L : Loose cs (frs X.stack) H s.heap) (nb : ∀ c o, cs.lookup c = some o → X.base.get? c = none) (r : Vals vs us)
    (h : sp vs (upC cs H) (UpQ cs Q) E0) : codeAny (model X.prog X.w) X.A (.call (.ref f) ⟨us, []⟩) (CR CX0 X.stack X.prog X.w H s Q E0) s := by
  refine codeAny_mono (F X.A X.stack s _ us vs _ E0 hr (env0_up L nb I.env0) r h) fun r s' hq => ?_
  cases r with
  | error e => exact hq
  | ok fl =>
    cases fl with
    | ret u =>
      obtain ⟨v, H2, os, bare, un, hok, rv, hc2, q⟩ := hq
      exact ⟨v, dnC cs H2, os, bare, un_dn L un hok hc2, hok_dn hc2 hok, rv, q⟩
    | next => exact hq
    | brk => exact hq
    | cont => exact hq
/-- o.m(e, ..), the def's cells asked for behind the arguments -/
def tMethUp (C : Addr) (m : Str) (cl : List (Str × Addr)) (fr : List Str) (js : List Nat) (sp : Sp) (ta : TE) (t : TA) : TE := fun σ H Q => ta σ H fun x H1 => ∃ a dx fs, x = .ref a ∧ H1 a = some (.ins C dx fs) ∧ fs.lookup m = none ∧
  t σ H1 fun vs H2 => ∀ cs : Cells, CsAt cl fr (js.map (slotAt σ)) cs → (∀ c o, cs.lookup c = some o → H2 c = none ∧ ∃ x, o.data = .cell x) → sp (.ref a :: vs) (upC cs H2) (UpQ cs Q) E0
theorem pe_methUp {pl : Sem Bool} (hex : X.ex = []) (hfn : ∀ y, X.fn y = true) (cp : X.Ok → Caps X cl fr js) (he : PE X o ta) (c : Cls X.K C) (hm : Meth X.K C m f) (F : FnR X.prog X.w X.K X.mg X.base CX0 k f sp) (hr : Room k X.A) (ha : PA X (e :: es) t)
    (hst : starEach (e :: es) X.env = (false, eval e X.env) :: starEach es X.env := by rfl) (hpl : (backTo pos (starEach es X.env)).any (·.1) = false := by rfl)
    (ht : eval (.Call (.Attribute o m apos) (e :: es) [] pos) X.env = (do
      let ov ← eval o X.env
      standAt apos.atName
      let (f, first) ← holding [ov] (getMethod ov m pl)
      callWith pos f first (backTo pos (starEach (e :: es) X.env)) (backToKw pos (keywordEach [] X.env))) := by rfl) :
    PE X (.Call (.Attribute o m apos) (e :: es) [] pos) (tMethUp C m cl fr js sp ta t) := by
  refine ⟨fun pins s σ H Q I h => ?_⟩
  refine PySem.W.methodCall_KW (pl := pl) (thn (he.run pins s σ H _ I h) fun u s1 ⟨x, H1, I1, rx, a, dx, fs, ex, ea, l, q⟩ => ?_) ht
  subst ex
  obtain rfl : u = Value.ref a := rx
  refine getmeth_ok I1 ea c hm l ?_
  refine PySem.W.callWith_K (first := [.ref a]) (h₀ := X.base) I.ok.mod.kin hm.kp (thn (ha.run pos pins s1 σ H1 _ I1 q) fun us s2 ⟨vs, H2, I2, r, q2⟩ => ⟨I2.kIn, ?_⟩) hst hpl
  obtain ⟨L, nb, C1⟩ := loose_of hex hfn I2 (cp I2.ok)
  refine wpAny_call (codeAny_mono (run_upR (us := .ref a :: us) (vs := .ref a :: vs) F hr I2 L nb (.cons rfl r) (q2 _ C1 fun c o e => ⟨(L c o e).1, by
    obtain ⟨_, y, hy⟩ := cs_get e
    obtain ⟨o', x, e', hd⟩ := C1.all y c hy
    rw [e] at e'
    cases e'
    exact ⟨x, hd⟩⟩)) fun r s' hq => ?_)
  cases r with
  | error er => exact (show False from hq).elim
  | ok fl =>
    cases fl with
    | ret w => exact I2.after hq
    | next => exact False.elim hq
    | brk => exact False.elim hq
    | cont => exact False.elim hq
end
/-- an instance that may be called by promise -/
theorem work_own {P : Program} {w : World} {K : PySem.W.Frag} {mg : Str → Option Value} {base : Heap} {C a dx f : Addr} {fd : FuncData} {ps : List Str} {sp : Sp} {k : Nat} {fs : List (Str × V)} {H : Hp} {Q : VK} (m : Spc K C "__call__" f) (hfi : PySem.W.fnIn K f = true) (F : FnOk P w K mg base CX0 k f fd ps sp) (hb : Binds K fd ps [])
    (h : H a = some (.ins C dx fs)) (q : sp [.ref a] H Q E0) : WorkCall P w K mg base k a H Q := by
  intro A outer s hr e0
  have KX : K.In s.heap := e0.mod.kin.keeps fun b o e => (e0.bs b o e).1
  obtain ⟨mA, O, _⟩ := ins_get e0.hok h
  obtain ⟨od, J, hd⟩ := O.look
  refine PySem.W.kco_code KX J rfl m.at_ m.fn hfi ?_
  have hl : [Value.ref a].length = ps.length := by
    have := F.len _ _ _ _ q
    exact this
  have b := hb s [Value.ref a] KX (by rw [List.append_nil]; exact hl)
  rw [List.append_nil] at b
  exact F.run A outer s H ⟨[Value.ref a], []⟩ [Value.ref a] [.ref a] Q E0 hr e0 b (.cons rfl .nil) q
section
variable {X : Cx} {i k : Nat} {x : Str} {p sp_ pos : Pos} {e : Expr} {te : TE} {M : Model} {A : Around} {E : Value → Shared → Prop} {s : Shared}
theorem callO_star {a : Addr} {Q : Value → Shared → Prop} {args : List (Bool × Sem Value)} (hst : args.any (·.1) = true)
    (h : wpAny M A (evalArgs (.ref a) true args []) (fun z s₁ => (∃ C ox od, PySem.W.InstAt s₁.heap a ox C od ∧ ox.data = .plain) ∧ wpAny M A (call (.ref a) ([] ++ z.pos) z.kw) Q E s₁) E s) : wpAny M A (callWith pos (.ref a) [] args []) Q E s := by
  unfold callWith
  refine wpAny_bind (wpAny_holding (wpAny_mono h (fun z s₁ h₁ => wpAny_bind (wpAny_standAt ?_)) fun _ _ y => y))
  obtain ⟨⟨C, ox, od, J, hd⟩, h₁⟩ := h₁
  have L := PySem.W.kco_keeper (M := M) J hd
  simp only [hst, Bool.true_or]
  refine wpAny_bind (L.here ?_)
  have tail : ∀ {t : Sem Value}, wpAny M A t Q E s₁ → wpAny M A (t >>= fun r => holding [r] point >>= fun _ => pure r) Q E s₁ :=
    fun ht => wpAny_bind (wpAny_mono ht (fun r s₂ hr => wpAny_bind (wpAny_holding (wpAny_point (wpAny_pure hr)))) fun _ _ y => y)
  exact tail (wpAny_operating h₁)
/-- x(*e), x a name that holds what can be called, e an empty tuple -/
def tWorkS (P : Program) (w : World) (K : PySem.W.Frag) (mg : Str → Option Value) (base : Heap) (k i : Nat) (te : TE) : TE := fun σ H Q => ∃ f, σ[i]? = some (some (.ref f)) ∧ ((te σ H fun y H1 => ∃ q, y = .ref q ∧ SqT K H1 q [] ∧ IsFnO H1 f ∧ WorkCall P w K mg base k f H1 Q) ∨
  te σ H fun y H1 => ∃ q, y = .ref q ∧ SqT K H1 q [] ∧ (∃ C dx fs, H1 f = some (.ins C dx fs)) ∧ WorkCall P w K mg base k f H1 Q)
theorem pe_workS (hr : Room k X.A) (hN : X.N[i]? = some x) (hv : Vis X.env.scope x) (he : PE X e te) (hd : (x == ("__debug__" : Str)) = false := by decide) (hcd : (x == ("__classdict__" : Str)) = false := by decide)
    (hst : starEach [.Starred e sp_] X.env = [(true, eval e X.env)] := by rfl) : PE X (.Call (.Name x p) [.Starred e sp_] [] pos) (tWorkS X.prog X.w X.K X.mg X.base k i te) := by
  refine ⟨fun pins s σ H Q I ⟨f, hs, h⟩ => ?_⟩
  refine wpAny_Call_Name_kw (thn ((pe_var (pos := p) hN hv hd hcd).run pins s σ H (fun v H1 => v = .ref f ∧ H1 = H) I ⟨.ref f, hs, rfl, rfl⟩) fun u s1 ⟨v, H1, I1, r1, ev, eH⟩ => ?_)
  subst ev
  rw [eH] at I1
  obtain rfl : u = Value.ref f := r1
  have fin : ∀ {Hx : Hp} {sx : Shared}, Inv X pins σ Hx sx → WorkCall X.prog X.w X.K X.mg X.base k f Hx Q → wpAny (model X.prog X.w) X.A (call (.ref f) ([] ++ [])) (EP X pins σ Q) X.xe sx := fun {Hx sx} Ix hw => by
    refine wpAny_call (codeAny_mono (hw X.A X.stack sx hr Ix.env0) fun r s' hq => ?_)
    cases r with
    | error e => exact (show False from hq).elim
    | ok fl =>
      cases fl with
      | ret u => exact Ix.after hq
      | next => exact False.elim hq
      | brk => exact False.elim hq
      | cont => exact False.elim hq
  rw [hst]
  rcases h with h | h
  · refine PySem.W.ks_call (P := fun h => PySem.W.FnAt f h) rfl (fun h X => PySem.W.keeps_F h X) (PySem.W.ks_lone (thn (he.run pins s1 σ H _ I1 h) fun v s2 ⟨y, H2, I2, ry, q, ey, hq0, hkind, hw⟩ => ?_))
    subst ey
    obtain rfl : v = Value.ref q := ry
    refine star_tup I2 hq0 fun us s3 I3 rv => ⟨hkind.at_ I3.hok, ?_⟩
    cases rv
    exact fin I3 hw
  · refine callO_star rfl (PySem.W.ks_lone (thn (he.run pins s1 σ H _ I1 h) fun v s2 ⟨y, H2, I2, ry, q, ey, hq0, hkind, hw⟩ => ?_))
    subst ey
    obtain rfl : v = Value.ref q := ry
    refine star_tup I2 hq0 fun us s3 I3 rv => ⟨?_, ?_⟩
    · obtain ⟨C, dx, fs, hi⟩ := hkind
      obtain ⟨ox, od, J, hd⟩ := inst_of I3 hi
      exact ⟨C, ox, od, J, hd⟩
    · cases rv
      exact fin I3 hw
end
end My

set_option Elab.async false
set_option linter.all false
set_option maxRecDepth 100000
set_option maxHeartbeats 4000000
/-! Q1: short words, and the draws of a law over desks. -/
namespace My
open PySem PySem.Spec PyProof.Rows L2
def top (i : Nat) : Stmt := PySem.Challenge.pw_trackedreads_k73_effects_that_put_what_t.main.body.getD i (.Pass ⟨0, 0, 0, 0⟩)
/-- what stands outside S is as it was -/
def Kp (S : List Addr) (H H' : Hp) : Prop := ∀ q o, q ∉ S → H q = some o → H' q = some o
theorem Kp.refl {S : List Addr} (H : Hp) : Kp S H H := fun _ _ _ h => h
theorem Kp.trans {S : List Addr} {H H1 H2 : Hp} (a : Kp S H H1) (b : Kp S H1 H2) : Kp S H H2 := fun q o n h => b q o n (a q o n h)
theorem Kp.mono {S T : List Addr} {H H1 : Hp} (a : Kp S H H1) (h : ∀ x, x ∈ S → x ∈ T) : Kp T H H1 := fun q o n e => a q o (fun z => n (h q z)) e
theorem Kp.new {S : List Addr} {H : Hp} {p : Addr} {o : HO} (h : H p = none) : Kp S H (upd H p o) := fun q u _ e => by
  rw [upd_ne (ne_of_none e h)]
  exact e
theorem Kp.put {S : List Addr} {H : Hp} {p : Addr} {o : HO} (h : p ∈ S) : Kp S H (upd H p o) := fun q u n e => by
  rw [upd_ne (fun z => n (by rw [z]; exact h))]
  exact e
theorem Kp.same {H H1 : Hp} (a : Kp [] H H1) : Same H H1 := fun q o e => a q o (by simp) e
theorem Kp.of_same {S : List Addr} {H H1 : Hp} (a : Same H H1) : Kp S H H1 := fun q o _ e => a q o e
section
variable {X : Cx} {a b : Expr} {ta tb : TE} {pos : Pos}
theorem ixl (ha : PE X a ta) (hb : PE X b tb) (hs : PlainIx b := by exact fun _ _ => rfl) : PE X (.Subscript a b pos) (tOp (rIxL X.K) ta tb) := pe_ix ix_list ha hb hs
theorem ixt (ha : PE X a ta) (hb : PE X b tb) (hs : PlainIx b := by exact fun _ _ => rfl) : PE X (.Subscript a b pos) (tOp (rIxT X.K) ta tb) := pe_ix ix_tup ha hb hs
def rGetL (K : PySem.W.Frag) : V → V → Hp → VK → Prop := fun x y H Q => ∃ (p : Addr) (xs : List V) (i : Nat) (v : V), x = .ref p ∧ y = .int i ∧ SqL K H p xs ∧ xs[i]? = some v ∧ Q v H
theorem get_list : PGet X (rGetL X.K) := by
  intro pins s σ H o i ov iv Q I ro ri h
  obtain ⟨p, xs, j, v, rfl, rfl, hq, he, q⟩ := h
  cases ro
  obtain ⟨t, rfl⟩ := ri
  obtain ⟨its, r, pl, hz⟩ := I.list hq
  obtain ⟨w, ew, rw'⟩ := r.get he
  have hl := r.length
  have hn := line63
  have hj : j < its.length := (List.getElem?_eq_some_iff.mp ew).1
  exact wpAny_getItem_list pl.isList (by omega) (by omega) (by simpa using ew) ⟨v, H, I, rw', q⟩
end
/-- the built-ins that the module leaves as they are -/
structure Bt (mg : Str → Option Value) : Prop where
  int : mg "int" = none
  len : mg "len" = none
  abs : mg "abs" = none
  list : mg "list" = none
  str : mg "str" = none
  range : mg "range" = none
  enumerate : mg "enumerate" = none
  isinstance : mg "isinstance" = none
  tuple : mg "tuple" = none
  set : mg "set" = none
  all : mg "all" = none
  any : mg "any" = none
  max : mg "max" = none
  min : mg "min" = none
  sorted : mg "sorted" = none
  bool : mg "bool" = none
theorem str_int_none : bootBuiltins "int" = some (.type "int") := by decide +kernel
theorem boot_abs' : bootBuiltins "abs" = some (.builtin "abs") := by decide +kernel
theorem boot_list' : bootBuiltins "list" = some (.type "list") := by decide +kernel

/-! ### the bag -/
def BagAt (H : Hp) (b : Addr) (n : Int) : Prop := ∃ d x c : Int, H b = some (.lst [.int d, .int x, .int c]) ∧ 0 ≤ d ∧ 0 ≤ x ∧ x < 4611686018427387904 ∧ 0 ≤ c ∧ c ≤ n
theorem BagAt.kp {S : List Addr} {H H' : Hp} {b : Addr} {n : Int} (h : BagAt H b n) (k : Kp S H H') (hb : b ∉ S) : BagAt H' b n := by
  obtain ⟨d, x, c, h1, h2⟩ := h
  exact ⟨d, x, c, k _ _ hb h1, h2⟩
theorem BagAt.up {H : Hp} {b : Addr} {n m : Int} (h : BagAt H b n) (k : n ≤ m) : BagAt H b m := by
  obtain ⟨d, x, c, h1, h2, h3, h4, h5, h6⟩ := h
  exact ⟨d, x, c, h1, h2, h3, h4, h5, by omega⟩
def spBag (K : PySem.W.Frag) : Sp := fun vs H Q _ => ∃ (a : Addr) (ns : List Int) (i : Int), vs = [.ref a, .int i] ∧ SqL K H a (ns.map V.int) ∧ 0 ≤ i ∧ i ≤ 3 ∧ ∀ (H' : Hp) (b : Addr), Kp [] H H' → H b = none → BagAt H' b 0 → Q (.ref b) H'
def spTake : Sp := fun vs H Q _ => ∃ (b : Addr) (m n : Int), vs = [.ref b, .int m] ∧ BagAt H b n ∧ n < 1000000 ∧ 0 < m ∧ m < 2 ^ 200 ∧ ∀ (H' : Hp) (r : Int), Kp [b] H H' → BagAt H' b (n + 1) → 0 ≤ r → r < m → Q (.int r) H'
def spOf (K : PySem.W.Frag) : Sp := fun vs H Q _ => ∃ (b l : Addr) (n : Int) (xs : List V), vs = [.ref b, .ref l] ∧ BagAt H b n ∧ n < 1000000 ∧ H l = some (.lst xs) ∧ 0 < xs.length ∧ xs.length < 1000 ∧ l ≠ b ∧ ∀ (H' : Hp) (i : Nat) (x : V), Kp [b] H H' → BagAt H' b (n + 1) → xs[i]? = some x → Q x H'
def spWorth : Sp := fun vs H Q _ => ∃ (b : Addr) (n : Int), vs = [.ref b] ∧ BagAt H b n ∧ n < 999998 ∧ ∀ (H' : Hp) (r : Int), Kp [b] H H' → BagAt H' b (n + 2) → -10 ^ 29 ≤ r → r ≤ 10 ^ 29 → Q (.int r) H'
section
variable {P : Program} {w : World} {K : PySem.W.Frag} {mg : Str → Option Value} {base : Heap}
abbrev sBag : Stmt := (top 19)
abbrev sTake : Stmt := (top 20)
abbrev sOf : Stmt := (top 21)
theorem scBag : FnScope ["_law_script", "_law_at", "_law_cell", "_law_digits"] ["_law_script", "_law_at"] (defScope sBag) := ⟨rfl, rfl, rfl, by decide +kernel, rfl, by decide +kernel, by decide +kernel⟩
theorem scTake : FnScope ["_law_bag_here", "_law_many", "_law_digit", "_law_mixed"] ["_law_bag_here", "_law_many"] (defScope sTake) := ⟨rfl, rfl, rfl, by decide +kernel, rfl, by decide +kernel, by decide +kernel⟩
theorem scOf : FnScope ["_law_bag_here", "_law_some"] ["_law_bag_here", "_law_some"] (defScope sOf) := ⟨rfl, rfl, rfl, by decide +kernel, rfl, by decide +kernel, by decide +kernel⟩
/-- the def's name in the module, and its object -/
structure At (K : PySem.W.Frag) (mg : Str → Option Value) (x : Str) (f : Addr) : Prop where
  g : mg x = some (.ref f)
  k : PySem.W.keepIn K (.ref f) = true
theorem ok_bag {f : Addr} {fd : FuncData} (F : Fun K "_law_bag" "_law_bag" sBag f fd) (B : Bt mg) : FnOk P w K mg base CX0 1 f fd ["_law_script", "_law_at"] (spBag K) := by
  refine F.ok scBag (fun vs H Q E h => ?_) (fun cdv A outer s H vs Q E hr h => ?_)
  · obtain ⟨a, ns, i, rfl, _⟩ := h
    rfl
  · obtain ⟨a, ns, i, rfl, hS, hi0, hi3, k⟩ := h
    have nd := scBag.nd
    refine ⟨_, C8.pss_cut (ps_set (i := 2) nd rfl (Or.inl rfl) (pe_ifExp (pt_cmpR op_lt (pv 1) (pe_callB call_len (by rfl) B.len PySem.boot_len (pa_cons (pv 0) pa_nil)) (nomark _)) (ixl (pv 0) (pv 1)) pe_int))
      (C8.pss_cut (ps_set (i := 3) nd rfl (Or.inl rfl) (pe_ifExp (pt_cmpR op_ge (pe_callB call_abs (by rfl) B.abs boot_abs' (pa_cons (pv 2) pa_nil)) (pe_op op_pow pe_int pe_int) (nomark _)) (pe_callB call_abs (by rfl) B.abs boot_abs' (pa_cons (pv 2) pa_nil)) pe_int))
      (pss_one (ps_ret (pe_lst (pa_cons (pv 3) (pa_cons (pe_op op_add (pe_op op_add (pe_op op_mod (pe_callTy call_int1 (by rfl) B.int str_int_none (pa_cons (pv 2) pa_nil)) pe_int) (pe_op op_mul pe_int (pv 1))) pe_int) (pa_cons pe_int pa_nil))))))), ?_⟩
    refine ⟨fun σ' H' => ∃ z : Int, σ' = [some (.ref a), some (.int i), some (.int z), none] ∧ H' = H, ?_, ?_⟩
    · refine ⟨_, rfl, _, rfl, _, _, rfl, .inl ⟨_, hS, rfl⟩, _, _, rfl, rfl, _, rfl, ?_⟩
      refine ite2 (fun e => ?_) (fun e => ⟨0, rfl, rfl⟩)
      obtain ⟨j, rfl⟩ := Int.eq_ofNat_of_zero_le hi0
      have hj : j < ns.length := by
        have h2 : (j : Int) < ((ns.map V.int).length : Int) := of_decide_eq_true e
        rw [List.length_map] at h2
        omega
      exact ⟨_, rfl, _, rfl, a, _, _, V.int ns[j], rfl, rfl, hS, atI_nat (by rw [List.getElem?_map, List.getElem?_eq_getElem hj]; rfl), ns[j], rfl, rfl⟩
    · rintro σ' H' ⟨z, rfl, rfl⟩
      refine ⟨fun σ' H'' => ∃ y : Int, 0 ≤ y ∧ σ' = [some (.ref a), some (.int i), some (.int z), some (.int y)] ∧ H'' = H', ?_, ?_⟩
      · refine ⟨_, rfl, _, rfl, _, _, rfl, rfl, ⟨by decide, by decide, by decide⟩, _, _, rfl, rfl, _, rfl, ?_⟩
        refine ite2 (fun e => ⟨_, rfl, _, rfl, _, ?_, rfl, rfl⟩) (fun e => ⟨0, by decide, rfl, rfl⟩)
        split <;> omega
      · rintro σ' H'' ⟨y, hy, rfl, rfl⟩
        refine ⟨_, rfl, _, rfl, .inl ⟨_, rfl, _, _, rfl, rfl, (by decide : (0 : Int) < 2305843009213693951), _, rfl, _, _, rfl, rfl, .inl ⟨by decide, by decide⟩, _, _, rfl, rfl, _, _, rfl, rfl, (by show 3 ≤ sizeLine; decide), fun b hb => ?_⟩⟩
        have h1 : 0 ≤ z % 2305843009213693951 := Int.emod_nonneg _ (by decide)
        have h2 : z % 2305843009213693951 < 2305843009213693951 := Int.emod_lt_of_pos _ (by decide)
        exact k _ b (Kp.new hb) hb ⟨y, _, 0, upd_same, hy, by omega, by omega, by decide, by decide⟩
theorem ok_take {f : Addr} {fd : FuncData} (F : Fun K "_law_take" "_law_take" sTake f fd) (B : Bt mg) : FnOk P w K mg base CX0 1 f fd ["_law_bag_here", "_law_many"] spTake := by
  refine F.ok scTake (fun vs H Q E h => ?_) (fun cdv A outer s H vs Q E hr h => ?_)
  · obtain ⟨b, m, n, rfl, _⟩ := h
    rfl
  · obtain ⟨b, m, n, rfl, hB, hn, hm, hm2, k⟩ := h
    have nd := scTake.nd
    refine ⟨_, pss_cons (ps_if (pt_cmpR op_gt (ixl (pv 0) pe_int) pe_int (nomark _))
        (pss_cons (ps_set (i := 2) nd rfl (Or.inl rfl) (pe_op op_mod (pe_callTy call_int1 (by rfl) B.int str_int_none (pa_cons (ixl (pv 0) pe_int) pa_nil)) (pv 1)))
          (pss_cons (ps_asg (pe_op op_fdivW (ixl (pv 0) pe_int) (pv 1)) (pg_sub (pv 0) pe_int set_list)) (pss_one (ps_ret (pv 2))))) pss_nil)
      (pss_cons (ps_asg (pe_op op_add (ixl (pv 0) pe_int) pe_int) (pg_sub (pv 0) pe_int set_list))
      (pss_cons (ps_set (i := 3) nd rfl (Or.inl rfl) (pe_op op_mod (pe_callTy call_int1 (by rfl) B.int str_int_none (pa_cons (pe_op op_pow (pe_op op_add (ixl (pv 0) pe_int) (pe_op op_mul pe_int (ixl (pv 0) pe_int))) pe_int) pa_nil)) pe_int))
      (pss_cons (ps_set (i := 3) nd rfl (Or.inl rfl) (pe_op op_mod (pe_callTy call_int1 (by rfl) B.int str_int_none (pa_cons (pe_op op_pow (pe_op op_add (pv 3) (pe_op op_mul pe_int (ixl (pv 0) pe_int))) pe_int) pa_nil)) pe_int))
      (pss_one (ps_ret (pe_op op_mod (pe_callTy call_int1 (by rfl) B.int str_int_none (pa_cons (pe_op op_fdiv (pv 3) pe_int) pa_nil)) (pv 1))))))), ?_⟩
    obtain ⟨d, x, c, hb, hd, hx, hx2, hc, hc2⟩ := hB
    refine ⟨_, rfl, b, _, _, _, rfl, rfl, SqL.of hb, rfl, _, _, rfl, rfl, _, rfl, ?_⟩
    refine ite2 (fun e => ?_) (fun e => ?_)
    · refine ⟨_, rfl, b, _, _, _, rfl, rfl, SqL.of hb, rfl, .inl ⟨_, rfl, _, rfl, _, _, rfl, rfl, hm, ?_⟩⟩
      refine ⟨_, rfl, b, _, _, _, rfl, rfl, SqL.of hb, rfl, _, rfl, _, _, rfl, rfl, wide_div (b := 200) hm (by omega) (by decide) (by decide), _, rfl, b, _, _, 0, rfl, rfl, hb, rfl, ?_⟩
      refine ⟨_, rfl, ?_⟩
      exact k _ _ (Kp.put (by simp)) ⟨d / m, x, c, upd_same, Int.ediv_nonneg hd (by omega), hx, hx2, hc, by omega⟩ (Int.emod_nonneg _ (by omega)) (Int.emod_lt_of_pos _ hm)
    · refine ⟨_, rfl, b, _, _, _, rfl, rfl, SqL.of hb, rfl, _, _, rfl, rfl, _, rfl, b, _, _, 2, rfl, rfl, hb, rfl, ?_⟩
      have hb2 : ∀ z : Int, upd H b (.lst (List.set [V.int d, V.int x, V.int c] 2 (.int z))) b = some (.lst [.int d, .int x, .int z]) := fun z => upd_same
      have hb3 := hb2 (c + 1)
      have k1 : Kp [b] H (upd H b (.lst (List.set [V.int d, V.int x, V.int c] 2 (.int (c + 1))))) := Kp.put (by simp)
      obtain ⟨H1, e1⟩ : ∃ H1, upd H b (.lst (List.set [V.int d, V.int x, V.int c] 2 (.int (c + 1)))) = H1 := ⟨_, rfl⟩
      rw [e1] at hb3 k1
      clear hb2
      rw [e1]
      refine ⟨_, rfl, b, _, _, _, rfl, rfl, SqL.of hb3, rfl, _, rfl, b, _, _, _, rfl, rfl, SqL.of hb3, rfl, _, _, rfl, rfl, .inl ⟨by decide, by decide⟩, _, _, rfl, rfl, _, _, rfl, rfl, ⟨by decide, by decide, by omega⟩, .inl ⟨_, rfl, _, _, rfl, rfl, (by decide : (0 : Int) < 2305843009213693921), ?_⟩⟩
      obtain ⟨y, hy⟩ : ∃ y, (x + 32452867 * (c + 1)) ^ (3 : Int).toNat % 2305843009213693921 = y := ⟨_, rfl⟩
      have y0 : 0 ≤ y := by rw [← hy]; exact Int.emod_nonneg _ (by decide)
      have y1 : y < 2305843009213693921 := by rw [← hy]; exact Int.emod_lt_of_pos _ (by decide)
      refine ⟨_, rfl, _, rfl, b, _, _, _, rfl, rfl, SqL.of hb3, rfl, _, _, rfl, rfl, .inl ⟨by decide, by decide⟩, _, _, rfl, rfl, _, _, rfl, rfl, ⟨by decide, by decide, by omega⟩, .inl ⟨_, rfl, _, _, rfl, rfl, (by decide : (0 : Int) < 2305843009213693951), ?_⟩⟩
      obtain ⟨z, hz⟩ : ∃ z, (y + 982451653 * (c + 1)) ^ (2 : Int).toNat % 2305843009213693951 = z := ⟨_, rfl⟩
      refine ⟨_, rfl, _, _, rfl, rfl, ⟨by decide, by decide⟩, .inl ⟨_, rfl, _, rfl, _, _, rfl, rfl, hm, ?_⟩⟩
      exact k _ _ k1 ⟨d, x, c + 1, hb3, hd, hx, hx2, by omega, by omega⟩ (Int.emod_nonneg _ (by omega)) (Int.emod_lt_of_pos _ hm)
theorem ok_of {f fT : Addr} {fd dT : FuncData} (F : Fun K "_law_of" "_law_of" sOf f fd) (B : Bt mg) (aT : At K mg "_law_take" fT) (bT : Binds K dT ["_law_bag_here", "_law_many"] []) (oT : FnOk P w K mg base CX0 1 fT dT ["_law_bag_here", "_law_many"] spTake) :
    FnOk P w K mg base CX0 2 f fd ["_law_bag_here", "_law_some"] (spOf K) := by
  refine F.ok scOf (fun vs H Q E h => ?_) (fun cdv A outer s H vs Q E hr h => ?_)
  · obtain ⟨b, l, n, xs, rfl, _⟩ := h
    rfl
  · obtain ⟨b, l, n, xs, rfl, hB, hn, hl, h0, hlen, ne, k⟩ := h
    have nd := scOf.nd
    refine ⟨_, pss_one (ps_ret (ixl (pv 1) (pe_call oT hr (by rfl) aT.g aT.k bT .nil pass0 (pa_cons (pv 0) (pa_cons (pe_callB call_len (by rfl) B.len PySem.boot_len (pa_cons (pv 1) pa_nil)) pa_nil))))), ?_⟩
    have big : ((1000 : Nat) : Int) < 2 ^ 200 := by decide
    refine ⟨_, rfl, _, rfl, _, rfl, _, _, rfl, .inl ⟨_, SqL.of hl, rfl⟩, b, _, n, rfl, hB, hn, by omega, ?_, fun H' r kp hB' r0 r1 => ?_⟩
    · omega
    · obtain ⟨j, rfl⟩ := Int.eq_ofNat_of_zero_le r0
      have hj : j < xs.length := by omega
      exact ⟨l, xs, j, xs[j], rfl, rfl, SqL.of (kp _ _ (by simpa using ne) hl), atI_nat (List.getElem?_eq_getElem hj), k H' j _ kp hB' (List.getElem?_eq_getElem hj)⟩
end
end My

set_option Elab.async false
set_option linter.all false
set_option maxRecDepth 100000
set_option maxHeartbeats 4000000
/-! Q2: what is handed to NoName, and copies of it. -/
namespace My
open PySem PySem.Spec PyProof.Rows L2
/-- a value that is no cell's name: None, an int, a bool, a text; a tuple or a list of one text -/
inductive Fld where
  | non | int (i : Int) | bl (b : Bool) | str (x : Str) | tup (x : Str) | lst (x : Str)
def FAt (H : Hp) : Fld → V → Prop
  | .non, v => v = .non
  | .int i, v => v = .int i
  | .bl b, v => v = .bl b
  | .str x, v => v = .str x ∧ PyData.strOk x = true
  | .tup x, v => PyData.strOk x = true ∧ ∃ p, v = .ref p ∧ H p = some (.tup [.str x])
  | .lst x, v => PyData.strOk x = true ∧ ∃ p, v = .ref p ∧ H p = some (.lst [.str x])
def Fld.data : Fld → PyData
  | .non => .none
  | .int i => .int i
  | .bl b => .bool b
  | .str x => .str x
  | .tup x => .tuple [.str x]
  | .lst x => .list [.str x]
theorem Fld.dp {K : PySem.W.Frag} {H : Hp} : ∀ {f : Fld} {v : V}, FAt H f v → Dp K H v f.data
  | .non, _, h => by cases h; exact .non
  | .int i, _, h => by cases h; exact .int i
  | .bl b, _, h => by cases h; exact .bl b
  | .str x, _, h => by cases h.1; exact .str x
  | .tup x, _, ⟨_, p, e, hp⟩ => by
    subst e
    exact .tup (SqT.of hp) (.cons (.str _) .nil)
  | .lst x, _, ⟨_, p, e, hp⟩ => by
    subst e
    exact .lst (SqL.of hp) (.cons (.str _) .nil)
theorem Fld.shaped {H : Hp} : ∀ {f : Fld} {v : V}, FAt H f v → SeqAt.shaped f.data = true
  | .non, _, _ => by decide
  | .int _, _, _ => by unfold SeqAt.shaped Fld.data; simp [PyData.canLay0, PyData.depth]
  | .bl _, _, _ => by unfold SeqAt.shaped Fld.data; simp [PyData.canLay0, PyData.depth]
  | .str _, _, h => by unfold SeqAt.shaped Fld.data; simp [PyData.canLay0, PyData.depth, h.2]
  | .tup _, _, h => by unfold SeqAt.shaped Fld.data; simp [PyData.canLay0, PyData.canLayAll0, PyData.depth, PyData.depthAll, h.1]
  | .lst _, _, h => by unfold SeqAt.shaped Fld.data; simp [PyData.canLay0, PyData.canLayAll0, PyData.depth, PyData.depthAll, h.1]
theorem Fld.eqv (f : Fld) : PyData.eqv f.data f.data = true := by
  cases f <;> simp [Fld.data, PyData.eqv, PyData.eqvAll]
theorem FAt.same {H H' : Hp} (s : Kp [] H H') : ∀ {f : Fld} {v : V}, FAt H f v → FAt H' f v
  | .non, _, h => h
  | .int _, _, h => h
  | .bl _, _, h => h
  | .str _, _, h => h
  | .tup _, _, ⟨o, p, e, hp⟩ => ⟨o, p, e, s _ _ (by simp) hp⟩
  | .lst _, _, ⟨o, p, e, hp⟩ => ⟨o, p, e, s _ _ (by simp) hp⟩
def Flat (v : V) : Prop := v = .non ∨ (∃ i, v = .int i) ∨ (∃ x, v = .str x) ∨ ∃ b, v = .bl b
/-- copied(v), one level more: a list's or tuple's entry is copied too -/
def spCp (deep : Prop) : Sp := fun vs H Q _ => ∃ v : V, vs = [v] ∧ ((Flat v ∧ Q v H) ∨ (deep ∧ ∃ (p : Addr) (x : Str), v = .ref p ∧
  ((H p = some (.tup [.str x]) ∧ ∀ H' q, Kp [] H H' → H' q = some (.tup [.str x]) → Q (.ref q) H') ∨ (H p = some (.lst [.str x]) ∧ ∀ H' q, Kp [] H H' → H' q = some (.lst [.str x]) → Q (.ref q) H'))))
def spCopy : Sp := fun vs H Q _ => ∃ (v : V) (f : Fld), vs = [v] ∧ FAt H f v ∧ ∀ H' v', Kp [] H H' → FAt H' f v' → Q v' H'
section
variable {P : Program} {w : World} {K : PySem.W.Frag} {mg : Str → Option Value} {base : Heap}
theorem boot_isi' : bootBuiltins "isinstance" = some (.builtin "isinstance") := by decide +kernel
theorem boot_tup' : bootBuiltins "tuple" = some (.type "tuple") := by decide +kernel
theorem tyL {X : Cx} {pos : Pos} (hg : Gl X "list") (hm : X.mg "list" = none) : PE X (.Name "list" pos) (tC (.ty "list")) := pe_bltn hg hm boot_list' rfl
theorem tyT {X : Cx} {pos : Pos} (hg : Gl X "tuple") (hm : X.mg "tuple" = none) : PE X (.Name "tuple" pos) (tC (.ty "tuple")) := pe_bltn hg hm boot_tup' rfl
abbrev sCopied : Stmt := (top 2)
theorem scCopied : FnScope ["value", "item"] ["value"] (defScope sCopied) := ⟨rfl, rfl, rfl, by decide +kernel, rfl, by decide +kernel, by decide +kernel⟩
theorem Flat.ty {K : PySem.W.Frag} {H : Hp} {v : V} (h : Flat v) : ∃ t : String, TyX K H v (.type t) ∧ PySem.W.kitOne K (.type t) (.type "list") = some false ∧ PySem.W.kitOne K (.type t) (.type "tuple") = some false := by
  rcases h with rfl | ⟨i, rfl⟩ | ⟨x, rfl⟩ | ⟨b, rfl⟩
  · exact ⟨_, .base .non, kit_ty (by decide +kernel), kit_ty (by decide +kernel)⟩
  · exact ⟨_, .base (.int i), kit_ty (by decide +kernel), kit_ty (by decide +kernel)⟩
  · exact ⟨_, .base (.str x), kit_ty (by decide +kernel), kit_ty (by decide +kernel)⟩
  · exact ⟨_, .base (.bl b), kit_ty (by decide +kernel), kit_ty (by decide +kernel)⟩
theorem cp_step {f : Addr} {fd : FuncData} (F : Fun K "copied" "copied" sCopied f fd) (B : Bt mg) (aC : At K mg "copied" f) (bC : Binds K fd ["value"] []) {k : Nat} {sp : Sp} (deep : Prop) (oR : FnOk P w K mg base CX0 k f fd ["value"] sp)
    (hin : deep → ∀ v H Q E, Flat v → Q v H → sp [v] H Q E) : FnOk P w K mg base CX0 (k + 1) f fd ["value"] (spCp deep) := by
  refine F.ok scCopied (fun vs H Q E h => ?_) (fun cdv A outer s H vs Q E hr h => ?_)
  · obtain ⟨v, rfl, _⟩ := h
    rfl
  · obtain ⟨v, rfl, h⟩ := h
    have nd := scCopied.nd
    have hz := sizeLine_eq
    refine ⟨_, pss_cons (ps_if (pt_val (pe_callB call_isi (by rfl) B.isinstance boot_isi' (pa_cons (pv 0) (pa_cons (tyL (by rfl) B.list) pa_nil))))
        (pss_one (ps_ret (pe_lc (own := [("item", 1)]) (g := gName 1) (tt := tYes) rfl nd (pi_list (pv 0)) (blkOk_by (own := [("item", 1)]) (N := ["value", "item"]) (sc := defScope sCopied) (by decide +kernel)) (fun _ _ _ _ _ => pg_name (i := 1) nd rfl (Or.inl rfl)) (fun _ _ _ _ _ => pts_nil)
          (fun _ _ _ _ _ => pe_call oR hr (by rfl) aC.g aC.k bC .nil pass0 (pa_cons (pv 1) pa_nil))))) pss_nil)
      (pss_cons (ps_if (pt_val (pe_callB call_isi (by rfl) B.isinstance boot_isi' (pa_cons (pv 0) (pa_cons (tyT (by rfl) B.tuple) pa_nil))))
        (pss_one (ps_ret (pe_callTy call_tuple_of (by rfl) B.tuple boot_tup' (pa_cons (pe_lc (own := [("item", 1)]) (g := gName 1) (tt := tYes) rfl nd (pi_tup (pv 0)) (blkOk_by (own := [("item", 1)]) (N := ["value", "item"]) (sc := defScope sCopied) (by decide +kernel)) (fun _ _ _ _ _ => pg_name (i := 1) nd rfl (Or.inl rfl)) (fun _ _ _ _ _ => pts_nil)
          (fun _ _ _ _ _ => pe_call oR hr (by rfl) aC.g aC.k bC .nil pass0 (pa_cons (pv 1) pa_nil))) pa_nil)))) pss_nil) (pss_one (ps_ret (pv 0)))), ?_⟩
    rcases h with ⟨hf, q⟩ | ⟨hd, p, x, rfl, ⟨hp, q⟩ | ⟨hp, q⟩⟩
    · obtain ⟨t, ty, k1, k2⟩ := hf.ty (K := K) (H := H)
      refine ⟨_, rfl, _, _, _, _, _, rfl, .ty _, ty, k1, _, rfl, ?_⟩
      refine iteF ?_
      refine ⟨_, rfl, _, _, _, _, _, rfl, .ty _, ty, k2, _, rfl, ?_⟩
      exact iteF ⟨_, rfl, q⟩
    · refine ⟨_, rfl, _, _, _, _, _, rfl, .ty _, .base (.tup hp), kit_ty (r := false) (by decide +kernel), _, rfl, ?_⟩
      refine iteF ?_
      refine ⟨_, rfl, _, _, _, _, _, rfl, .ty _, .base (.tup hp), kit_ty (r := true) (by decide +kernel), _, rfl, ?_⟩
      refine iteT ?_
      refine ⟨_, rfl, p, rfl, ⟨_, SqT.of hp⟩, fun D hD => lc_tup (K := K) (a := p) (xs := [.str x]) (fun j H' => Kp [] H H' ∧ ((j = 0 ∧ H' D = some (.lst [])) ∨ (j = 1 ∧ H' D = some (.lst [.str x])))) ⟨Kp.new hD, .inl ⟨rfl, upd_same⟩⟩ (fun j H' _ e => SqT.of (e.1 _ _ (by simp) hp)) (fun j y H' hx => ?_) (fun H' e => ?_)⟩
      · rintro ⟨kp, e⟩
        have keep : ∀ {o : HO}, Kp [] H (upd H' D o) := fun {o} b u nb e => by rw [upd_ne (fun z => by rw [z, hD] at e; cases e)]; exact kp b u nb e
        match j, hx with
        | 0, hx =>
          cases hx
          rcases e with ⟨_, e⟩ | ⟨z, _⟩
          · exact ⟨rfl, _, rfl, hin hd _ _ _ _ (.inr (.inr (.inl ⟨_, rfl⟩))) ⟨[], e, (by show 0 < sizeLine; omega), keep, .inr ⟨rfl, upd_same⟩⟩⟩
          · cases z
        | j + 1, hx => cases hx
      · obtain ⟨kp, ⟨z, _⟩ | ⟨_, e1⟩⟩ := e
        · cases z
        · exact ⟨D, _, rfl, .inl ⟨SqL.of e1, fun t ht => q _ t (kp.trans (Kp.new ht)) upd_same⟩⟩
    · refine ⟨_, rfl, _, _, _, _, _, rfl, .ty _, .base (.lst hp), kit_ty (r := true) (by decide +kernel), _, rfl, ?_⟩
      refine iteT ?_
      refine ⟨_, rfl, p, rfl, ⟨_, SqL.of hp⟩, fun D hD => lc_list (K := K) (a := p) (xs := [.str x]) (fun j H' => Kp [] H H' ∧ ((j = 0 ∧ H' D = some (.lst [])) ∨ (j = 1 ∧ H' D = some (.lst [.str x])))) ⟨Kp.new hD, .inl ⟨rfl, upd_same⟩⟩ (fun j H' _ e => SqL.of (e.1 _ _ (by simp) hp)) (fun j y H' hx => ?_) (fun H' e => ?_)⟩
      · rintro ⟨kp, e⟩
        have keep : ∀ {o : HO}, Kp [] H (upd H' D o) := fun {o} b u nb e => by rw [upd_ne (fun z => by rw [z, hD] at e; cases e)]; exact kp b u nb e
        match j, hx with
        | 0, hx =>
          cases hx
          rcases e with ⟨_, e⟩ | ⟨z, _⟩
          · exact ⟨rfl, _, rfl, hin hd _ _ _ _ (.inr (.inr (.inl ⟨_, rfl⟩))) ⟨[], e, (by show 0 < sizeLine; omega), keep, .inr ⟨rfl, upd_same⟩⟩⟩
          · cases z
        | j + 1, hx => cases hx
      · obtain ⟨kp, ⟨z, _⟩ | ⟨_, e1⟩⟩ := e
        · cases z
        · exact q _ D kp e1
theorem ok_copied {f : Addr} {fd : FuncData} (F : Fun K "copied" "copied" sCopied f fd) (B : Bt mg) (aC : At K mg "copied" f) (bC : Binds K fd ["value"] []) : FnOk P w K mg base CX0 3 f fd ["value"] spCopy := by
  have o0 : FnOk P w K mg base CX0 1 f fd ["value"] (fun _ _ _ _ => False) := ⟨fun _ _ _ _ h => h.elim, fun _ _ _ _ _ _ _ _ _ _ _ _ _ h => h.elim⟩
  have o1 := cp_step F B aC bC False o0 fun z => z.elim
  have o2 := cp_step F B aC bC True o1 fun _ v H Q E h q => ⟨v, rfl, .inl ⟨h, q⟩⟩
  refine o2.imp fun vs H Q E ⟨v, f, e, h, q⟩ => ⟨v, e, ?_⟩
  cases f with
  | non => exact .inl ⟨.inl h, q H v (Kp.refl H) h⟩
  | int i => exact .inl ⟨.inr (.inl ⟨_, h⟩), q H v (Kp.refl H) h⟩
  | bl b => exact .inl ⟨.inr (.inr (.inr ⟨_, h⟩)), q H v (Kp.refl H) h⟩
  | str x => exact .inl ⟨.inr (.inr (.inl ⟨_, h.1⟩)), q H v (Kp.refl H) h⟩
  | tup x =>
    obtain ⟨ok, p, rfl, hp⟩ := h
    exact .inr ⟨True.intro, p, x, rfl, .inl ⟨hp, fun H' q' k e => q H' _ k ⟨ok, q', rfl, e⟩⟩⟩
  | lst x =>
    obtain ⟨ok, p, rfl, hp⟩ := h
    exact .inr ⟨True.intro, p, x, rfl, .inr ⟨hp, fun H' q' k e => q H' _ k ⟨ok, q', rfl, e⟩⟩⟩
end
end My

set_option Elab.async false
set_option linter.all false
set_option maxRecDepth 100000
set_option maxHeartbeats 4000000
/-! Q3: NoName made and raised. -/
namespace My
open PySem PySem.Spec PyProof.Rows L2
/-- C.__init__(self, v): the field f is a copy of v -/
def spIni (K : PySem.W.Frag) (f : Str) : Sp := fun vs H Q _ => ∃ (a C : Addr) (v : V) (fl : Fld), vs = [.ref a, v] ∧ XC K C ∧ PySem.W.findIn K (.ref C) f = some none ∧ H a = some (exo a C none) ∧ FAt H fl v ∧
  ∀ H' dx v', Kp [a] H H' → H dx = none → dx ≠ a → FAt H' fl v' → H' a = some (exo a C (some dx)) → H' dx = some (exd dx [(f, v')]) → Q .non H'
theorem FAt.but {H H' : Hp} {S : List Addr} (s : Kp S H H') (hS : ∀ x ∈ S, ∀ o, H x = some o → ∃ φ, o = .ext φ) : ∀ {f : Fld} {v : V}, FAt H f v → FAt H' f v
  | .non, _, h => h
  | .int _, _, h => h
  | .bl _, _, h => h
  | .str _, _, h => h
  | .tup _, _, ⟨o, p, e, hp⟩ => ⟨o, p, e, s _ _ (fun z => by obtain ⟨φ, w⟩ := hS _ z _ hp; cases w) hp⟩
  | .lst _, _, ⟨o, p, e, hp⟩ => ⟨o, p, e, s _ _ (fun z => by obtain ⟨φ, w⟩ := hS _ z _ hp; cases w) hp⟩
theorem back0 {H H' : Hp} {x : Addr} {S : List Addr} (k : Kp S H H') (hx : x ∉ S) (h : H' x = none) : H x = none := by
  cases e : H x with
  | none => rfl
  | some o => rw [k x o hx e] at h; cases h
/-- a class of errors with one field -/
structure Cl (P : Program) (w : World) (K : PySem.W.Frag) (mg : Str → Option Value) (base : Heap) (x f : Str) (C : Addr) : Prop where
  g : mg x = some (.ref C)
  t : XC K C
  no : PySem.W.findIn K (.ref C) f = some none
  ini : ∃ (fI : Addr) (fd : FuncData), PySem.W.findIn K (.ref C) "__init__" = some (some (.ref fI)) ∧ PySem.W.typeIn K (.ref fI) = some (.type "function") ∧ FnOk P w K mg base CX0 4 fI fd ["self", f] (spIni K f) ∧
    KBn K fd ["self", f] 2 [] (fun us ws => us ++ ws) (fun us ws => us ++ ws) ∧ KBn K fd ["self", f] 1 [f] (fun us ws => us ++ ws) (fun us ws => us ++ ws)
section
variable {P : Program} {w : World} {K : PySem.W.Frag} {mg : Str → Option Value} {base : Heap} {fC : Addr} {dC : FuncData}
theorem fun_kb {x qual : Str} {st : Stmt} {f : Addr} {fd : FuncData} {ps ks : List Str} {n : Nat} {g : {α : Type} → List α → List α → List α} (F : Fun K x qual st f fd) (hg : ∀ {vs zs : List V} {us ws : List Value}, Vals vs us → Vals zs ws → Vals (g vs zs) (g us ws))
    (h : ∀ (kV doc pm : Value) (an : Option Addr) (cdv ct : Value) (us ws : List Value), us.length = n → ws.length = ks.length → bindArgs (PySem.W.fnOf x qual (defArgs st) (defBody st) (defScope st) .none kV doc pm an cdv ct) ⟨us, ks.zip ws⟩ = pure (ps.zip (g us ws))) :
    KBn K fd ps n ks (fun us ws => g us ws) (fun us ws => g us ws) := by
  obtain ⟨oc, od, kV, doc, pm, an, cdv, ct, osl, rfl, lk, hcd⟩ := F.ex
  exact ⟨fun s us ws _ l1 l2 => .of_eq (h kV doc pm an cdv ct us ws l1 l2), fun a b => hg a b⟩
theorem ini_read {H : Hp} {f : Str} {a C : Addr} {v : V} {fl : Fld} {Q : VK} (T : XC K C) (hno : PySem.W.findIn K (.ref C) f = some none) (ha : H a = some (exo a C none)) (hF : FAt H fl v)
    (q : ∀ H' dx v', Kp [a] H H' → H dx = none → dx ≠ a → FAt H' fl v' → H' a = some (exo a C (some dx)) → H' dx = some (exd dx [(f, v')]) → Q .non H') {N : List Str} (hN : start N [.ref a, v] = [some (.ref a), some v]) :
    tXst K f (tVar 0) (tCall (dvs := []) spCopy (E := E0) (tCons (tVar 1) tNil)) { nx := fun _ H' => Q .non H', rt := Q } (start N [.ref a, v]) H := by
  rw [hN]
  refine ⟨_, rfl, v, fl, rfl, hF, fun H1 v' k1 hF1 => ⟨_, rfl, a, C, rfl, T, hno, .inl ⟨k1 _ _ (by simp) ha, fun dx hdx hne => ?_⟩⟩⟩
  have ne : a ≠ dx := hne.symm
  have k2 : Kp [a] H1 (upd (upd H1 dx (exd dx [(f, v')])) a (exo a C (some dx))) := fun b o nb e => by
    rw [upd_ne (fun z => nb (by rw [z]; simp)), upd_ne (ne_of_none e hdx)]
    exact e
  refine q _ dx v' ((k1.mono (by simp)).trans k2) (back0 k1 (by simp) hdx) hne (hF1.but k2 fun x hx o e => ?_) upd_same (by rw [upd_ne hne]; exact upd_same)
  rw [List.mem_singleton.mp hx, k1 _ _ (by simp) ha] at e
  cases e
  exact ⟨_, rfl⟩
abbrev sNoName : Stmt := (inClass (top 5) 0)
theorem scNoName : FnScope ["self", "name"] ["self", "name"] (defScope sNoName) := ⟨rfl, rfl, rfl, by decide +kernel, rfl, by decide +kernel, by decide +kernel⟩
theorem clNoName {C fI : Addr} {fd : FuncData} (F : Fun K "__init__" "NoName.__init__" sNoName fI fd) (FC : Fun K "copied" "copied" sCopied fC dC) (B : Bt mg) (aC : At K mg "copied" fC) (g : mg "NoName" = some (.ref C)) (t : XC K C) (no : PySem.W.findIn K (.ref C) "name" = some none)
    (iC : PySem.W.findIn K (.ref C) "__init__" = some (some (.ref fI))) (tI : PySem.W.typeIn K (.ref fI) = some (.type "function")) : Cl P w K mg base "NoName" "name" C := by
  have bC : Binds K dC ["value"] [] := FC.binds fun _ _ _ _ _ _ us hl => match us, hl with | [_], _ => rfl
  have oC : FnOk P w K mg base CX0 3 fC dC ["value"] spCopy := ok_copied FC B aC bC
  refine ⟨g, t, no, fI, fd, iC, tI, F.ok scNoName (fun vs H Q E h => ?_) (fun cdv A outer s H vs Q E hr h => ?_), fun_kb F (g := fun us ws => us ++ ws) (fun a b => a.append b) (fun _ _ _ _ _ _ us ws h1 h2 => match us, ws, h1, h2 with | [_, _], [], _, _ => rfl),
    fun_kb F (g := fun us ws => us ++ ws) (fun a b => a.append b) (fun _ _ _ _ _ _ us ws h1 h2 => match us, ws, h1, h2 with | [_], [_], _, _ => rfl)⟩
  · obtain ⟨a, C, v, fl, rfl, _⟩ := h
    rfl
  · obtain ⟨a, C, v, fl, rfl, T, hno, ha, hF, q⟩ := h
    exact ⟨_, pss_one (ps_xst (pv 0) (pe_call oC hr (by rfl) aC.g aC.k bC .nil pass0 (pa_cons (pv 1) pa_nil))), ini_read T hno ha hF q rfl⟩
end
/-- raise C(x) in the heap H1, H the entry's -/
theorem raise_read {CE : Addr} {H H1 : Hp} {E : XK} {f : Str} {fl : Fld} {x : V} {Kf : PySem.W.Frag} (t : XC Kf CE) (no : PySem.W.findIn Kf (.ref CE) f = some none) (hB : ∀ H' dd v, Kp [] H H' → H dd = none → H' dd = some (.xd [(f, v)]) → FAt H' fl v → E (.ref CE) (some dd) H') (k1 : Kp [] H H1)
    (hx : FAt H1 fl x) (a : Addr) (na : H1 a = none) :
    spIni Kf f [.ref a, x] (upd H1 a (exo a CE none)) (fun v H2 => v = .non ∧ ∃ (d : Addr) (fs : List (Str × V)), H2 a = some (exo a CE (some d)) ∧ H2 d = some (exd d fs) ∧ H1 d = none ∧ E (.ref CE) (some d) (upd (del H2 a) d (.xd fs))) (fun _ _ _ => False) := by
  refine ⟨a, CE, _, fl, rfl, t, no, upd_same, hx.same (Kp.new na), fun H2 dx v' k2 hd0 hda hF2 ha hd => ⟨rfl, dx, _, ha, hd, ?_, ?_⟩⟩
  · rw [upd_ne hda] at hd0; exact hd0
  · have hd1 : H1 dx = none := by rw [upd_ne hda] at hd0; exact hd0
    refine hB _ dx v' (fun c o _ e => ?_) (back0 k1 (by simp) hd1) upd_same (hF2.but (S := [a, dx]) (fun c o nc e => ?_) fun c hc o e => ?_)
    · have e1 := k1 c o (by simp) e
      have nca : c ≠ a := ne_of_none e1 na
      have ncd : c ≠ dx := ne_of_none e1 hd1
      rw [upd_ne ncd, del_ne nca]
      exact k2 c o (fun m => nca (List.mem_singleton.mp m)) (by rw [upd_ne nca]; exact e1)
    · have nca : c ≠ a := fun z => nc (by rw [z]; simp)
      have ncd : c ≠ dx := fun z => nc (by rw [z]; simp)
      rw [upd_ne ncd, del_ne nca]; exact e
    · simp only [List.mem_cons, List.mem_nil_iff, or_false] at hc
      rcases hc with rfl | rfl
      · rw [ha] at e; cases e; exact ⟨_, rfl⟩
      · rw [hd] at e; cases e; exact ⟨_, rfl⟩
end My

set_option Elab.async false
set_option linter.all false
set_option maxRecDepth 100000
set_option maxHeartbeats 4000000
/-! Q4: a desk on which cells alone stand: its floor. -/
namespace My
open PySem PySem.Spec PyProof.Rows L2
/-! what is never reached -/
def tDeadE : TE := fun _ _ _ => False
def tDeadT : TT := fun _ _ _ => False
def tDeadS : TS := fun _ _ _ => False
theorem pe_dead {X : Cx} {e : Expr} : PE X e tDeadE := ⟨fun _ _ _ _ _ _ h => (show False from h).elim⟩
theorem pt_dead {X : Cx} {e : Expr} : PT X e tDeadT := ⟨fun _ _ _ _ _ _ h => (show False from h).elim⟩
theorem pss_dead {X : Cx} {st : List Stmt} : PSs X st tDeadS := ⟨fun _ _ _ _ _ _ h => (show False from h).elim⟩
structure MO (P : Program) (w : World) (K : PySem.W.Frag) (mg : Str → Option Value) (base : Heap) (C : Addr) (m : Str) (k : Nat) (ps : List Str) (sp : Sp) (f : Addr) (fd : FuncData) : Prop where
  m : Meth K C m f
  b : Binds K fd ps []
  o : FnOk P w K mg base CX0 k f fd ps sp
/-- the classes of floors, desks and cells -/
structure FlT (K : PySem.W.Frag) (C : Addr) : Prop where
  cl : Cls K C
  no : ∀ f ∈ (["most_runs", "names", "cells", "sources", "effects", "log", "inmost", "batches", "turned"] : List Str), NoAttr K C f
structure DkT (K : PySem.W.Frag) (C : Addr) : Prop where
  cl : Cls K C
  no : NoAttr K C "_floor"
  con : ∃ u, Con K C "MOST_RUNS" (.int 100) u
structure CeT (K : PySem.W.Frag) (C : Addr) : Prop where
  cl : Cls K C
  no : ∀ f ∈ (["name", "_floor", "_now"] : List Str), NoAttr K C f
structure DA where
  d : Addr
  dx : Addr
  f : Addr
  fx : Addr
  nD : Addr
  cD : Addr
  sD : Addr
  eL : Addr
  lL : Addr
def floorF (nD cD sD eL lL tD : Addr) : List (Str × V) := [("most_runs", .int 100), ("names", .ref nD), ("cells", .ref cD), ("sources", .ref sD), ("effects", .ref eL), ("log", .ref lL), ("inmost", .non), ("batches", .int 0), ("turned", .ref tD)]
def cellF (z : Str) (f : Addr) (v : Int) : List (Str × V) := [("name", .str z), ("_floor", .ref f), ("_now", .int v)]
/-- a field that is set to a new object -/
theorem fstep {H Hk : Hp} {f fx p C : Addr} {fs : List (Str × V)} (fs' : List (Str × V)) (o : HO) (ok : Hk f = some (.ins C fx fs)) (kk : Kp [f] H Hk) (hp : Hk p = none) :
    upd Hk p o f = some (.ins C fx fs) ∧ ∃ H', upd (upd Hk p o) f (.ins C fx fs') = H' ∧ H' f = some (.ins C fx fs') ∧ Kp [f] H H' ∧ H' p = some o ∧ H p = none ∧ p ≠ f ∧ ∀ q u, q ≠ f → Hk q = some u → H' q = some u ∧ q ≠ p := by
  have ne : f ≠ p := ne_of_none ok hp
  have h0 : H p = none := by
    cases e : H p with
    | none => rfl
    | some u =>
      have := kk p u (fun z => ne (List.mem_singleton.mp z).symm) e
      rw [hp] at this; cases this
  refine ⟨by rw [upd_ne ne]; exact ok, _, rfl, upd_same, fun q u nq e => ?_, by rw [upd_ne ne.symm]; exact upd_same, h0, ne.symm, fun q u nq e => ?_⟩
  · have e1 := kk q u nq e
    rw [upd_ne (fun z => nq (by rw [z]; simp)), upd_ne (ne_of_none e1 hp)]
    exact e1
  · have n2 : q ≠ p := ne_of_none e hp
    exact ⟨by rw [upd_ne nq, upd_ne n2]; exact e, n2⟩
/-- a field that is set to what is no new object -/
theorem gstep {H Hk : Hp} {f fx C : Addr} {fs : List (Str × V)} (fs' : List (Str × V)) (kk : Kp [f] H Hk) (_ok : Hk f = some (.ins C fx fs)) :
    ∃ H', upd Hk f (.ins C fx fs') = H' ∧ H' f = some (.ins C fx fs') ∧ Kp [f] H H' ∧ ∀ q u, q ≠ f → Hk q = some u → H' q = some u := by
  refine ⟨_, rfl, upd_same, fun q u nq e => ?_, fun q u nq e => ?_⟩
  · rw [upd_ne (fun z => nq (by rw [z]; simp))]; exact kk q u nq e
  · rw [upd_ne nq]; exact e
section
variable {P : Program} {w : World} {K : PySem.W.Frag} {mg : Str → Option Value} {base : Heap} {FC DC CC : Addr}
abbrev sInitF : Stmt := (inClass (top 12) 0)
theorem scInitF : FnScope ["self", "most_runs"] ["self", "most_runs"] (defScope sInitF) := ⟨rfl, rfl, rfl, by decide +kernel, rfl, by decide +kernel, by decide +kernel⟩
def spInitF (FC : Addr) : Sp := fun vs H Q _ => ∃ (f fx : Addr), vs = [.ref f, .int 100] ∧ H f = some (.ins FC fx []) ∧ ∀ H' nD cD sD eL lL tD, Kp [f] H H' → (∀ x ∈ [nD, cD, sD, eL, lL, tD], H x = none) → [f, nD, cD, sD, eL, lL, tD].Nodup →
  H' f = some (.ins FC fx (floorF nD cD sD eL lL tD)) → H' nD = some (.dK []) → H' cD = some (.dK []) → H' sD = some (.dK []) → H' eL = some (.lst []) → H' lL = some (.lst []) → H' tD = some (.dK []) → Q .non H'
theorem ok_initF {f : Addr} {fd : FuncData} (F : Fun K "__init__" "Floor.__init__" sInitF f fd) (T : FlT K FC) : FnOk P w K mg base CX0 1 f fd ["self", "most_runs"] (spInitF FC) := by
  refine F.ok scInitF (fun vs H Q E h => ?_) (fun cdv A outer s H vs Q E hr h => ?_)
  · obtain ⟨f, fx, rfl, _⟩ := h
    rfl
  · obtain ⟨f, fx, rfl, hf, k⟩ := h
    have nd := scInitF.nd
    have hsl := sizeLine_eq
    refine ⟨_, pss_cons (ps_fld (pv 0) (pv 1) rfl) (pss_cons (ps_fld (pv 0) pe_dnewK rfl) (pss_cons (ps_fld (pv 0) pe_dnewK rfl) (pss_cons (ps_fld (pv 0) pe_dnewK rfl) (pss_cons (ps_fld (pv 0) (pe_lst pa_nil) rfl) (pss_cons (ps_fld (pv 0) (pe_lst pa_nil) rfl)
      (pss_cons (ps_fld (pv 0) pe_non rfl) (pss_cons (ps_fld (pv 0) pe_int rfl) (pss_one (ps_fld (pv 0) pe_dnewK rfl))))))))), ?_⟩
    refine ⟨_, rfl, _, rfl, f, FC, fx, _, rfl, hf, T.cl, T.no _ (by simp), (by show 0 < 1000; decide), ?_⟩
    obtain ⟨H1, e1, o1, k1, _⟩ := gstep (H := H) (putF "most_runs" (.int 100) []) (Kp.refl H) hf
    rw [e1]
    intro nD hn
    obtain ⟨o1', H2, e2, o2, k2, n2, fn, nf, st2⟩ := fstep (putF "names" (.ref nD) (putF "most_runs" (.int 100) [])) (.dK []) o1 k1 hn
    refine ⟨_, rfl, f, FC, fx, _, rfl, o1', T.cl, T.no _ (by simp), (by show 1 < 1000; decide), ?_⟩
    rw [e2]
    intro cD hc
    obtain ⟨o2', H3, e3, o3, k3, n3, fc, cf, st3⟩ := fstep (putF "cells" (.ref cD) (putF "names" (.ref nD) (putF "most_runs" (.int 100) []))) (.dK []) o2 k2 hc
    refine ⟨_, rfl, f, FC, fx, _, rfl, o2', T.cl, T.no _ (by simp), (by show 2 < 1000; decide), ?_⟩
    rw [e3]
    intro sD hs
    obtain ⟨o3', H4, e4, o4, k4, n4, fs, sf, st4⟩ := fstep (putF "sources" (.ref sD) (putF "cells" (.ref cD) (putF "names" (.ref nD) (putF "most_runs" (.int 100) [])))) (.dK []) o3 k3 hs
    refine ⟨_, rfl, f, FC, fx, _, rfl, o3', T.cl, T.no _ (by simp), (by show 3 < 1000; decide), ?_⟩
    rw [e4]
    refine ⟨(by show 0 ≤ sizeLine; omega), fun eL he => ?_⟩
    obtain ⟨o4', H5, e5, o5, k5, n5, fe, ef, st5⟩ := fstep (putF "effects" (.ref eL) (putF "sources" (.ref sD) (putF "cells" (.ref cD) (putF "names" (.ref nD) (putF "most_runs" (.int 100) []))))) (.lst []) o4 k4 he
    refine ⟨_, rfl, f, FC, fx, _, rfl, o4', T.cl, T.no _ (by simp), (by show 4 < 1000; decide), ?_⟩
    rw [e5]
    refine ⟨(by show 0 ≤ sizeLine; omega), fun lL hl => ?_⟩
    obtain ⟨o5', H6, e6, o6, k6, n6, fl, lf, st6⟩ := fstep (putF "log" (.ref lL) (putF "effects" (.ref eL) (putF "sources" (.ref sD) (putF "cells" (.ref cD) (putF "names" (.ref nD) (putF "most_runs" (.int 100) [])))))) (.lst []) o5 k5 hl
    refine ⟨_, rfl, f, FC, fx, _, rfl, o5', T.cl, T.no _ (by simp), (by show 5 < 1000; decide), ?_⟩
    rw [e6]
    refine ⟨_, rfl, f, FC, fx, _, rfl, o6, T.cl, T.no _ (by simp), (by show 6 < 1000; decide), ?_⟩
    obtain ⟨H7, e7, o7, k7, st7⟩ := gstep (putF "inmost" .non (putF "log" (.ref lL) (putF "effects" (.ref eL) (putF "sources" (.ref sD) (putF "cells" (.ref cD) (putF "names" (.ref nD) (putF "most_runs" (.int 100) []))))))) k6 o6
    rw [e7]
    refine ⟨_, rfl, f, FC, fx, _, rfl, o7, T.cl, T.no _ (by simp), (by show 7 < 1000; decide), ?_⟩
    obtain ⟨H8, e8, o8, k8, st8⟩ := gstep (putF "batches" (.int 0) (putF "inmost" .non (putF "log" (.ref lL) (putF "effects" (.ref eL) (putF "sources" (.ref sD) (putF "cells" (.ref cD) (putF "names" (.ref nD) (putF "most_runs" (.int 100) [])))))))) k7 o7
    rw [e8]
    intro tD ht
    obtain ⟨o8', H9, e9, o9, k9, n9, ft, tf, st9⟩ := fstep (putF "turned" (.ref tD) (putF "batches" (.int 0) (putF "inmost" .non (putF "log" (.ref lL) (putF "effects" (.ref eL) (putF "sources" (.ref sD) (putF "cells" (.ref cD) (putF "names" (.ref nD) (putF "most_runs" (.int 100) []))))))))) (.dK []) o8 k8 ht
    refine ⟨_, rfl, f, FC, fx, _, rfl, o8', T.cl, T.no _ (by simp), (by show 8 < 1000; decide), ?_⟩
    rw [e9]
    have a3 := st3 nD _ nf n2
    have a4 := st4 nD _ nf a3.1
    have a5 := st5 nD _ nf a4.1
    have a6 := st6 nD _ nf a5.1
    have a9 := st9 nD _ nf (st8 _ _ nf (st7 _ _ nf a6.1))
    have b4 := st4 cD _ cf n3
    have b5 := st5 cD _ cf b4.1
    have b6 := st6 cD _ cf b5.1
    have b9 := st9 cD _ cf (st8 _ _ cf (st7 _ _ cf b6.1))
    have c5 := st5 sD _ sf n4
    have c6 := st6 sD _ sf c5.1
    have c9 := st9 sD _ sf (st8 _ _ sf (st7 _ _ sf c6.1))
    have d6 := st6 eL _ ef n5
    have d9 := st9 eL _ ef (st8 _ _ ef (st7 _ _ ef d6.1))
    have g9 := st9 lL _ lf (st8 _ _ lf (st7 _ _ lf n6))
    refine k H9 nD cD sD eL lL tD k9 (fun x hx => ?_) ?_ o9 a9.1 b9.1 c9.1 d9.1 g9.1 n9
    · simp only [List.mem_cons, List.mem_nil_iff, or_false] at hx
      rcases hx with rfl | rfl | rfl | rfl | rfl | rfl
      · exact fn
      · exact fc
      · exact fs
      · exact fe
      · exact fl
      · exact ft
    · simp only [List.nodup_cons, List.mem_cons, List.mem_nil_iff, or_false, not_or, List.nodup_nil, and_true, not_false_eq_true]
      exact ⟨⟨nf.symm, cf.symm, sf.symm, ef.symm, lf.symm, tf.symm⟩, ⟨a3.2, a4.2, a5.2, a6.2, a9.2⟩, ⟨b4.2, b5.2, b6.2, b9.2⟩, ⟨c5.2, c6.2, c9.2⟩, ⟨d6.2, d9.2⟩, g9.2⟩
abbrev sPlace : Stmt := (inClass (top 12) 2)
theorem scPlace : FnScope ["self"] ["self"] (defScope sPlace) := ⟨rfl, rfl, rfl, by decide +kernel, rfl, by decide +kernel, by decide +kernel⟩
def spPlace (FC : Addr) : Sp := fun vs H Q _ => ∃ (f fx : Addr) (fs : List (Str × V)), vs = [.ref f] ∧ H f = some (.ins FC fx fs) ∧ fs.lookup ("inmost" : Str) = some V.non ∧ Q .non H
theorem ok_place {f : Addr} {fd : FuncData} (F : Fun K "check_place" "Floor.check_place" sPlace f fd) (T : FlT K FC) : FnOk P w K mg base CX0 1 f fd ["self"] (spPlace FC) := by
  refine F.ok scPlace (fun vs H Q E h => ?_) (fun cdv A outer s H vs Q E hr h => ?_)
  · obtain ⟨f, fx, fs, rfl, _⟩ := h
    rfl
  · obtain ⟨f, fx, fs, rfl, hf, hl, q⟩ := h
    refine ⟨_, pss_one (ps_if (pw_and (pt_cmp (pc_notN (pe_fld (pv 0) rfl))) (pw_and1 pt_dead)).pt pss_dead pss_nil), ?_⟩
    exact ⟨_, rfl, f, FC, fx, fs, _, rfl, hf, T.cl, T.no _ (by simp), hl, _, rfl, iteF (iteF q)⟩
abbrev sNote : Stmt := (inClass (top 12) 8)
theorem scNote : FnScope ["self", "name", "worth", "run"] ["self", "name", "worth"] (defScope sNote) := ⟨rfl, rfl, rfl, by decide +kernel, rfl, by decide +kernel, by decide +kernel⟩
def spNote (FC : Addr) : Sp := fun vs H Q _ => ∃ (f fx : Addr) (fs : List (Str × V)) (x y : V), vs = [.ref f, x, y] ∧ H f = some (.ins FC fx fs) ∧ fs.lookup ("inmost" : Str) = some V.non ∧ Q .non H
theorem ok_note {f : Addr} {fd : FuncData} (F : Fun K "note" "Floor.note" sNote f fd) (T : FlT K FC) : FnOk P w K mg base CX0 1 f fd ["self", "name", "worth"] (spNote FC) := by
  refine F.ok scNote (fun vs H Q E h => ?_) (fun cdv A outer s H vs Q E hr h => ?_)
  · obtain ⟨f, fx, fs, x, y, rfl, _⟩ := h
    rfl
  · obtain ⟨f, fx, fs, x, y, rfl, hf, hl, q⟩ := h
    have nd := scNote.nd
    refine ⟨_, pss_cons (ps_set (i := 3) nd rfl (Or.inl rfl) (pe_fld (pv 0) rfl)) (pss_one (ps_if (pw_and (pt_cmp (pc_notN (pv 3))) (pw_and1 pt_dead)).pt pss_dead pss_nil)), ?_⟩
    exact ⟨_, rfl, f, FC, fx, fs, _, rfl, hf, T.cl, T.no _ (by simp), hl, _, rfl, _, rfl, iteF (iteF q)⟩
abbrev sTakeN : Stmt := (inClass (top 12) 1)
theorem scTakeN : FnScope ["self", "name"] ["self", "name"] (defScope sTakeN) := ⟨rfl, rfl, rfl, by decide +kernel, rfl, by decide +kernel, by decide +kernel⟩
def spTakeN (FC : Addr) : Sp := fun vs H Q _ => ∃ (f fx nD : Addr) (fs : List (Str × V)) (z : Str) (kvs : List (Key × V)), vs = [.ref f, .str z] ∧ H f = some (.ins FC fx fs) ∧ fs.lookup ("names" : Str) = some (V.ref nD) ∧ H nD = some (.dK kvs) ∧ valV kvs (Sum.inr z) = none ∧ kvs.length < 1000 ∧ Q .non (upd H nD (.dK (putK kvs (Sum.inr z) (.bl true))))
theorem ok_takeN {f : Addr} {fd : FuncData} (F : Fun K "take_name" "Floor.take_name" sTakeN f fd) (T : FlT K FC) : FnOk P w K mg base CX0 1 f fd ["self", "name"] (spTakeN FC) := by
  refine F.ok scTakeN (fun vs H Q E h => ?_) (fun cdv A outer s H vs Q E hr h => ?_)
  · obtain ⟨f, fx, nD, fs, z, kvs, rfl, _⟩ := h
    rfl
  · obtain ⟨f, fx, nD, fs, z, kvs, rfl, hf, hl, hn, hv, hz, q⟩ := h
    have hu := hu_of hr
    have hsl := sizeLine_eq
    refine ⟨_, pss_cons (ps_if (pt_cmp (pc_din hu (pv 1) (pe_fld (pv 0) rfl))) pss_dead pss_nil) (pss_one (ps_dput hu (pe_fld (pv 0) rfl) (pv 1) pe_bl rfl)), ?_⟩
    refine ⟨_, rfl, _, rfl, f, FC, fx, fs, _, rfl, hf, T.cl, T.no _ (by simp), hl, nD, _, rfl, DGet.k (k := Sum.inr z) hn, _, rfl, ?_⟩
    rw [hv]
    refine iteF ?_
    exact ⟨_, rfl, f, FC, fx, fs, _, rfl, hf, T.cl, T.no _ (by simp), hl, _, rfl, nD, _, rfl, DPut.k (k := Sum.inr z) hn (by omega), q⟩
abbrev sDue : Stmt := (inClass (top 12) 11)
theorem scDue : FnScope ["self", "effect"] ["self"] (defScope sDue) := ⟨rfl, rfl, rfl, by decide +kernel, rfl, by decide +kernel, by decide +kernel⟩
def spDue (FC : Addr) : Sp := fun vs H Q _ => ∃ (f fx eL : Addr) (fs : List (Str × V)), vs = [.ref f] ∧ H f = some (.ins FC fx fs) ∧ fs.lookup ("effects" : Str) = some (V.ref eL) ∧ H eL = some (.lst []) ∧ ∀ q, H q = none → Q (.ref q) (upd H q (.lst []))
theorem ok_due {f : Addr} {fd : FuncData} (F : Fun K "_due" "Floor._due" sDue f fd) (T : FlT K FC) : FnOk P w K mg base CX0 1 f fd ["self"] (spDue FC) := by
  refine F.ok scDue (fun vs H Q E h => ?_) (fun cdv A outer s H vs Q E hr h => ?_)
  · obtain ⟨f, fx, eL, fs, rfl, _⟩ := h
    rfl
  · obtain ⟨f, fx, eL, fs, rfl, hf, hl, he, q⟩ := h
    have nd := scDue.nd
    refine ⟨_, pss_one (ps_ret (pe_lc (own := [("effect", 1)]) (g := gName 1) rfl nd (pi_list (pe_fld (pv 0) rfl)) (blkOk_by (own := [("effect", 1)]) (N := ["self", "effect"]) (sc := defScope sDue) (by decide +kernel)) (fun _ _ _ _ _ => pg_name (i := 1) nd rfl (Or.inl rfl)) (fun _ _ _ _ _ => pts_one pt_dead) (fun _ _ _ _ _ => pe_dead))), ?_⟩
    refine ⟨_, rfl, f, FC, fx, fs, _, rfl, hf, T.cl, T.no _ (by simp), hl, eL, rfl, ⟨_, SqL.of he⟩, fun D hD => lc_list (K := K) (a := eL) (xs := []) (fun _ H' => H' = upd H D (.lst [])) rfl (fun _ H' _ e => ?_) (fun i x H' hx => ?_) (fun H' e => ?_)⟩
    · rw [e]; exact SqL.of (by rw [upd_ne (ne_of_none he hD)]; exact he)
    · cases hx
    · rw [e]; exact q D hD
abbrev sSettle : Stmt := (inClass (top 12) 10)
theorem scSettle : FnScope ["self", "many", "due"] ["self"] (defScope sSettle) := ⟨rfl, rfl, rfl, by decide +kernel, rfl, by decide +kernel, by decide +kernel⟩
def spSettle (FC : Addr) : Sp := fun vs H Q _ => ∃ (f fx nD cD sD eL lL t0 : Addr), vs = [.ref f] ∧ H f = some (.ins FC fx (floorF nD cD sD eL lL t0)) ∧ H eL = some (.lst []) ∧ ∀ H' tD, Kp [f] H H' → H tD = none → H' f = some (.ins FC fx (floorF nD cD sD eL lL tD)) → H' tD = some (.dK []) → Q .non H'
theorem ok_settle {f fU : Addr} {fd dU : FuncData} (F : Fun K "settle" "Floor.settle" sSettle f fd) (T : FlT K FC) (MU : MO P w K mg base FC "_due" 1 ["self"] (spDue FC) fU dU) : FnOk P w K mg base CX0 2 f fd ["self"] (spSettle FC) := by
  refine F.ok scSettle (fun vs H Q E h => ?_) (fun cdv A outer s H vs Q E hr h => ?_)
  · obtain ⟨f, fx, nD, cD, sD, eL, lL, t0, rfl, _⟩ := h
    rfl
  · obtain ⟨f, fx, nD, cD, sD, eL, lL, t0, rfl, hf, he, k⟩ := h
    have nd := scSettle.nd
    refine ⟨_, pss_cons (ps_if (pw_or (pt_cmp (pc_notN (pe_fld (pv 0) rfl))) (pw_or1 (pt_cmpR op_gt (pe_fld (pv 0) rfl) pe_int (nomark _)))).pt (pss_one ps_retN) pss_nil)
      (pss_cons (ps_fld (pv 0) pe_dnewK rfl) (pss_cons (ps_set (i := 1) nd rfl (Or.inl rfl) pe_int)
      (pss_cons (ps_set (i := 2) nd rfl (Or.inl rfl) (pe_meth0 (pv 0) T.cl MU.m MU.o hr MU.b .nil pass0)) (pss_one (ps_while PassesOwn.never (pt_truth (pv 2) (fun _ => rfl)) pss_dead))))), ?_⟩
    refine ⟨_, rfl, f, FC, fx, _, _, rfl, hf, T.cl, T.no _ (by simp), rfl, _, rfl, iteF ?_⟩
    refine ⟨_, rfl, f, FC, fx, _, _, rfl, hf, T.cl, T.no _ (by simp), rfl, _, _, rfl, rfl, _, rfl, iteF ?_⟩
    intro tD ht
    obtain ⟨o1, H1, e1, o2, k1, n1, ft, tf, st⟩ := fstep (floorF nD cD sD eL lL tD) (.dK []) hf (Kp.refl H) ht
    refine ⟨_, rfl, f, FC, fx, _, rfl, o1, T.cl, T.no _ (by simp), (by show 9 < 1000; decide), ?_⟩
    have e1' : upd (upd H tD (.dK [])) f (.ins FC fx (putF "turned" (.ref tD) (floorF nD cD sD eL lL t0))) = H1 := e1
    rw [e1']
    have nef : eL ≠ f := fun z => by rw [z, hf] at he; cases he
    have he1 := (st eL _ nef he).1
    refine ⟨_, rfl, f, _, _, rfl, o2, rfl, f, fx, eL, _, rfl, o2, rfl, he1, fun q hq => ?_⟩
    refine ⟨fun m σ' H' => σ' = [some (.ref f), some (.int 0), some (.ref q)] ∧ H' = upd H1 q (.lst []), ⟨0, rfl, rfl⟩, ?_⟩
    rintro m σ' H' ⟨rfl, rfl⟩
    refine ⟨_, rfl, false, .inl ⟨[], SqL.of upd_same, rfl⟩, iteF ?_⟩
    refine k _ tD (k1.trans (Kp.new hq)) ft ?_ ?_
    · rw [upd_ne (ne_of_none o2 hq)]; exact o2
    · rw [upd_ne (ne_of_none n1 hq)]; exact n1
end
end My

set_option Elab.async false
set_option linter.all false
set_option maxRecDepth 100000
set_option maxHeartbeats 4000000
/-! Q5: cells and their desk. -/
namespace My
open PySem PySem.Spec PyProof.Rows L2
/-- a cell: its name, its place, its own dict, its value -/
structure Ce where
  z : Str
  a : Addr
  ax : Addr
  v : Int
def namesT (cs : List Ce) : List (Key × V) := cs.map fun c => (Sum.inr c.z, V.bl true)
def cellsT (cs : List Ce) : List (Key × V) := cs.map fun c => (Sum.inr c.z, V.ref c.a)
theorem valV_names (cs : List Ce) (z : Str) : (valV (namesT cs) (Sum.inr z)).isSome = decide (z ∈ cs.map Ce.z) := by
  induction cs with
  | nil => rfl
  | cons c r ih =>
    by_cases e : c.z = z
    · have : valV (namesT (c :: r)) (Sum.inr z) = some (.bl true) := valV_pos (p := (Sum.inr c.z, V.bl true)) (by rw [e])
      rw [this, decide_eq_true (by rw [← e]; simp)]
      rfl
    · have ne : ¬ (Sum.inr c.z : Key) = Sum.inr z := fun q => e (Sum.inr.inj q)
      have : valV (namesT (c :: r)) (Sum.inr z) = valV (namesT r) (Sum.inr z) := valV_neg (p := (Sum.inr c.z, V.bl true)) ne
      rw [this, ih]
      have e2 : ¬ z = c.z := fun q => e q.symm
      simp [e2]
theorem valV_cells (cs : List Ce) (z : Str) : (valV (cellsT cs) (Sum.inr z)).isSome = decide (z ∈ cs.map Ce.z) := by
  induction cs with
  | nil => rfl
  | cons c r ih =>
    by_cases e : c.z = z
    · have : valV (cellsT (c :: r)) (Sum.inr z) = some (.ref c.a) := valV_pos (p := (Sum.inr c.z, V.ref c.a)) (by rw [e])
      rw [this, decide_eq_true (by rw [← e]; simp)]
      rfl
    · have ne : ¬ (Sum.inr c.z : Key) = Sum.inr z := fun q => e (Sum.inr.inj q)
      have : valV (cellsT (c :: r)) (Sum.inr z) = valV (cellsT r) (Sum.inr z) := valV_neg (p := (Sum.inr c.z, V.ref c.a)) ne
      rw [this, ih]
      have e2 : ¬ z = c.z := fun q => e q.symm
      simp [e2]
theorem valV_cell {cs : List Ce} {c : Ce} (h : c ∈ cs) (nd : (cs.map Ce.z).Nodup) : valV (cellsT cs) (Sum.inr c.z) = some (.ref c.a) := by
  induction cs with
  | nil => cases h
  | cons b r ih =>
    rw [List.map_cons, List.nodup_cons] at nd
    rcases List.mem_cons.mp h with rfl | h
    · exact valV_pos (p := (Sum.inr c.z, V.ref c.a)) rfl
    · have e : ¬ b.z = c.z := fun q => nd.1 (by rw [q]; exact List.mem_map_of_mem h)
      have ne : ¬ (Sum.inr b.z : Key) = Sum.inr c.z := fun q => e (Sum.inr.inj q)
      show valV ((Sum.inr b.z, V.ref b.a) :: cellsT r) (Sum.inr c.z) = _
      rw [valV_neg ne]
      exact ih h nd.2
theorem valV_out {T : List Ce → List (Key × V)} {cs : List Ce} {z : Str} (hT : (valV (T cs) (Sum.inr z)).isSome = decide (z ∈ cs.map Ce.z)) (h : z ∉ cs.map Ce.z) : valV (T cs) (Sum.inr z) = none := by
  rw [decide_eq_false h] at hT
  cases e : valV (T cs) (Sum.inr z) with
  | none => rfl
  | some x => rw [e] at hT; cases hT
/-- the desk as it stands -/
structure DeskAt (FC DC CC : Addr) (H : Hp) (D : DA) (tD : Addr) (cs : List Ce) : Prop where
  desk : H D.d = some (.ins DC D.dx [("_floor", .ref D.f)])
  floor : H D.f = some (.ins FC D.fx (floorF D.nD D.cD D.sD D.eL D.lL tD))
  names : H D.nD = some (.dK (namesT cs))
  cells : H D.cD = some (.dK (cellsT cs))
  sources : H D.sD = some (.dK (cellsT cs))
  eff : H D.eL = some (.lst [])
  log : H D.lL = some (.lst [])
  turned : H tD = some (.dK [])
  nd : [D.d, D.f, D.nD, D.cD, D.sD, D.eL, D.lL, tD].Nodup
  cell : ∀ c ∈ cs, H c.a = some (.ins CC c.ax (cellF c.z D.f c.v)) ∧ c.a ∉ [D.d, D.f, D.nD, D.cD, D.sD, D.eL, D.lL, tD]
  zs : (cs.map Ce.z).Nodup
  as : (cs.map Ce.a).Nodup
  len : cs.length ≤ 100
def foot (D : DA) (tD : Addr) (cs : List Ce) : List Addr := [D.d, D.f, D.nD, D.cD, D.sD, D.eL, D.lL, tD] ++ cs.map Ce.a
theorem DeskAt.kp {FC DC CC : Addr} {S : List Addr} {H H' : Hp} {D : DA} {tD : Addr} {cs : List Ce} (h : DeskAt FC DC CC H D tD cs) (k : Kp S H H') (n : ∀ x ∈ foot D tD cs, x ∉ S) : DeskAt FC DC CC H' D tD cs := by
  have m : ∀ x ∈ [D.d, D.f, D.nD, D.cD, D.sD, D.eL, D.lL, tD], x ∉ S := fun x hx => n x (List.mem_append_left _ hx)
  exact ⟨k _ _ (m _ (by simp)) h.desk, k _ _ (m _ (by simp)) h.floor, k _ _ (m _ (by simp)) h.names, k _ _ (m _ (by simp)) h.cells, k _ _ (m _ (by simp)) h.sources, k _ _ (m _ (by simp)) h.eff, k _ _ (m _ (by simp)) h.log, k _ _ (m _ (by simp)) h.turned, h.nd,
    fun c hc => ⟨k _ _ (n _ (List.mem_append_right _ (List.mem_map_of_mem hc))) (h.cell c hc).1, (h.cell c hc).2⟩, h.zs, h.as, h.len⟩
theorem DeskAt.there {FC DC CC : Addr} {H : Hp} {D : DA} {tD : Addr} {cs : List Ce} (h : DeskAt FC DC CC H D tD cs) : ∀ x ∈ foot D tD cs, ∃ o, H x = some o := by
  intro x hx
  rcases List.mem_append.mp hx with hx | hx
  · simp only [List.mem_cons, List.mem_nil_iff, or_false] at hx
    rcases hx with rfl | rfl | rfl | rfl | rfl | rfl | rfl | rfl
    · exact ⟨_, h.desk⟩
    · exact ⟨_, h.floor⟩
    · exact ⟨_, h.names⟩
    · exact ⟨_, h.cells⟩
    · exact ⟨_, h.sources⟩
    · exact ⟨_, h.eff⟩
    · exact ⟨_, h.log⟩
    · exact ⟨_, h.turned⟩
  · obtain ⟨c, hc, rfl⟩ := List.mem_map.mp hx
    exact ⟨_, (h.cell c hc).1⟩
section
variable {P : Program} {w : World} {K : PySem.W.Frag} {mg : Str → Option Value} {base : Heap} {FC DC CC : Addr}
abbrev sInitC : Stmt := (inClass (top 15) 0)
theorem scInitC : FnScope ["self", "floor", "name", "value"] ["self", "floor", "name", "value"] (defScope sInitC) := ⟨rfl, rfl, rfl, by decide +kernel, rfl, by decide +kernel, by decide +kernel⟩
def spInitC (CC : Addr) : Sp := fun vs H Q _ => ∃ (a ax f : Addr) (z : Str) (v : Int), vs = [.ref a, .ref f, .str z, .int v] ∧ H a = some (.ins CC ax []) ∧ Q .non (upd H a (.ins CC ax (cellF z f v)))
theorem ok_initC {f : Addr} {fd : FuncData} (F : Fun K "__init__" "Cell.__init__" sInitC f fd) (T : CeT K CC) : FnOk P w K mg base CX0 1 f fd ["self", "floor", "name", "value"] (spInitC CC) := by
  refine F.ok scInitC (fun vs H Q E h => ?_) (fun cdv A outer s H vs Q E hr h => ?_)
  · obtain ⟨a, ax, f, z, v, rfl, _⟩ := h
    rfl
  · obtain ⟨a, ax, f, z, v, rfl, ha, q⟩ := h
    refine ⟨_, pss_cons (ps_fld (pv 0) (pv 2) rfl) (pss_cons (ps_fld (pv 0) (pv 1) rfl) (pss_one (ps_fld (pv 0) (pv 3) rfl))), ?_⟩
    refine ⟨_, rfl, _, rfl, a, CC, ax, _, rfl, ha, T.cl, T.no _ (by simp), (by show 0 < 1000; decide), ?_⟩
    refine ⟨_, rfl, _, rfl, a, CC, ax, _, rfl, upd_same, T.cl, T.no _ (by simp), (by show 1 < 1000; decide), ?_⟩
    refine ⟨_, rfl, _, rfl, a, CC, ax, _, rfl, upd_same, T.cl, T.no _ (by simp), (by show 2 < 1000; decide), ?_⟩
    show Q .non _
    rw [upd_upd, upd_upd]
    exact q
abbrev sCall : Stmt := (inClass (top 15) 1)
theorem scCall : FnScope ["self"] ["self"] (defScope sCall) := ⟨rfl, rfl, rfl, by decide +kernel, rfl, by decide +kernel, by decide +kernel⟩
def spCall (FC CC : Addr) : Sp := fun vs H Q _ => ∃ (a ax f fx : Addr) (z : Str) (v : Int) (fs : List (Str × V)), vs = [.ref a] ∧ H a = some (.ins CC ax (cellF z f v)) ∧ H f = some (.ins FC fx fs) ∧ fs.lookup ("inmost" : Str) = some V.non ∧ fs.lookup ("note" : Str) = none ∧ Q (.int v) H
theorem ok_call {f fN : Addr} {fd dN : FuncData} (F : Fun K "__call__" "Cell.__call__" sCall f fd) (T : CeT K CC) (TF : FlT K FC) (MN : MO P w K mg base FC "note" 1 ["self", "name", "worth"] (spNote FC) fN dN) : FnOk P w K mg base CX0 2 f fd ["self"] (spCall FC CC) := by
  refine F.ok scCall (fun vs H Q E h => ?_) (fun cdv A outer s H vs Q E hr h => ?_)
  · obtain ⟨a, ax, f, fx, z, v, fs, rfl, _⟩ := h
    rfl
  · obtain ⟨a, ax, f, fx, z, v, fs, rfl, ha, hf, hl, hn, q⟩ := h
    refine ⟨_, pss_cons (ps_expr (pe_meth (pe_fld (pv 0) rfl) TF.cl MN.m MN.o hr MN.b .nil pass0 (pa_cons (pe_fld (pv 0) rfl) (pa_cons (pe_fld (pv 0) rfl) pa_nil)))) (pss_one (ps_ret (pe_fld (pv 0) rfl))), ?_⟩
    refine ⟨_, rfl, a, CC, ax, _, _, rfl, ha, T.cl, T.no _ (by simp), rfl, f, fx, fs, rfl, hf, hn, _, rfl, a, CC, ax, _, _, rfl, ha, T.cl, T.no _ (by simp), rfl, _, rfl, a, CC, ax, _, _, rfl, ha, T.cl, T.no _ (by simp), rfl, f, fx, fs, _, _, rfl, hf, hl, ?_⟩
    exact ⟨_, rfl, a, CC, ax, _, _, rfl, ha, T.cl, T.no _ (by simp), rfl, q⟩
abbrev sPut : Stmt := (inClass (top 15) 4)
theorem scPut : FnScope ["self", "value"] ["self", "value"] (defScope sPut) := ⟨rfl, rfl, rfl, by decide +kernel, rfl, by decide +kernel, by decide +kernel⟩
/-- a cell that is given another value -/
def Ce.to (c : Ce) (v : Int) : Ce := { c with v := v }
def spPut (FC DC CC : Addr) : Sp := fun vs H Q _ => ∃ (D : DA) (t0 : Addr) (cs : List Ce) (i : Nat) (c : Ce) (v : Int), vs = [.ref c.a, .int v] ∧ DeskAt FC DC CC H D t0 cs ∧ cs[i]? = some c ∧ ∀ H' tD, Kp [D.f, t0, c.a] H H' → H tD = none → DeskAt FC DC CC H' D tD (cs.set i (c.to v)) → Q .non H'
theorem map_set {α : Type} {cs : List Ce} {i : Nat} {c c' : Ce} (g : Ce → α) (hi : cs[i]? = some c) (e : g c' = g c) : (cs.set i c').map g = cs.map g := by
  rw [List.map_set, e]
  apply List.ext_getElem?
  intro j
  by_cases ij : i = j
  · subst ij
    have lt := (List.getElem?_eq_some_iff.mp hi).1
    rw [List.getElem?_set_self (by rw [List.length_map]; exact lt), List.getElem?_map, hi]
    rfl
  · rw [List.getElem?_set_ne ij]
theorem ok_put {f fP fS : Addr} {fd dP dS : FuncData} (F : Fun K "put" "Cell.put" sPut f fd) (T : CeT K CC) (TF : FlT K FC) (MP : MO P w K mg base FC "check_place" 1 ["self"] (spPlace FC) fP dP) (MS : MO P w K mg base FC "settle" 2 ["self"] (spSettle FC) fS dS) :
    FnOk P w K mg base CX0 3 f fd ["self", "value"] (spPut FC DC CC) := by
  refine F.ok scPut (fun vs H Q E h => ?_) (fun cdv A outer s H vs Q E hr h => ?_)
  · obtain ⟨D, t0, cs, i, c, v, rfl, _⟩ := h
    rfl
  · obtain ⟨D, t0, cs, i, c, v, rfl, hD, hi, k⟩ := h
    have hu := hu_of hr
    have hr1 := hr.mono (by decide : 1 ≤ 2)
    have hsl := sizeLine_eq
    have hc : c ∈ cs := List.mem_of_getElem? hi
    obtain ⟨ha, hn⟩ := hD.cell c hc
    simp only [List.mem_cons, List.mem_nil_iff, or_false, not_or] at hn
    obtain ⟨nd0, nf, nn, nc, ns, ne, nl, nt⟩ := hn
    have hnd := hD.nd
    simp only [List.nodup_cons, List.mem_cons, List.mem_nil_iff, or_false, not_or, List.nodup_nil, and_true, not_false_eq_true] at hnd
    obtain ⟨⟨d1, d2, d3, d4, d5, d6, d7⟩, ⟨f1, f2, f3, f4, f5, f6⟩, ⟨g1, g2, g3, g4, g5⟩, ⟨j1, j2, j3, j4⟩, ⟨m1, m2, m3⟩, ⟨p1, p2⟩, q1⟩ := hnd
    refine ⟨_, pss_cons (ps_expr (pe_meth0 (pe_fld (pv 0) rfl) TF.cl MP.m MP.o hr1 MP.b .nil pass0))
      (C8.pss_cut (ps_if (pt_cmpR op_ne (pv 1) (pe_fld (pv 0) rfl) (nomark _)) (pss_cons (ps_fld (pv 0) (pv 1) rfl) (pss_one (ps_dput hu (pe_fld (pe_fld (pv 0) rfl) rfl) (pe_fld (pv 0) rfl) pe_bl rfl))) pss_nil)
      (pss_one (ps_expr (pe_meth0 (pe_fld (pv 0) rfl) TF.cl MS.m MS.o hr MS.b .nil pass0)))), ?_⟩
    refine ⟨_, rfl, c.a, CC, c.ax, _, _, rfl, ha, T.cl, T.no _ (by simp), rfl, D.f, D.fx, _, rfl, hD.floor, rfl, D.f, D.fx, _, rfl, hD.floor, rfl, ?_⟩
    refine ⟨fun σ' H' => σ' = [some (.ref c.a), some (.int v)] ∧ Kp [t0, c.a] H H' ∧ H' c.a = some (.ins CC c.ax (cellF c.z D.f v)) ∧ ∃ o, H' t0 = some o, ?_, ?_⟩
    · refine ⟨_, rfl, _, rfl, c.a, CC, c.ax, _, _, rfl, ha, T.cl, T.no _ (by simp), rfl, rfl, _, rfl, ?_⟩
      refine ite2 (fun e => ?_) (fun e => ⟨rfl, Kp.refl H, ?_, _, hD.turned⟩)
      · refine ⟨_, rfl, _, rfl, c.a, CC, c.ax, _, rfl, ha, T.cl, T.no _ (by simp), (by show 3 < 1000; decide), ?_⟩
        obtain ⟨H1, e1⟩ : ∃ H1, upd H c.a (.ins CC c.ax (putF "_now" (.int v) (cellF c.z D.f c.v))) = H1 := ⟨_, rfl⟩
        have a1 : H1 c.a = some (.ins CC c.ax (cellF c.z D.f v)) := by rw [← e1]; exact upd_same
        have o1 : ∀ b, b ≠ c.a → H1 b = H b := fun b n => by rw [← e1]; exact upd_ne n
        rw [e1]
        refine ⟨_, rfl, c.a, CC, c.ax, _, _, rfl, a1, T.cl, T.no _ (by simp), rfl, D.f, FC, D.fx, _, _, rfl, (o1 _ (Ne.symm nf)).trans hD.floor, TF.cl, TF.no _ (by simp), rfl, _, rfl, c.a, CC, c.ax, _, _, rfl, a1, T.cl, T.no _ (by simp), rfl, t0, _, rfl, DPut.k (k := Sum.inr c.z) ((o1 _ (Ne.symm nt)).trans hD.turned) (by show 0 < sizeLine; omega), ?_⟩
        refine ⟨rfl, fun b o nb eb => ?_, by rw [upd_ne nt]; exact a1, _, upd_same⟩
        simp only [List.mem_cons, List.mem_nil_iff, or_false, not_or] at nb
        rw [upd_ne nb.1, o1 _ nb.2]
        exact eb
      · have ev : v = c.v := by
          cases h0 : decide (V.int v = V.int c.v) with
          | true => exact V.int.inj (of_decide_eq_true h0)
          | false => exact absurd (show (!decide (V.int v = V.int c.v)) = true by rw [h0]; rfl) e
        rw [ev]; exact ha
    · rintro σ' H1 ⟨rfl, k1, a1, ot, et⟩
      have old : ∀ b o, b ≠ t0 → b ≠ c.a → H b = some o → H1 b = some o := fun b o n1 n2 e => k1 b o (by simp only [List.mem_cons, List.mem_nil_iff, or_false, not_or]; exact ⟨n1, n2⟩) e
      have fl1 := old _ _ f6 (Ne.symm nf) hD.floor
      have ef1 := old _ _ p2 (Ne.symm ne) hD.eff
      refine ⟨_, rfl, c.a, CC, c.ax, _, _, rfl, a1, T.cl, T.no _ (by simp), rfl, D.f, D.fx, _, rfl, fl1, rfl, D.f, D.fx, D.nD, D.cD, D.sD, D.eL, D.lL, t0, rfl, fl1, ef1, fun H2 tD k2 ht fl2 tu2 => ?_⟩
      have old2 : ∀ b o, b ≠ D.f → H1 b = some o → H2 b = some o := fun b o n e => k2 b o (by simpa using n) e
      have htD : H tD = none := by
        cases e : H tD with
        | none => rfl
        | some o =>
          by_cases b1 : tD = t0
          · rw [b1, et] at ht; cases ht
          · by_cases b2 : tD = c.a
            · rw [b2, a1] at ht; cases ht
            · rw [old _ _ b1 b2 e] at ht; cases ht
      have fr : ∀ b o, H b = some o → b ≠ tD := fun b o e z => by rw [← z, e] at htD; cases htD
      refine k H2 tD (fun b o nb e => ?_) htD ?_
      · simp only [List.mem_cons, List.mem_nil_iff, or_false, not_or] at nb
        exact old2 _ _ nb.1 (old _ _ nb.2.1 nb.2.2 e)
      · refine ⟨old2 _ _ (fun z => d1 (by rw [z])) (old _ _ d7 (Ne.symm nd0) hD.desk), fl2, ?_, ?_, ?_, old2 _ _ (Ne.symm f4) ef1, old2 _ _ (Ne.symm f5) (old _ _ q1 (Ne.symm nl) hD.log), tu2, ?_, fun b hb => ?_, ?_, ?_, by rw [List.length_set]; exact hD.len⟩
        · rw [show namesT (cs.set i (c.to v)) = namesT cs from map_set _ hi rfl]
          exact old2 _ _ (Ne.symm f1) (old _ _ g5 (Ne.symm nn) hD.names)
        · rw [show cellsT (cs.set i (c.to v)) = cellsT cs from map_set _ hi rfl]
          exact old2 _ _ (Ne.symm f2) (old _ _ j4 (Ne.symm nc) hD.cells)
        · rw [show cellsT (cs.set i (c.to v)) = cellsT cs from map_set _ hi rfl]
          exact old2 _ _ (Ne.symm f3) (old _ _ m3 (Ne.symm ns) hD.sources)
        · simp only [List.nodup_cons, List.mem_cons, List.mem_nil_iff, or_false, not_or, List.nodup_nil, and_true, not_false_eq_true]
          exact ⟨⟨d1, d2, d3, d4, d5, d6, fr _ _ hD.desk⟩, ⟨f1, f2, f3, f4, f5, fr _ _ hD.floor⟩, ⟨g1, g2, g3, g4, fr _ _ hD.names⟩, ⟨j1, j2, j3, fr _ _ hD.cells⟩, ⟨m1, m2, fr _ _ hD.sources⟩, ⟨p1, fr _ _ hD.eff⟩, fr _ _ hD.log⟩
        · have lt := (List.getElem?_eq_some_iff.mp hi).1
          obtain ⟨j, hj⟩ := List.getElem?_of_mem hb
          by_cases ij : i = j
          · subst ij
            rw [List.getElem?_set_self lt] at hj
            cases hj
            refine ⟨old2 _ _ nf a1, ?_⟩
            simp only [List.mem_cons, List.mem_nil_iff, or_false, not_or]
            exact ⟨nd0, nf, nn, nc, ns, ne, nl, fr _ _ ha⟩
          · rw [List.getElem?_set_ne ij] at hj
            have hbm := List.mem_of_getElem? hj
            obtain ⟨b1, b2⟩ := hD.cell b hbm
            simp only [List.mem_cons, List.mem_nil_iff, or_false, not_or] at b2
            obtain ⟨x0, xf, xn, xc, xs, xe, xl, xt⟩ := b2
            have nba : b.a ≠ c.a := fun z => by
              have h1 : (cs.map Ce.a)[j]? = some b.a := by rw [List.getElem?_map, hj]; rfl
              have h2 : (cs.map Ce.a)[i]? = some c.a := by rw [List.getElem?_map, hi]; rfl
              have hl2 : i < (cs.map Ce.a).length := by rw [List.length_map]; exact lt
              have : (cs.map Ce.a)[i]? = (cs.map Ce.a)[j]? := by rw [h1, h2, z]
              exact ij ((List.getElem?_inj hl2 hD.as).mp this)
            refine ⟨old2 _ _ xf (old _ _ xt nba b1), ?_⟩
            simp only [List.mem_cons, List.mem_nil_iff, or_false, not_or]
            exact ⟨x0, xf, xn, xc, xs, xe, xl, fr _ _ b1⟩
        · rw [map_set (c' := c.to v) Ce.z hi rfl]; exact hD.zs
        · rw [map_set (c' := c.to v) Ce.a hi rfl]; exact hD.as
end
end My

set_option Elab.async false
set_option linter.all false
set_option maxRecDepth 100000
set_option maxHeartbeats 4000000
/-! Q6: what a desk of cells is asked. -/
namespace My
open PySem PySem.Spec PyProof.Rows L2
section
variable {P : Program} {w : World} {K : PySem.W.Frag} {mg : Str → Option Value} {base : Heap} {FC DC CC NN : Addr}
abbrev sVal : Stmt := (inClass (top 15) 2)
theorem scVal : FnScope ["self"] ["self"] (defScope sVal) := ⟨rfl, rfl, rfl, by decide +kernel, rfl, by decide +kernel, by decide +kernel⟩
def spVal (CC : Addr) : Sp := fun vs H Q _ => ∃ (a ax f : Addr) (z : Str) (v : Int), vs = [.ref a] ∧ H a = some (.ins CC ax (cellF z f v)) ∧ Q (.int v) H
theorem ok_val {f : Addr} {fd : FuncData} (F : Fun K "value" "Cell.value" sVal f fd) (T : CeT K CC) : FnOk P w K mg base CX0 1 f fd ["self"] (spVal CC) := by
  refine F.ok scVal (fun vs H Q E h => ?_) (fun cdv A outer s H vs Q E hr h => ?_)
  · obtain ⟨a, ax, f, z, v, rfl, _⟩ := h
    rfl
  · obtain ⟨a, ax, f, z, v, rfl, ha, q⟩ := h
    exact ⟨_, pss_one (ps_ret (pe_fld (pv 0) rfl)), _, rfl, a, CC, ax, _, _, rfl, ha, T.cl, T.no _ (by simp), rfl, q⟩
abbrev sIadd : Stmt := (inClass (top 15) 5)
theorem scIadd : FnScope ["self", "other"] ["self", "other"] (defScope sIadd) := ⟨rfl, rfl, rfl, by decide +kernel, rfl, by decide +kernel, by decide +kernel⟩
def spIadd (FC DC CC : Addr) : Sp := fun vs H Q _ => ∃ (D : DA) (t0 : Addr) (cs : List Ce) (i : Nat) (c : Ce) (v : Int), vs = [.ref c.a, .int v] ∧ DeskAt FC DC CC H D t0 cs ∧ cs[i]? = some c ∧ ∀ H' tD, Kp [D.f, t0, c.a] H H' → H tD = none → DeskAt FC DC CC H' D tD (cs.set i (c.to (c.v + v))) → Q (.ref c.a) H'
theorem ok_iadd {f fP : Addr} {fd dP : FuncData} (F : Fun K "__iadd__" "Cell.__iadd__" sIadd f fd) (T : CeT K CC) (MP : MO P w K mg base CC "put" 3 ["self", "value"] (spPut FC DC CC) fP dP) : FnOk P w K mg base CX0 4 f fd ["self", "other"] (spIadd FC DC CC) := by
  refine F.ok scIadd (fun vs H Q E h => ?_) (fun cdv A outer s H vs Q E hr h => ?_)
  · obtain ⟨D, t0, cs, i, c, v, rfl, _⟩ := h
    rfl
  · obtain ⟨D, t0, cs, i, c, v, rfl, hD, hi, k⟩ := h
    have ha := (hD.cell c (List.mem_of_getElem? hi)).1
    refine ⟨_, pss_cons (ps_expr (pe_meth (pv 0) T.cl MP.m MP.o hr MP.b .nil pass0 (pa_cons (pe_op op_add (pe_fld (pv 0) rfl) (pv 1)) pa_nil))) (pss_one (ps_ret (pv 0))), ?_⟩
    refine ⟨_, rfl, c.a, c.ax, _, rfl, ha, rfl, _, rfl, c.a, CC, c.ax, _, _, rfl, ha, T.cl, T.no _ (by simp), rfl, _, rfl, _, _, rfl, rfl, ?_⟩
    exact ⟨D, t0, cs, i, c, _, rfl, hD, hi, fun H' tD k1 ht hD' => ⟨_, rfl, k H' tD k1 ht hD'⟩⟩
abbrev sInitD : Stmt := (inClass (top 14) 1)
theorem scInitD : FnScope ["self"] ["self"] (defScope sInitD) := ⟨rfl, rfl, rfl, by decide +kernel, rfl, by decide +kernel, by decide +kernel⟩
def spInitD (FC DC CC : Addr) : Sp := fun vs H Q _ => ∃ (d dx : Addr), vs = [.ref d] ∧ H d = some (.ins DC dx []) ∧ ∀ H' D tD, D.d = d → Kp [d] H H' → (∀ x ∈ foot D tD [], x ≠ d → H x = none) → DeskAt FC DC CC H' D tD [] → Q .non H'
theorem ok_initD {f fI : Addr} {fd dI : FuncData} (F : Fun K "__init__" "Desk.__init__" sInitD f fd) (T : DkT K DC) (MkF : Mk K FC fI) (gF : mg "Floor" = some (.ref FC)) (oF : FnOk P w K mg base CX0 1 fI dI ["self", "most_runs"] (spInitF FC)) (bF : Binds K dI ["self", "most_runs"] []) :
    FnOk P w K mg base CX0 3 f fd ["self"] (spInitD FC DC CC) := by
  refine F.ok scInitD (fun vs H Q E h => ?_) (fun cdv A outer s H vs Q E hr h => ?_)
  · obtain ⟨d, dx, rfl, _⟩ := h
    rfl
  · obtain ⟨d, dx, rfl, hd, k⟩ := h
    obtain ⟨u0, con0⟩ := T.con
    refine ⟨_, pss_one (ps_fld (pv 0) (pe_make MkF oF hr (by rfl) gF bF .nil pass0 (pa_cons (pe_con (pv 0) rfl) pa_nil)) rfl), ?_⟩
    refine ⟨_, rfl, d, DC, dx, _, _, _, rfl, hd, T.cl, con0, rfl, fun x xx hx hxx hne => ⟨x, xx, rfl, upd_same, fun H1 nD cD sD eL lL tD k1 fr nd e1 e2 e3 e4 e5 e6 e7 => ⟨rfl, ?_⟩⟩⟩
    have dnx : d ≠ x := ne_of_none hd hx
    have dnxx : d ≠ xx := ne_of_none hd hxx
    have hd1 : H1 d = some (.ins DC dx []) := k1 _ _ (by simpa using dnx) (by rw [upd_ne dnx, upd_ne dnxx]; exact hd)
    have back : ∀ y, upd (upd H xx (.own x)) x (.ins FC xx []) y = none → H y = none := fun y e => by
      have n1 : y ≠ x := fun z => by rw [z, upd_same] at e; cases e
      rw [upd_ne n1] at e
      have n2 : y ≠ xx := fun z => by rw [z, upd_same] at e; cases e
      rw [upd_ne n2] at e
      exact e
    have frn : ∀ y ∈ [nD, cD, sD, eL, lL, tD], y ≠ d := fun y hy z => by have := back y (fr y hy); rw [z, hd] at this; cases this
    refine ⟨_, rfl, d, DC, dx, _, rfl, hd1, T.cl, T.no, (by show 0 < 1000; decide), ?_⟩
    simp only [List.nodup_cons, List.mem_cons, List.mem_nil_iff, or_false, not_or, List.nodup_nil, and_true, not_false_eq_true] at nd
    obtain ⟨f0, g0, j0, m0, p0, q0⟩ := nd
    refine k _ ⟨d, dx, x, xx, nD, cD, sD, eL, lL⟩ tD rfl (fun b o nb e => ?_) (fun y hy ny => ?_) ?_
    · have nb' : b ≠ d := fun z => nb (by rw [z]; simp)
      rw [upd_ne nb']
      exact k1 b o (by simpa using ne_of_none e hx) (by rw [upd_ne (ne_of_none e hx), upd_ne (ne_of_none e hxx)]; exact e)
    · simp only [foot, List.map_nil, List.append_nil, List.mem_cons, List.mem_nil_iff, or_false] at hy
      rcases hy with rfl | rfl | rfl | rfl | rfl | rfl | rfl | rfl
      · exact absurd rfl ny
      · exact hx
      all_goals exact back _ (fr _ (by simp))
    · have a1 := frn nD (by simp)
      have a2 := frn cD (by simp)
      have a3 := frn sD (by simp)
      have a4 := frn eL (by simp)
      have a5 := frn lL (by simp)
      have a6 := frn tD (by simp)
      refine ⟨upd_same, ?_, ?_, ?_, ?_, ?_, ?_, ?_, ?_, fun c hc => (nomatch hc), .nil, .nil, Nat.zero_le _⟩
      · show upd H1 d _ x = _; rw [upd_ne dnx.symm]; exact e1
      · show upd H1 d _ nD = _; rw [upd_ne a1]; exact e2
      · show upd H1 d _ cD = _; rw [upd_ne a2]; exact e3
      · show upd H1 d _ sD = _; rw [upd_ne a3]; exact e4
      · show upd H1 d _ eL = _; rw [upd_ne a4]; exact e5
      · show upd H1 d _ lL = _; rw [upd_ne a5]; exact e6
      · show upd H1 d _ tD = _; rw [upd_ne a6]; exact e7
      · simp only [List.nodup_cons, List.mem_cons, List.mem_nil_iff, or_false, not_or, List.nodup_nil, and_true, not_false_eq_true]
        exact ⟨⟨dnx, a1.symm, a2.symm, a3.symm, a4.symm, a5.symm, a6.symm⟩, f0, g0, j0, m0, p0, q0⟩
abbrev sCellD : Stmt := (inClass (top 14) 2)
theorem scCellD : FnScope ["self", "name", "value", "made"] ["self", "name", "value"] (defScope sCellD) := ⟨rfl, rfl, rfl, by decide +kernel, rfl, by decide +kernel, by decide +kernel⟩
def spCellD (FC DC CC : Addr) : Sp := fun vs H Q _ => ∃ (D : DA) (tD : Addr) (cs : List Ce) (z : Str) (v : Int), vs = [.ref D.d, .str z, .int v] ∧ DeskAt FC DC CC H D tD cs ∧ z ∉ cs.map Ce.z ∧ cs.length < 100 ∧
  ∀ H' a ax, Kp [D.nD, D.cD, D.sD] H H' → H a = none → DeskAt FC DC CC H' D tD (cs ++ [⟨z, a, ax, v⟩]) → Q (.ref a) H'
theorem ok_cellD {f fP fT fI : Addr} {fd dP dT dI : FuncData} (F : Fun K "cell" "Desk.cell" sCellD f fd) (T : DkT K DC) (TF : FlT K FC) (MP : MO P w K mg base FC "check_place" 1 ["self"] (spPlace FC) fP dP) (MT : MO P w K mg base FC "take_name" 1 ["self", "name"] (spTakeN FC) fT dT)
    (MkC : Mk K CC fI) (gC : mg "Cell" = some (.ref CC)) (oC : FnOk P w K mg base CX0 1 fI dI ["self", "floor", "name", "value"] (spInitC CC)) (bC : Binds K dI ["self", "floor", "name", "value"] []) : FnOk P w K mg base CX0 3 f fd ["self", "name", "value"] (spCellD FC DC CC) := by
  refine F.ok scCellD (fun vs H Q E h => ?_) (fun cdv A outer s H vs Q E hr h => ?_)
  · obtain ⟨D, tD, cs, z, v, rfl, _⟩ := h
    rfl
  · obtain ⟨D, tD, cs, z, v, rfl, hD, hz, hlen, k⟩ := h
    have nd := scCellD.nd
    have hu := hu_of hr
    have hr1 := hr.mono (by decide : 1 ≤ 2)
    have hsl := sizeLine_eq
    have hnd := hD.nd
    simp only [List.nodup_cons, List.mem_cons, List.mem_nil_iff, or_false, not_or, List.nodup_nil, and_true, not_false_eq_true] at hnd
    obtain ⟨⟨d1, d2, d3, d4, d5, d6, d7⟩, ⟨f1, f2, f3, f4, f5, f6⟩, ⟨g1, g2, g3, g4, g5⟩, ⟨j1, j2, j3, j4⟩, ⟨m1, m2, m3⟩, ⟨p1, p2⟩, q1⟩ := hnd
    have vn := valV_out (valV_names cs z) hz
    have vc := valV_out (valV_cells cs z) hz
    have ln : (namesT cs).length = cs.length := by simp [namesT]
    have lc : (cellsT cs).length = cs.length := by simp [cellsT]
    refine ⟨_, pss_cons (ps_expr (pe_meth0 (pe_fld (pv 0) rfl) TF.cl MP.m MP.o hr1 MP.b .nil pass0))
      (pss_cons (ps_expr (pe_meth (pe_fld (pv 0) rfl) TF.cl MT.m MT.o hr1 MT.b .nil pass0 (pa_cons (pv 1) pa_nil)))
      (pss_cons (ps_set (i := 3) nd rfl (Or.inl rfl) (pe_make MkC oC hr (by rfl) gC bC .nil pass0 (pa_cons (pe_fld (pv 0) rfl) (pa_cons (pv 1) (pa_cons (pv 2) pa_nil)))))
      (pss_cons (ps_dput hu (pe_fld (pe_fld (pv 0) rfl) rfl) (pv 1) (pv 3) rfl) (pss_cons (ps_dput hu (pe_fld (pe_fld (pv 0) rfl) rfl) (pv 1) (pv 3) rfl) (pss_one (ps_ret (pv 3))))))), ?_⟩
    refine ⟨_, rfl, D.d, DC, D.dx, _, _, rfl, hD.desk, T.cl, T.no, rfl, D.f, D.fx, _, rfl, hD.floor, rfl, D.f, D.fx, _, rfl, hD.floor, rfl, ?_⟩
    refine ⟨_, rfl, D.d, DC, D.dx, _, _, rfl, hD.desk, T.cl, T.no, rfl, D.f, D.fx, _, rfl, hD.floor, rfl, _, rfl, D.f, D.fx, D.nD, _, z, _, rfl, hD.floor, rfl, hD.names, vn, by omega, ?_⟩
    rw [putK_new _ vn]
    obtain ⟨H1, e1⟩ : ∃ H1, upd H D.nD (.dK (namesT cs ++ [(Sum.inr z, .bl true)])) = H1 := ⟨_, rfl⟩
    have n1 : H1 D.nD = some (.dK (namesT cs ++ [(Sum.inr z, .bl true)])) := by rw [← e1]; exact upd_same
    have o1 : ∀ b, b ≠ D.nD → H1 b = H b := fun b n => by rw [← e1]; exact upd_ne n
    rw [e1]
    have dk1 : H1 D.d = some (.ins DC D.dx [("_floor", .ref D.f)]) := (o1 _ d2).trans hD.desk
    have fl1 := (o1 _ f1).trans hD.floor
    refine ⟨_, rfl, D.d, DC, D.dx, _, _, rfl, dk1, T.cl, T.no, rfl, _, rfl, _, rfl, fun a ax ha hax hne => ⟨a, ax, D.f, z, v, rfl, upd_same, rfl, ?_⟩⟩
    rw [upd_upd]
    have low : ∀ {x : Addr}, H1 x = none → H x = none := fun {x} e => by
      have n : x ≠ D.nD := fun w => by rw [w, n1] at e; cases e
      rw [o1 _ n] at e; exact e
    obtain ⟨H3, e3⟩ : ∃ H3, upd (upd H1 ax (.own a)) a (.ins CC ax (cellF z D.f v)) = H3 := ⟨_, rfl⟩
    have a3 : H3 a = some (.ins CC ax (cellF z D.f v)) := by rw [← e3]; exact upd_same
    have o3 : ∀ b o, H1 b = some o → H3 b = some o := fun b o e => by rw [← e3, upd_ne (ne_of_none e ha), upd_ne (ne_of_none e hax)]; exact e
    rw [e3]
    refine ⟨_, rfl, _, rfl, D.d, DC, D.dx, _, _, rfl, o3 _ _ dk1, T.cl, T.no, rfl, D.f, FC, D.fx, _, _, rfl, o3 _ _ fl1, TF.cl, TF.no _ (by simp), rfl, _, rfl, D.cD, _, rfl, DPut.k (k := Sum.inr z) (o3 _ _ ((o1 _ (Ne.symm g1)).trans hD.cells)) (by omega), ?_⟩
    rw [putK_new _ vc]
    obtain ⟨H4, e4⟩ : ∃ H4, upd H3 D.cD (.dK (cellsT cs ++ [(Sum.inr z, .ref a)])) = H4 := ⟨_, rfl⟩
    have c4 : H4 D.cD = some (.dK (cellsT cs ++ [(Sum.inr z, .ref a)])) := by rw [← e4]; exact upd_same
    have o4 : ∀ b, b ≠ D.cD → H4 b = H3 b := fun b n => by rw [← e4]; exact upd_ne n
    have e4' : upd H3 D.cD (HO.dK (cellsT cs ++ [((Sum.inr z : Key), V.ref a)])) = H4 := e4
    rw [e4']
    refine ⟨_, rfl, _, rfl, D.d, DC, D.dx, _, _, rfl, (o4 _ d3).trans (o3 _ _ dk1), T.cl, T.no, rfl, D.f, FC, D.fx, _, _, rfl, (o4 _ f2).trans (o3 _ _ fl1), TF.cl, TF.no _ (by simp), rfl, _, rfl, D.sD, _, rfl, DPut.k (k := Sum.inr z) ((o4 _ (Ne.symm j1)).trans (o3 _ _ ((o1 _ (Ne.symm g2)).trans hD.sources))) (by omega), ?_⟩
    rw [putK_new _ vc]
    obtain ⟨H5, e5⟩ : ∃ H5, upd H4 D.sD (HO.dK (cellsT cs ++ [((Sum.inr z : Key), V.ref a)])) = H5 := ⟨_, rfl⟩
    have s5 : H5 D.sD = some (.dK (cellsT cs ++ [(Sum.inr z, .ref a)])) := by rw [← e5]; exact upd_same
    have o5 : ∀ b, b ≠ D.sD → H5 b = H4 b := fun b n => by rw [← e5]; exact upd_ne n
    rw [e5]
    refine ⟨_, rfl, ?_⟩
    have old : ∀ b o, b ≠ D.nD → b ≠ D.cD → b ≠ D.sD → H b = some o → H5 b = some o := fun b o n1 n2 n3 e => (o5 b n3).trans ((o4 b n2).trans (o3 b o ((o1 b n1).trans e)))
    have ha0 := low ha
    have fr : ∀ b o, H b = some o → b ≠ a := fun b o e => ne_of_none e ha0
    refine k H5 a ax (fun b o nb e => ?_) ha0 ?_
    · simp only [List.mem_cons, List.mem_nil_iff, or_false, not_or] at nb
      exact old b o nb.1 nb.2.1 nb.2.2 e
    · refine ⟨old _ _ d2 d3 d4 hD.desk, old _ _ f1 f2 f3 hD.floor, ?_, ?_, ?_, old _ _ (Ne.symm g3) (Ne.symm j2) (Ne.symm m1) hD.eff, old _ _ (Ne.symm g4) (Ne.symm j3) (Ne.symm m2) hD.log, old _ _ (Ne.symm g5) (Ne.symm j4) (Ne.symm m3) hD.turned, hD.nd, fun c hc => ?_, ?_, ?_, ?_⟩
      · rw [show namesT (cs ++ [⟨z, a, ax, v⟩]) = namesT cs ++ [(Sum.inr z, .bl true)] by simp [namesT]]
        exact (o5 _ g2).trans ((o4 _ g1).trans (o3 _ _ n1))
      · rw [show cellsT (cs ++ [⟨z, a, ax, v⟩]) = cellsT cs ++ [(Sum.inr z, .ref a)] by simp [cellsT]]
        exact (o5 _ j1).trans c4
      · rw [show cellsT (cs ++ [⟨z, a, ax, v⟩]) = cellsT cs ++ [(Sum.inr z, .ref a)] by simp [cellsT]]
        exact s5
      · rcases List.mem_append.mp hc with hc | hc
        · obtain ⟨h1, h2⟩ := hD.cell c hc
          have h3 := h2
          simp only [List.mem_cons, List.mem_nil_iff, or_false, not_or] at h3
          exact ⟨old _ _ h3.2.2.1 h3.2.2.2.1 h3.2.2.2.2.1 h1, h2⟩
        · rw [List.mem_singleton.mp hc]
          have nC : a ≠ D.cD := (fr _ _ hD.cells).symm
          have nS : a ≠ D.sD := (fr _ _ hD.sources).symm
          refine ⟨(o5 _ nS).trans ((o4 _ nC).trans a3), ?_⟩
          simp only [List.mem_cons, List.mem_nil_iff, or_false, not_or]
          exact ⟨(fr _ _ hD.desk).symm, (fr _ _ hD.floor).symm, (fr _ _ hD.names).symm, nC, nS, (fr _ _ hD.eff).symm, (fr _ _ hD.log).symm, (fr _ _ hD.turned).symm⟩
      · rw [List.map_append]
        exact nd_snoc hD.zs hz
      · rw [List.map_append]
        refine nd_snoc hD.as fun hm => ?_
        obtain ⟨c, hc, e⟩ := List.mem_map.mp hm
        exact fr _ _ (hD.cell c hc).1 e
      · rw [List.length_append, List.length_singleton]; omega
end
end My

set_option Elab.async false
set_option linter.all false
set_option maxRecDepth 100000
set_option maxHeartbeats 4000000
/-! Q7: a desk by names. -/
namespace My
open PySem PySem.Spec PyProof.Rows L2
/-- of the type of texts -/
def Fld.isStr : Fld → Bool
  | .str _ => true
  | _ => false
def hasF (cs : List Ce) : Fld → Bool
  | .str z => decide (z ∈ cs.map Ce.z)
  | _ => false
theorem FAt.ty {K : PySem.W.Frag} {H : Hp} : ∀ {fl : Fld} {x : V}, FAt H fl x → ∃ t : String, TyX K H x (.type t) ∧ PySem.W.kitOne K (.type t) (.type "str") = some fl.isStr
  | .non, _, h => by cases h; exact ⟨_, .base .non, kit_ty (r := false) (by decide +kernel)⟩
  | .int i, _, h => by cases h; exact ⟨_, .base (.int i), kit_ty (r := false) (by decide +kernel)⟩
  | .bl b, _, h => by cases h; exact ⟨_, .base (.bl b), kit_ty (r := false) (by decide +kernel)⟩
  | .str x, _, h => by cases h.1; exact ⟨_, .base (.str x), kit_ty (r := true) (by decide +kernel)⟩
  | .tup x, _, ⟨_, p, e, hp⟩ => by subst e; exact ⟨_, .base (.tup hp), kit_ty (r := false) (by decide +kernel)⟩
  | .lst x, _, ⟨_, p, e, hp⟩ => by subst e; exact ⟨_, .base (.lst hp), kit_ty (r := false) (by decide +kernel)⟩
theorem boot_str' : bootBuiltins "str" = some (.type "str") := by decide +kernel
theorem tyS {X : Cx} {pos : Pos} (hg : Gl X "str") (hm : X.mg "str" = none) : PE X (.Name "str" pos) (tC (.ty "str")) := pe_bltn hg hm boot_str' rfl
/-- x is no cell's name: E gets NoName(x) -/
def OddX (NN : Addr) (cs : List Ce) (x : V) (H : Hp) (E : XK) : Prop := ∃ fl, FAt H fl x ∧ hasF cs fl = false ∧ ∀ H' dd v, Kp [] H H' → H dd = none → H' dd = some (.xd [("name", v)]) → FAt H' fl v → E (.ref NN) (some dd) H'
/-- the property value -/
structure PO (P : Program) (w : World) (K : PySem.W.Frag) (mg : Str → Option Value) (base : Heap) (CC p g : Addr) (dg : FuncData) : Prop where
  p : PropOf K CC "value" p g
  b : Binds K dg ["self"] []
  o : FnOk P w K mg base CX0 1 g dg ["self"] (spVal CC)
section
variable {P : Program} {w : World} {K : PySem.W.Frag} {mg : Str → Option Value} {base : Heap} {FC DC CC NN : Addr}
abbrev sGet : Stmt := (inClass (top 14) 9)
theorem scGet : FnScope ["self", "at"] ["self", "at"] (defScope sGet) := ⟨rfl, rfl, rfl, by decide +kernel, rfl, by decide +kernel, by decide +kernel⟩
def spGet (FC DC CC NN : Addr) : Sp := fun vs H Q E => ∃ (D : DA) (tD : Addr) (cs : List Ce) (x : V), vs = [.ref D.d, x] ∧ DeskAt FC DC CC H D tD cs ∧ ((∃ c ∈ cs, x = .str c.z ∧ Q (.int c.v) H) ∨ OddX NN cs x H E)
theorem ok_get {f pA gA : Addr} {fd dg : FuncData} (F : Fun K "__getitem__" "Desk.__getitem__" sGet f fd) (B : Bt mg) (hstr : mg "str" = none) (T : DkT K DC) (TF : FlT K FC) (TC : CeT K CC) (PV : PO P w K mg base CC pA gA dg) (c : Cl P w K mg base "NoName" "name" NN) :
    FnOk P w K mg base (L2.CX P w) 6 f fd ["self", "at"] (spGet FC DC CC NN) := by
  obtain ⟨fE, dE, iC, tI, F1, b1, b2⟩ := c.ini
  refine F.okX scGet (fun vs H Q E h => ?_) (fun cdv A' outer s H vs Q E hr h => ?_)
  · obtain ⟨D, tD, cs, x, rfl, _⟩ := h
    rfl
  · obtain ⟨D, tD, cs, x, rfl, hD, post⟩ := h
    have hu := hu_of hr
    have h2 := hr.mono (by decide : 2 ≤ 5)
    refine ⟨_, pss_cons (ps_if (pw_or (pt_not (pt_val (pe_callB call_isi (by rfl) B.isinstance boot_isi' (pa_cons (pv 1) (pa_cons (tyS (by rfl) hstr) pa_nil))))) (pw_or1 (pt_cmp (pc_dnotin hu (pv 1) (pe_fld (pe_fld (pv 0) rfl) rfl))))).pt
        (pss_one (ps_raise (W := fun cls d _ H => E cls d H) rfl (takes_of rfl rfl rfl rfl) (pmk_new c.t iC tI F1 hr (by rfl) c.g b1 pass0 (pa_cons (pv 1) pa_nil)))) pss_nil)
      (pss_one (ps_ret (pe_prop (pe_dget hu (pe_fld (pe_fld (pv 0) rfl) rfl) (pv 1) (fun _ _ => rfl)) TC.cl PV.p PV.o h2 PV.b .nil pass0 rfl))), ?_⟩
    rcases post with ⟨ce, hc, rfl, q⟩ | ⟨fl, hF, hn, post⟩
    · refine ⟨_, rfl, _, _, _, _, _, rfl, .ty _, .base (.str ce.z), kit_ty (r := true) (by decide +kernel), _, rfl, iteF ?_⟩
      refine ⟨_, rfl, _, rfl, D.d, DC, D.dx, _, _, rfl, hD.desk, T.cl, T.no, rfl, D.f, FC, D.fx, _, _, rfl, hD.floor, TF.cl, TF.no _ (by simp), rfl, D.cD, _, rfl, DGet.k (k := Sum.inr ce.z) hD.cells, _, rfl, ?_⟩
      have vc := valV_cell hc hD.zs
      rw [vc]
      refine iteF ⟨_, rfl, D.d, DC, D.dx, _, _, rfl, hD.desk, T.cl, T.no, rfl, D.f, FC, D.fx, _, _, rfl, hD.floor, TF.cl, TF.no _ (by simp), rfl, _, rfl, D.cD, .ref ce.a, rfl, ?_, ce.a, ce.ax, _, rfl, (hD.cell ce hc).1, ce.a, ce.ax, D.f, ce.z, ce.v, rfl, (hD.cell ce hc).1, q⟩
      rw [← vc]
      exact DGet.k (k := Sum.inr ce.z) hD.cells
    · have raise : ∀ (aa : Addr), H aa = none → _ := fun aa na => raise_read (Kf := K) (fl := fl) (x := x) c.t c.no post (Kp.refl H) hF aa na
      cases hs : fl.isStr with
      | false =>
        obtain ⟨t, ty, kt⟩ := hF.ty (K := K)
        rw [hs] at kt
        refine ⟨_, rfl, _, _, _, _, _, rfl, .ty _, ty, kt, _, rfl, iteT (iteT ⟨_, rfl, rfl, by decide, raise⟩)⟩
      | true =>
        cases fl with
        | str z =>
          cases hF.1
          refine ⟨_, rfl, _, _, _, _, _, rfl, .ty _, .base (.str z), kit_ty (r := true) (by decide +kernel), _, rfl, iteF ?_⟩
          refine ⟨_, rfl, _, rfl, D.d, DC, D.dx, _, _, rfl, hD.desk, T.cl, T.no, rfl, D.f, FC, D.fx, _, _, rfl, hD.floor, TF.cl, TF.no _ (by simp), rfl, D.cD, _, rfl, DGet.k (k := Sum.inr z) hD.cells, _, rfl, ?_⟩
          rw [valV_out (valV_cells cs z) (of_decide_eq_false hn)]
          exact iteT ⟨_, rfl, rfl, by decide, raise⟩
        | _ => cases hs
abbrev sSet : Stmt := (inClass (top 14) 10)
theorem scSet : FnScope ["self", "at", "worth"] ["self", "at", "worth"] (defScope sSet) := ⟨rfl, rfl, rfl, by decide +kernel, rfl, by decide +kernel, by decide +kernel⟩
def spSet (FC DC CC NN : Addr) : Sp := fun vs H Q E => ∃ (D : DA) (tD : Addr) (cs : List Ce) (x : V) (v : Int), vs = [.ref D.d, x, .int v] ∧ DeskAt FC DC CC H D tD cs ∧
  ((∃ i c, cs[i]? = some c ∧ x = .str c.z ∧ ∀ H' t', Kp [D.f, tD, c.a] H H' → H t' = none → DeskAt FC DC CC H' D t' (cs.set i (c.to v)) → Q .non H') ∨ OddX NN cs x H E)
theorem ok_set {f fP fC : Addr} {fd dP dC : FuncData} (F : Fun K "__setitem__" "Desk.__setitem__" sSet f fd) (B : Bt mg) (hstr : mg "str" = none) (T : DkT K DC) (TF : FlT K FC) (TC : CeT K CC) (MP : MO P w K mg base CC "put" 3 ["self", "value"] (spPut FC DC CC) fP dP)
    (MC : MO P w K mg base FC "check_place" 1 ["self"] (spPlace FC) fC dC) (c : Cl P w K mg base "NoName" "name" NN) : FnOk P w K mg base (L2.CX P w) 6 f fd ["self", "at", "worth"] (spSet FC DC CC NN) := by
  obtain ⟨fE, dE, iC, tI, F1, b1, b2⟩ := c.ini
  refine F.okX scSet (fun vs H Q E h => ?_) (fun cdv A' outer s H vs Q E hr h => ?_)
  · obtain ⟨D, tD, cs, x, v, rfl, _⟩ := h
    rfl
  · obtain ⟨D, tD, cs, x, v, rfl, hD, post⟩ := h
    have hu := hu_of hr
    have h1 := hr.mono (by decide : 1 ≤ 5)
    have h3 := hr.mono (by decide : 3 ≤ 5)
    refine ⟨_, pss_cons (ps_expr (pe_meth0 (pe_fld (pv 0) rfl) TF.cl MC.m MC.o h1 MC.b .nil pass0))
      (pss_cons (ps_if (pw_or (pt_not (pt_val (pe_callB call_isi (by rfl) B.isinstance boot_isi' (pa_cons (pv 1) (pa_cons (tyS (by rfl) hstr) pa_nil))))) (pw_or1 (pt_cmp (pc_dnotin hu (pv 1) (pe_fld (pe_fld (pv 0) rfl) rfl))))).pt
        (pss_one (ps_raise (W := fun cls d _ H => E cls d H) rfl (takes_of rfl rfl rfl rfl) (pmk_new c.t iC tI F1 hr (by rfl) c.g b1 pass0 (pa_cons (pv 1) pa_nil)))) pss_nil)
      (pss_one (ps_expr (pe_meth (pe_dget hu (pe_fld (pe_fld (pv 0) rfl) rfl) (pv 1) (fun _ _ => rfl)) TC.cl MP.m MP.o h3 MP.b .nil pass0 (pa_cons (pv 2) pa_nil))))), ?_⟩
    refine ⟨_, rfl, D.d, DC, D.dx, _, _, rfl, hD.desk, T.cl, T.no, rfl, D.f, D.fx, _, rfl, hD.floor, rfl, D.f, D.fx, _, rfl, hD.floor, rfl, ?_⟩
    rcases post with ⟨i, ce, hi, rfl, q⟩ | ⟨fl, hF, hn, post⟩
    · have hc : ce ∈ cs := List.mem_of_getElem? hi
      refine ⟨_, rfl, _, _, _, _, _, rfl, .ty _, .base (.str ce.z), kit_ty (r := true) (by decide +kernel), _, rfl, iteF ?_⟩
      refine ⟨_, rfl, _, rfl, D.d, DC, D.dx, _, _, rfl, hD.desk, T.cl, T.no, rfl, D.f, FC, D.fx, _, _, rfl, hD.floor, TF.cl, TF.no _ (by simp), rfl, D.cD, _, rfl, DGet.k (k := Sum.inr ce.z) hD.cells, _, rfl, ?_⟩
      have vc := valV_cell hc hD.zs
      rw [vc]
      refine iteF ⟨_, rfl, D.d, DC, D.dx, _, _, rfl, hD.desk, T.cl, T.no, rfl, D.f, FC, D.fx, _, _, rfl, hD.floor, TF.cl, TF.no _ (by simp), rfl, _, rfl, D.cD, .ref ce.a, rfl, ?_, ce.a, ce.ax, _, rfl, (hD.cell ce hc).1, rfl, _, rfl, D, tD, cs, i, ce, v, rfl, hD, hi, q⟩
      rw [← vc]
      exact DGet.k (k := Sum.inr ce.z) hD.cells
    · have raise : ∀ (aa : Addr), H aa = none → _ := fun aa na => raise_read (Kf := K) (fl := fl) (x := x) c.t c.no post (Kp.refl H) hF aa na
      cases hs : fl.isStr with
      | false =>
        obtain ⟨t, ty, kt⟩ := hF.ty (K := K)
        rw [hs] at kt
        refine ⟨_, rfl, _, _, _, _, _, rfl, .ty _, ty, kt, _, rfl, iteT (iteT ⟨_, rfl, rfl, by decide, raise⟩)⟩
      | true =>
        cases fl with
        | str z =>
          cases hF.1
          refine ⟨_, rfl, _, _, _, _, _, rfl, .ty _, .base (.str z), kit_ty (r := true) (by decide +kernel), _, rfl, iteF ?_⟩
          refine ⟨_, rfl, _, rfl, D.d, DC, D.dx, _, _, rfl, hD.desk, T.cl, T.no, rfl, D.f, FC, D.fx, _, _, rfl, hD.floor, TF.cl, TF.no _ (by simp), rfl, D.cD, _, rfl, DGet.k (k := Sum.inr z) hD.cells, _, rfl, ?_⟩
          rw [valV_out (valV_cells cs z) (of_decide_eq_false hn)]
          exact iteT ⟨_, rfl, rfl, by decide, raise⟩
        | _ => cases hs
abbrev sHas : Stmt := (inClass (top 14) 11)
theorem scHas : FnScope ["self", "thing"] ["self", "thing"] (defScope sHas) := ⟨rfl, rfl, rfl, by decide +kernel, rfl, by decide +kernel, by decide +kernel⟩
def spHas (FC DC CC : Addr) : Sp := fun vs H Q _ => ∃ (D : DA) (tD : Addr) (cs : List Ce) (x : V) (fl : Fld), vs = [.ref D.d, x] ∧ DeskAt FC DC CC H D tD cs ∧ FAt H fl x ∧ Q (.bl (hasF cs fl)) H
theorem ok_has {f : Addr} {fd : FuncData} (F : Fun K "__contains__" "Desk.__contains__" sHas f fd) (B : Bt mg) (hstr : mg "str" = none) (T : DkT K DC) (TF : FlT K FC) : FnOk P w K mg base CX0 1 f fd ["self", "thing"] (spHas FC DC CC) := by
  refine F.ok scHas (fun vs H Q E h => ?_) (fun cdv A outer s H vs Q E hr h => ?_)
  · obtain ⟨D, tD, cs, x, fl, rfl, _⟩ := h
    rfl
  · obtain ⟨D, tD, cs, x, fl, rfl, hD, hF, q⟩ := h
    have hu := hu_of hr
    refine ⟨_, pss_one (ps_ret (pe_and (pe_callB call_isi (by rfl) B.isinstance boot_isi' (pa_cons (pv 1) (pa_cons (tyS (by rfl) hstr) pa_nil))) (pe_one (pe_cmp (pc_din hu (pv 1) (pe_fld (pe_fld (pv 0) rfl) rfl)))))), ?_⟩
    cases hs : fl.isStr with
    | false =>
      obtain ⟨t, ty, kt⟩ := hF.ty (K := K)
      rw [hs] at kt
      refine ⟨_, rfl, _, _, _, _, _, rfl, .ty _, ty, kt, _, rfl, iteF ?_⟩
      have e : hasF cs fl = false := by cases fl <;> first | rfl | cases hs
      rw [e] at q
      exact q
    | true =>
      cases fl with
      | str z =>
        cases hF.1
        refine ⟨_, rfl, _, _, _, _, _, rfl, .ty _, .base (.str z), kit_ty (r := true) (by decide +kernel), _, rfl, iteT ?_⟩
        refine ⟨_, rfl, _, rfl, D.d, DC, D.dx, _, _, rfl, hD.desk, T.cl, T.no, rfl, D.f, FC, D.fx, _, _, rfl, hD.floor, TF.cl, TF.no _ (by simp), rfl, D.nD, _, rfl, DGet.k (k := Sum.inr z) hD.names, ?_⟩
        rw [valV_names]
        exact q
      | _ => cases hs
abbrev sLenD : Stmt := (inClass (top 14) 12)
theorem scLenD : FnScope ["self"] ["self"] (defScope sLenD) := ⟨rfl, rfl, rfl, by decide +kernel, rfl, by decide +kernel, by decide +kernel⟩
def spLenD (FC DC CC : Addr) : Sp := fun vs H Q _ => ∃ (D : DA) (tD : Addr) (cs : List Ce), vs = [.ref D.d] ∧ DeskAt FC DC CC H D tD cs ∧ Q (.int 0) H
theorem ok_lenD {f : Addr} {fd : FuncData} (F : Fun K "__len__" "Desk.__len__" sLenD f fd) (B : Bt mg) (T : DkT K DC) (TF : FlT K FC) : FnOk P w K mg base CX0 1 f fd ["self"] (spLenD FC DC CC) := by
  refine F.ok scLenD (fun vs H Q E h => ?_) (fun cdv A outer s H vs Q E hr h => ?_)
  · obtain ⟨D, tD, cs, rfl, _⟩ := h
    rfl
  · obtain ⟨D, tD, cs, rfl, hD, q⟩ := h
    refine ⟨_, pss_one (ps_ret (pe_callB call_len (by rfl) B.len PySem.boot_len (pa_cons (pe_fld (pe_fld (pv 0) rfl) rfl) pa_nil))), ?_⟩
    exact ⟨_, rfl, D.d, DC, D.dx, _, _, rfl, hD.desk, T.cl, T.no, rfl, D.f, FC, D.fx, _, _, rfl, hD.floor, TF.cl, TF.no _ (by simp), rfl, _, _, rfl, .inl ⟨_, SqL.of hD.log, rfl⟩, q⟩
abbrev sIterD : Stmt := (inClass (top 14) 13)
theorem scIterD : FnScope ["self"] ["self"] (defScope sIterD) := ⟨rfl, rfl, rfl, by decide +kernel, rfl, by decide +kernel, by decide +kernel⟩
def spIterD (FC DC CC : Addr) : Sp := fun vs H Q _ => ∃ (D : DA) (tD : Addr) (cs : List Ce), vs = [.ref D.d] ∧ DeskAt FC DC CC H D tD cs ∧ ∀ it, H it = none → Q (.ref it) (upd H it (ItO D.lL it 0))
theorem boot_iter' : bootBuiltins "iter" = some (.builtin "iter") := by decide +kernel
theorem ok_iterD {f : Addr} {fd : FuncData} (F : Fun K "__iter__" "Desk.__iter__" sIterD f fd) (hit : mg "iter" = none) (T : DkT K DC) (TF : FlT K FC) : FnOk P w K mg base CX0 1 f fd ["self"] (spIterD FC DC CC) := by
  refine F.ok scIterD (fun vs H Q E h => ?_) (fun cdv A outer s H vs Q E hr h => ?_)
  · obtain ⟨D, tD, cs, rfl, _⟩ := h
    rfl
  · obtain ⟨D, tD, cs, rfl, hD, q⟩ := h
    refine ⟨_, pss_one (ps_ret (pe_callB call_iterL (by rfl) hit boot_iter' (pa_cons (pe_fld (pe_fld (pv 0) rfl) rfl) pa_nil))), ?_⟩
    exact ⟨_, rfl, D.d, DC, D.dx, _, _, rfl, hD.desk, T.cl, T.no, rfl, D.f, FC, D.fx, _, _, rfl, hD.floor, TF.cl, TF.no _ (by simp), rfl, D.lL, _, rfl, SqL.of hD.log, q⟩
end
end My

set_option Elab.async false
set_option linter.all false
set_option maxRecDepth 100000
set_option maxHeartbeats 4000000
/-! P1: a floor on which a run is under way. -/
namespace My
open PySem PySem.Spec PyProof.Rows L2
def runF (z : Str) (ia : Bool) (o : V) (nt : Addr) (q : Int) : List (Str × V) := [("name", .str z), ("is_of_answer", .bl ia), ("outer", o), ("notes", .ref nt), ("quiet", .int q)]
def floorG (nD cD sD eL lL : Addr) (inm : V) (tD : Addr) : List (Str × V) := [("most_runs", .int 100), ("names", .ref nD), ("cells", .ref cD), ("sources", .ref sD), ("effects", .ref eL), ("log", .ref lL), ("inmost", inm), ("batches", .int 0), ("turned", .ref tD)]
structure RnT (K : PySem.W.Frag) (C : Addr) : Prop where
  cl : Cls K C
  no : ∀ f ∈ (["name", "is_of_answer", "outer", "notes", "quiet"] : List Str), NoAttr K C f
/-- no run of this name from here outward -/
def Free (RC : Addr) (H : Hp) (z : Str) : Nat → V → Prop
  | 0, v => v = .non
  | n + 1, v => ∃ (r rx nt : Addr) (z' : Str) (ia : Bool) (o : V) (q : Int), v = .ref r ∧ H r = some (.ins RC rx (runF z' ia o nt q)) ∧ z' ≠ z ∧ Free RC H z n o
/-- setdefault -/
def setd (kvs : List (Key × V)) (k : Key) (v : V) : List (Key × V) := if (valV kvs k).isSome then kvs else kvs ++ [(k, v)]
theorem workCall_mono {P : Program} {w : World} {K : PySem.W.Frag} {mg : Str → Option Value} {base : Heap} {k : Nat} {f : Addr} {H : Hp} {Q Q' : VK} (h : WorkCall P w K mg base k f H Q) (i : ∀ v H', Q v H' → Q' v H') : WorkCall P w K mg base k f H Q' := fun A outer s hr e0 =>
  codeAny_mono (h A outer s hr e0) fun r s' hq => by
    cases r with
    | error e => exact hq
    | ok fl =>
      cases fl with
      | ret u =>
        obtain ⟨v, H2, a, b, c, d, e, q⟩ := hq
        exact ⟨v, H2, a, b, c, d, e, i _ _ q⟩
      | next => exact hq
      | brk => exact hq
      | cont => exact hq
section
variable {P : Program} {w : World} {K : PySem.W.Frag} {mg : Str → Option Value} {base : Heap} {FC DC CC RC : Addr}
abbrev sInitR : Stmt := (inClass (top 11) 0)
theorem scInitR : FnScope ["self", "name", "is_of_answer", "outer"] ["self", "name", "is_of_answer", "outer"] (defScope sInitR) := ⟨rfl, rfl, rfl, by decide +kernel, rfl, by decide +kernel, by decide +kernel⟩
def spInitR (RC : Addr) : Sp := fun vs H Q _ => ∃ (r rx : Addr) (z : Str) (ia : Bool) (o : V), vs = [.ref r, .str z, .bl ia, o] ∧ H r = some (.ins RC rx []) ∧ ∀ H' nt, Kp [r] H H' → H nt = none → H' r = some (.ins RC rx (runF z ia o nt 0)) → H' nt = some (.dK []) → Q .non H'
theorem ok_initR {f : Addr} {fd : FuncData} (F : Fun K "__init__" "Run.__init__" sInitR f fd) (T : RnT K RC) : FnOk P w K mg base CX0 1 f fd ["self", "name", "is_of_answer", "outer"] (spInitR RC) := by
  refine F.ok scInitR (fun vs H Q E h => ?_) (fun cdv A outer s H vs Q E hr h => ?_)
  · obtain ⟨r, rx, z, ia, o, rfl, _⟩ := h
    rfl
  · obtain ⟨r, rx, z, ia, o, rfl, hf, k⟩ := h
    refine ⟨_, pss_cons (ps_fld (pv 0) (pv 1) rfl) (pss_cons (ps_fld (pv 0) (pv 2) rfl) (pss_cons (ps_fld (pv 0) (pv 3) rfl) (pss_cons (ps_fld (pv 0) pe_dnewK rfl) (pss_one (ps_fld (pv 0) pe_int rfl))))), ?_⟩
    refine ⟨_, rfl, _, rfl, r, RC, rx, _, rfl, hf, T.cl, T.no _ (by simp), (by show 0 < 1000; decide), ?_⟩
    obtain ⟨H1, e1, o1, k1, _⟩ := gstep (H := H) (putF "name" (.str z) []) (Kp.refl H) hf
    rw [e1]
    refine ⟨_, rfl, _, rfl, r, RC, rx, _, rfl, o1, T.cl, T.no _ (by simp), (by show 1 < 1000; decide), ?_⟩
    obtain ⟨H2, e2, o2, k2, _⟩ := gstep (H := H) (putF "is_of_answer" (.bl ia) (putF "name" (.str z) [])) k1 o1
    rw [e2]
    refine ⟨_, rfl, _, rfl, r, RC, rx, _, rfl, o2, T.cl, T.no _ (by simp), (by show 2 < 1000; decide), ?_⟩
    obtain ⟨H3, e3, o3, k3, _⟩ := gstep (H := H) (putF "outer" o (putF "is_of_answer" (.bl ia) (putF "name" (.str z) []))) k2 o2
    rw [e3]
    intro nt hn
    obtain ⟨o3', H4, e4, o4, k4, n4, fn, nf, st4⟩ := fstep (putF "notes" (.ref nt) (putF "outer" o (putF "is_of_answer" (.bl ia) (putF "name" (.str z) [])))) (.dK []) o3 k3 hn
    refine ⟨_, rfl, r, RC, rx, _, rfl, o3', T.cl, T.no _ (by simp), (by show 3 < 1000; decide), ?_⟩
    rw [e4]
    refine ⟨_, rfl, r, RC, rx, _, rfl, o4, T.cl, T.no _ (by simp), (by show 4 < 1000; decide), ?_⟩
    obtain ⟨H5, e5, o5, k5, st5⟩ := gstep (putF "quiet" (.int 0) (putF "notes" (.ref nt) (putF "outer" o (putF "is_of_answer" (.bl ia) (putF "name" (.str z) []))))) k4 o4
    rw [e5]
    exact k H5 nt k5 fn o5 (st5 _ _ nf n4)
abbrev sBegun : Stmt := (inClass (top 12) 4)
theorem scBegun : FnScope ["self", "name", "is_of_answer"] ["self", "name", "is_of_answer"] (defScope sBegun) := ⟨rfl, rfl, rfl, by decide +kernel, rfl, by decide +kernel, by decide +kernel⟩
def spBegun (FC RC : Addr) : Sp := fun vs H Q _ => ∃ (f fx : Addr) (fs : List (Str × V)) (z : Str) (ia : Bool) (o : V), vs = [.ref f, .str z, .bl ia] ∧ H f = some (.ins FC fx fs) ∧ fs.lookup ("inmost" : Str) = some o ∧ ∀ H' r rx nt, Kp [] H H' → H r = none → H nt = none → r ≠ nt → H' r = some (.ins RC rx (runF z ia o nt 0)) → H' nt = some (.dK []) → Q (.ref r) H'
theorem ok_begun {f fI : Addr} {fd dI : FuncData} (F : Fun K "begun" "Floor.begun" sBegun f fd) (T : FlT K FC) (MkR : Mk K RC fI) (gR : mg "Run" = some (.ref RC)) (oR : FnOk P w K mg base CX0 1 fI dI ["self", "name", "is_of_answer", "outer"] (spInitR RC)) (bR : Binds K dI ["self", "name", "is_of_answer", "outer"] []) :
    FnOk P w K mg base CX0 3 f fd ["self", "name", "is_of_answer"] (spBegun FC RC) := by
  refine F.ok scBegun (fun vs H Q E h => ?_) (fun cdv A outer s H vs Q E hr h => ?_)
  · obtain ⟨f, fx, fs, z, ia, o, rfl, _⟩ := h
    rfl
  · obtain ⟨f, fx, fs, z, ia, o, rfl, hf, hl, k⟩ := h
    refine ⟨_, pss_one (ps_ret (pe_make MkR oR (hr.mono (by decide)) (by rfl) gR bR .nil pass0 (pa_cons (pv 1) (pa_cons (pv 2) (pa_cons (pe_fld (pv 0) rfl) pa_nil))))), ?_⟩
    refine ⟨_, rfl, _, rfl, _, rfl, f, FC, fx, fs, _, rfl, hf, T.cl, T.no _ (by simp), hl, fun r rx hr' hrx ne => ⟨r, rx, z, ia, o, rfl, upd_same, fun H' nt k1 hnt e1 e2 => ⟨rfl, ?_⟩⟩⟩
    have back : ∀ y, upd (upd H rx (.own r)) r (.ins RC rx []) y = none → H y = none := fun y e => by
      have n1 : y ≠ r := fun z => by rw [z, upd_same] at e; cases e
      rw [upd_ne n1] at e
      have n2 : y ≠ rx := fun z => by rw [z, upd_same] at e; cases e
      rw [upd_ne n2] at e
      exact e
    have n1 : nt ≠ r := fun z => by rw [z, upd_same] at hnt; cases hnt
    refine k H' r rx nt (fun q u _ e => k1 q u (by simpa using ne_of_none e hr') (by rw [upd_ne (ne_of_none e hr'), upd_ne (ne_of_none e hrx)]; exact e)) hr' (back _ hnt) n1.symm e1 e2
abbrev sBusy : Stmt := (inClass (top 12) 3)
theorem scBusy : FnScope ["self", "name", "run"] ["self", "name"] (defScope sBusy) := ⟨rfl, rfl, rfl, by decide +kernel, rfl, by decide +kernel, by decide +kernel⟩
def spBusy (FC RC : Addr) : Sp := fun vs H Q _ => ∃ (f fx : Addr) (fs : List (Str × V)) (z : Str) (o : V) (n : Nat), vs = [.ref f, .str z] ∧ H f = some (.ins FC fx fs) ∧ fs.lookup ("inmost" : Str) = some o ∧ Free RC H z n o ∧ Q .non H
theorem ok_busy {f : Addr} {fd : FuncData} (F : Fun K "check_not_busy" "Floor.check_not_busy" sBusy f fd) (T : FlT K FC) (TR : RnT K RC) : FnOk P w K mg base CX0 1 f fd ["self", "name"] (spBusy FC RC) := by
  refine F.ok scBusy (fun vs H Q E h => ?_) (fun cdv A outer s H vs Q E hr h => ?_)
  · obtain ⟨f, fx, fs, z, o, n, rfl, _⟩ := h
    rfl
  · obtain ⟨f, fx, fs, z, o, n, rfl, hf, hl, hF, q⟩ := h
    have nd := scBusy.nd
    refine ⟨_, pss_cons (ps_set (i := 2) nd rfl (Or.inl rfl) (pe_fld (pv 0) rfl)) (pss_one (ps_while PassesOwn.never (pt_cmp (pc_notN (pv 2))) (pss_cons (ps_if (pt_cmpR op_eq (pe_fld (pv 2) rfl) (pv 1) (nomark _)) pss_dead pss_nil) (pss_one (ps_set (i := 2) nd rfl (Or.inl rfl) (pe_fld (pv 2) rfl)))))), ?_⟩
    refine ⟨_, rfl, f, FC, fx, fs, _, rfl, hf, T.cl, T.no _ (by simp), hl, ?_⟩
    refine ⟨fun m σ' H' => ∃ o, σ' = [some (.ref f), some (.str z), some o] ∧ H' = H ∧ Free RC H z m o, ⟨n, o, rfl, rfl, hF⟩, ?_⟩
    rintro m σ' H' ⟨o, rfl, rfl, hF⟩
    cases m with
    | zero =>
      obtain rfl : o = V.non := hF
      exact ⟨_, rfl, _, rfl, iteF q⟩
    | succ m =>
      obtain ⟨r, rx, nt, z', ia, o', q', rfl, hr', nz, hF⟩ := hF
      refine ⟨_, rfl, _, rfl, iteT ?_⟩
      refine ⟨fun σ' H'' => ∃ o, σ' = [some (.ref f), some (.str z), some o] ∧ H'' = H' ∧ Free RC H' z m o, fun σ'' H'' e => ⟨m, Nat.lt_succ_self _, e⟩, ?_⟩
      refine ⟨_, rfl, r, RC, rx, _, _, rfl, hr', TR.cl, TR.no _ (by simp), rfl, _, rfl, rfl, _, rfl, ?_⟩
      have e0 : decide (V.str z' = V.str z) = false := decide_eq_false fun e => nz (V.str.inj e)
      rw [e0]
      refine iteF ?_
      exact ⟨_, rfl, r, RC, rx, _, _, rfl, hr', TR.cl, TR.no _ (by simp), rfl, _, rfl, rfl, hF⟩
abbrev sCarry : Stmt := (inClass (top 12) 5)
theorem scCarry : FnScope ["self", "run", "work"] ["self", "run", "work"] (defScope sCarry) := ⟨rfl, rfl, rfl, by decide +kernel, rfl, by decide +kernel, by decide +kernel⟩
/-- the work called while the run is the innermost one -/
def spCarry (P : Program) (w : World) (K : PySem.W.Frag) (mg : Str → Option Value) (base : Heap) (FC RC : Addr) (k : Nat) : Sp := fun vs H Q _ => ∃ (f fx r rx nt wk : Addr) (fs : List (Str × V)) (z : Str) (ia : Bool) (o : V) (q : Int), vs = [.ref f, .ref r, .ref wk] ∧ H f = some (.ins FC fx fs) ∧ fs.length < 100 ∧ r ≠ f ∧ H r = some (.ins RC rx (runF z ia o nt q)) ∧ IsFnO H wk ∧
  ∀ H1, Kp [f] H H1 → H1 f = some (.ins FC fx (putF "inmost" (.ref r) fs)) → WorkCall P w K mg base k wk H1 fun v H2 => H2 f = some (.ins FC fx (putF "inmost" (.ref r) fs)) ∧ H2 r = some (.ins RC rx (runF z ia o nt q)) ∧ ∀ H3, Kp [f] H2 H3 → H3 f = some (.ins FC fx (putF "inmost" o (putF "inmost" (.ref r) fs))) → Q v H3
theorem len_putF (x : Str) (v : V) : ∀ fs : List (Str × V), (putF x v fs).length ≤ fs.length + 1
  | [] => Nat.le_refl _
  | p :: r => by
    have := len_putF x v r
    unfold putF
    split <;> simp <;> omega
theorem ok_carry {f : Addr} {fd : FuncData} {k : Nat} (F : Fun K "carry_out" "Floor.carry_out" sCarry f fd) (T : FlT K FC) (TR : RnT K RC) : FnOk P w K mg base CX0 (k + 1) f fd ["self", "run", "work"] (spCarry P w K mg base FC RC k) := by
  refine F.ok scCarry (fun vs H Q E h => ?_) (fun cdv A outer s H vs Q E hr h => ?_)
  · obtain ⟨f, fx, r, rx, nt, wk, fs, z, ia, o, q, rfl, _⟩ := h
    rfl
  · obtain ⟨f, fx, r, rx, nt, wk, fs, z, ia, o, q, rfl, hf, hlen, nrf, hr', hw, k⟩ := h
    have nd := scCarry.nd
    have hl1 := len_putF "inmost" (.ref r) fs
    refine ⟨_, pss_cons (ps_fld (pv 0) (pv 1) rfl) (pss_one (ps_retFin (pe_work (i := 2) hr rfl (Or.inl rfl)) (pss_one (ps_fld (pv 0) (pe_fld (pv 1) rfl) rfl)))), ?_⟩
    refine ⟨_, rfl, _, rfl, f, FC, fx, fs, rfl, hf, T.cl, T.no _ (by simp), by omega, ?_⟩
    obtain ⟨H1, e1⟩ : ∃ H1, upd H f (.ins FC fx (putF "inmost" (.ref r) fs)) = H1 := ⟨_, rfl⟩
    have o1 : H1 f = some (.ins FC fx (putF "inmost" (.ref r) fs)) := by rw [← e1]; exact upd_same
    have k1 : Kp [f] H H1 := by rw [← e1]; exact Kp.put (by simp)
    rw [e1]
    have nwf : wk ≠ f := fun e => by
      obtain ⟨φ, hφ, _⟩ := hw
      rw [e, hf] at hφ; cases hφ
    refine ⟨wk, rfl, ?_, workCall_mono (k H1 k1 o1) ?_⟩
    · obtain ⟨φ, hφ, q⟩ := hw
      exact ⟨φ, k1 _ _ (by simpa using nwf) hφ, q⟩
    · rintro v H2 ⟨f2, r2, k2⟩
      refine ⟨_, rfl, r, RC, rx, _, _, rfl, r2, TR.cl, TR.no _ (by simp), rfl, _, rfl, f, FC, fx, _, rfl, f2, T.cl, T.no _ (by simp), by omega, ?_⟩
      exact k2 _ (Kp.put (by simp)) upd_same
end
end My

set_option Elab.async false
set_option linter.all false
set_option maxRecDepth 100000
set_option maxHeartbeats 4000000
/-! P2: notes, and whether they are in order. -/
namespace My
open PySem PySem.Spec PyProof.Rows L2
def duesT (cs : List Ce) : List (Key × V) := cs.map fun c => (Sum.inr c.z, V.int c.v)
theorem valV_due {cs : List Ce} {c : Ce} (h : c ∈ cs) (nd : (cs.map Ce.z).Nodup) : valV (duesT cs) (Sum.inr c.z) = some (.int c.v) := by
  induction cs with
  | nil => cases h
  | cons b r ih =>
    rw [List.map_cons, List.nodup_cons] at nd
    rcases List.mem_cons.mp h with rfl | h
    · exact valV_pos (p := (Sum.inr c.z, V.int c.v)) rfl
    · have e : ¬ b.z = c.z := fun q => nd.1 (by rw [q]; exact List.mem_map_of_mem h)
      have ne : ¬ (Sum.inr b.z : Key) = Sum.inr c.z := fun q => e (Sum.inr.inj q)
      show valV ((Sum.inr b.z, V.int b.v) :: duesT r) (Sum.inr c.z) = _
      rw [valV_neg ne]
      exact ih h nd.2
/-- whether all noted values are the cells' own -/
def ordB (cs : List Ce) (kvs : List (Key × V)) : Bool := kvs.all fun p => decide (valV (duesT cs) p.1 = some p.2)
section
variable {P : Program} {w : World} {K : PySem.W.Frag} {mg : Str → Option Value} {base : Heap} {FC DC CC RC : Addr}
def spNoteR (FC RC : Addr) : Sp := fun vs H Q _ => ∃ (f fx r rx nt : Addr) (fs : List (Str × V)) (z z' : Str) (v o : V) (ia : Bool) (kvs : List (Key × V)), vs = [.ref f, .str z, v] ∧ H f = some (.ins FC fx fs) ∧ fs.lookup ("inmost" : Str) = some (V.ref r) ∧ H r = some (.ins RC rx (runF z' ia o nt 0)) ∧
  H nt = some (.dK kvs) ∧ kvs.length < 1000 ∧ ∀ H', Kp [nt] H H' → H' nt = some (.dK (setd kvs (Sum.inr z) v)) → Q .non H'
theorem ok_noteR {f : Addr} {fd : FuncData} (F : Fun K "note" "Floor.note" sNote f fd) (T : FlT K FC) (TR : RnT K RC) : FnOk P w K mg base CX0 1 f fd ["self", "name", "worth"] (spNoteR FC RC) := by
  refine F.ok scNote (fun vs H Q E h => ?_) (fun cdv A outer s H vs Q E hr h => ?_)
  · obtain ⟨f, fx, r, rx, nt, fs, z, z', v, o, ia, kvs, rfl, _⟩ := h
    rfl
  · obtain ⟨f, fx, r, rx, nt, fs, z, z', v, o, ia, kvs, rfl, hf, hl, hr', hn, hlen, k⟩ := h
    have nd := scNote.nd
    have hsl := sizeLine_eq
    refine ⟨_, pss_cons (ps_set (i := 3) nd rfl (Or.inl rfl) (pe_fld (pv 0) rfl)) (pss_one (ps_if (pw_and (pt_cmp (pc_notN (pv 3))) (pw_and1 (pt_cmpR op_eq (pe_fld (pv 3) rfl) pe_int (nomark _)))).pt
      (pss_one (ps_expr (pe_dsetd (pe_fld (pv 3) rfl) (pv 1) (pv 2) ⟨rfl, rfl, rfl, rfl⟩))) pss_nil)), ?_⟩
    refine ⟨_, rfl, f, FC, fx, fs, _, rfl, hf, T.cl, T.no _ (by simp), hl, _, rfl, _, rfl, iteT ?_⟩
    refine ⟨_, rfl, r, RC, rx, _, _, rfl, hr', TR.cl, TR.no _ (by simp), rfl, rfl, _, rfl, iteT ?_⟩
    refine ⟨_, rfl, r, RC, rx, _, _, rfl, hr', TR.cl, TR.no _ (by simp), rfl, nt, rfl, .inl ⟨kvs, .inl hn⟩, _, rfl, _, rfl, kvs, Sum.inr z, hn, rfl, by omega, fun u hu => ?_, fun hu => ?_⟩
    · refine k H (Kp.refl H) ?_
      rw [hn]
      unfold setd
      rw [hu]
      rfl
    · refine k _ (Kp.put (by simp)) ?_
      rw [upd_same]
      unfold setd
      rw [hu, putK_new _ hu]
      rfl
def spCallR (FC CC RC : Addr) : Sp := fun vs H Q _ => ∃ (a ax f fx r rx nt : Addr) (fs : List (Str × V)) (z z' : Str) (v : Int) (o : V) (ia : Bool) (kvs : List (Key × V)), vs = [.ref a] ∧ H a = some (.ins CC ax (cellF z f v)) ∧ H f = some (.ins FC fx fs) ∧ fs.lookup ("inmost" : Str) = some (V.ref r) ∧ fs.lookup ("note" : Str) = none ∧
  H r = some (.ins RC rx (runF z' ia o nt 0)) ∧ H nt = some (.dK kvs) ∧ kvs.length < 1000 ∧ ∀ H', Kp [nt] H H' → H' nt = some (.dK (setd kvs (Sum.inr z) (.int v))) → Q (.int v) H'
theorem ok_callR {f fN : Addr} {fd dN : FuncData} (F : Fun K "__call__" "Cell.__call__" sCall f fd) (T : CeT K CC) (TF : FlT K FC) (MN : MO P w K mg base FC "note" 1 ["self", "name", "worth"] (spNoteR FC RC) fN dN) : FnOk P w K mg base CX0 2 f fd ["self"] (spCallR FC CC RC) := by
  refine F.ok scCall (fun vs H Q E h => ?_) (fun cdv A outer s H vs Q E hr h => ?_)
  · obtain ⟨a, ax, f, fx, r, rx, nt, fs, z, z', v, o, ia, kvs, rfl, _⟩ := h
    rfl
  · obtain ⟨a, ax, f, fx, r, rx, nt, fs, z, z', v, o, ia, kvs, rfl, ha, hf, hl, hn, hr', hnt, hlen, k⟩ := h
    refine ⟨_, pss_cons (ps_expr (pe_meth (pe_fld (pv 0) rfl) TF.cl MN.m MN.o hr MN.b .nil pass0 (pa_cons (pe_fld (pv 0) rfl) (pa_cons (pe_fld (pv 0) rfl) pa_nil)))) (pss_one (ps_ret (pe_fld (pv 0) rfl))), ?_⟩
    have nan : a ≠ nt := fun e => by rw [e, hnt] at ha; cases ha
    refine ⟨_, rfl, a, CC, ax, _, _, rfl, ha, T.cl, T.no _ (by simp), rfl, f, fx, fs, rfl, hf, hn, _, rfl, a, CC, ax, _, _, rfl, ha, T.cl, T.no _ (by simp), rfl, _, rfl, a, CC, ax, _, _, rfl, ha, T.cl, T.no _ (by simp), rfl, f, fx, r, rx, nt, fs, z, z', _, o, ia, kvs, rfl, hf, hl, hr', hnt, hlen, fun H' k1 h1 => ?_⟩
    have ha' := k1 _ _ (by simpa using nan) ha
    exact ⟨_, rfl, a, CC, ax, _, _, rfl, ha', T.cl, T.no _ (by simp), rfl, k H' k1 h1⟩
abbrev sCurC : Stmt := (inClass (top 15) 6)
theorem scCurC : FnScope ["self"] ["self"] (defScope sCurC) := ⟨rfl, rfl, rfl, by decide +kernel, rfl, by decide +kernel, by decide +kernel⟩
theorem ok_curC {f : Addr} {fd : FuncData} (F : Fun K "current" "Cell.current" sCurC f fd) (T : CeT K CC) : FnOk P w K mg base CX0 1 f fd ["self"] (spVal CC) := by
  refine F.ok scCurC (fun vs H Q E h => ?_) (fun cdv A outer s H vs Q E hr h => ?_)
  · obtain ⟨a, ax, f, z, v, rfl, _⟩ := h
    rfl
  · obtain ⟨a, ax, f, z, v, rfl, ha, q⟩ := h
    exact ⟨_, pss_one (ps_ret (pe_fld (pv 0) rfl)), _, rfl, a, CC, ax, _, _, rfl, ha, T.cl, T.no _ (by simp), rfl, q⟩
abbrev sOrd : Stmt := (inClass (top 12) 9)
theorem scOrd : FnScope ["self", "notes", "name", "noted"] ["self", "notes"] (defScope sOrd) := ⟨rfl, rfl, rfl, by decide +kernel, rfl, by decide +kernel, by decide +kernel⟩
/-- notes of cells alone -/
def spOrd (FC CC : Addr) : Sp := fun vs H Q _ => ∃ (f fx sD nt : Addr) (fs : List (Str × V)) (src kvs : List (Key × V)) (cs : List Ce), vs = [.ref f, .ref nt] ∧ H f = some (.ins FC fx fs) ∧ fs.lookup ("sources" : Str) = some (V.ref sD) ∧ H sD = some (.dK src) ∧ H nt = some (.dK kvs) ∧ nt ≠ sD ∧ (cs.map Ce.z).Nodup ∧
  (∀ c ∈ cs, valV src (Sum.inr c.z) = some (.ref c.a) ∧ H c.a = some (.ins CC c.ax (cellF c.z f c.v))) ∧ (∀ p ∈ kvs, ∃ c ∈ cs, ∃ m : Int, p = (Sum.inr c.z, V.int m)) ∧ ∀ H', Kp [] H H' → Q (.bl (ordB cs kvs)) H'
theorem ok_ord {f fC : Addr} {fd dC : FuncData} (F : Fun K "are_in_order" "Floor.are_in_order" sOrd f fd) (T : FlT K FC) (TC : CeT K CC) (MC : MO P w K mg base CC "current" 1 ["self"] (spVal CC) fC dC) : FnOk P w K mg base CX0 2 f fd ["self", "notes"] (spOrd FC CC) := by
  refine F.ok scOrd (fun vs H Q E h => ?_) (fun cdv A outer s H vs Q E hr h => ?_)
  · obtain ⟨f, fx, sD, nt, fs, src, kvs, cs, rfl, _⟩ := h
    rfl
  · obtain ⟨f, fx, sD, nt, fs, src, kvs, cs, rfl, hf, hl, hs, hn, nns, hnd, hc, hk, k⟩ := h
    have nd := scOrd.nd
    have hu := hu_of hr
    refine ⟨_, pss_cons (ps_lock (ps_for PassesOwn.never rfl (pi_items (pv 1)) (pg_tup rfl (pgs_cons (pg_name (i := 2) nd rfl (Or.inl rfl)) (pgs_cons (pg_name (i := 3) nd rfl (Or.inl rfl)) pgs_nil)))
      (pss_one (ps_if (pt_cmpR op_ne (pe_meth0 (pe_dget hu (pe_fld (pv 0) rfl) (pv 2) (fun _ _ => rfl)) TC.cl MC.m MC.o hr MC.b .nil pass0) (pv 3) (nomark _)) (pss_one (ps_ret pe_bl)) pss_nil)))) (pss_one (ps_ret pe_bl)), ?_⟩
    refine ⟨nt, _, hn, trivial, fun od => ?_⟩
    obtain ⟨HL, eL⟩ : ∃ HL, upd H nt (.frz od (.dK kvs)) = HL := ⟨_, rfl⟩
    rw [eL]
    have nL : HL nt = some (.frz od (.dK kvs)) := by rw [← eL]; exact upd_same
    have oL : ∀ q, q ≠ nt → HL q = H q := fun q n => by rw [← eL]; exact upd_ne n
    have nnf : f ≠ nt := fun e => by rw [e, hn] at hf; cases hf
    have back : ∀ H', Kp [] HL H' → Kp [] H (upd H' nt (.dK kvs)) := fun H' kp q o _ e => by
      by_cases hq : q = nt
      · rw [hq, upd_same]; rw [hq, hn] at e; exact e
      · rw [upd_ne hq]; exact kp q o (by simp) ((oL q hq).trans e)
    refine ⟨_, rfl, nt, od, kvs, rfl, nL, ?_⟩
    refine for_it walk_items (fun i σ H' => ∃ v2 v3, σ = [some (.ref f), some (.ref nt), v2, v3] ∧ Kp [] HL H' ∧ (kvs.take i).all (fun p => decide (valV (duesT cs) p.1 = some p.2)) = true) ⟨none, none, rfl, Kp.refl _, rfl⟩ (fun i σ H' _ ⟨_, _, _, kp, _⟩ => kp _ _ (by simp) nL) ?_ ?_
    · rintro i x σ H1 H2 hi ⟨v2, v3, rfl, kp, hal⟩ ⟨t, y1, y2, rfl, ht, rfl, e1, e2⟩
      obtain ⟨p, hp⟩ : ∃ p, kvs[i]? = some p := ⟨_, List.getElem?_eq_getElem hi⟩
      obtain ⟨c, hcm, m, rfl⟩ := hk p (List.mem_of_getElem? hp)
      have e1 : (kvs[i]?.map fun kv => kV kv.1) = some y1 := e1
      have e2 : kvs[i]?.map Prod.snd = some y2 := e2
      rw [hp] at e1 e2
      obtain rfl : V.str c.z = y1 := Option.some.inj e1
      obtain rfl : V.int m = y2 := Option.some.inj e2
      obtain ⟨hv, hca⟩ := hc c hcm
      have K2 : Kp [] HL (upd H1 t (.tup [V.str c.z, .int m])) := kp.trans (Kp.new ht)
      have get : ∀ q o, q ≠ nt → H q = some o → upd H1 t (.tup [V.str c.z, .int m]) q = some o := fun q o n e => K2 q o (by simp) ((oL q n).trans e)
      have nca : c.a ≠ nt := fun e => by rw [e, hn] at hca; cases hca
      have gs := get sD _ nns.symm hs
      refine ⟨t, _, rfl, SqT.of upd_same, rfl, _, _, rfl, ?_⟩
      refine ⟨_, _, rfl, rfl, ?_⟩
      have dg := DGet.k (k := Sum.inr c.z) gs
      rw [hv] at dg
      refine ⟨_, rfl, f, FC, fx, fs, _, rfl, get f _ nnf hf, T.cl, T.no _ (by simp), hl, _, rfl, sD, .ref c.a, rfl, dg, c.a, c.ax, _, rfl, get c.a _ nca hca, rfl, c.a, c.ax, f, c.z, c.v, rfl, get c.a _ nca hca, ?_⟩
      refine ⟨_, rfl, rfl, _, rfl, ?_⟩
      have vd := valV_due hcm hnd
      by_cases hm : c.v = m
      · subst hm
        rw [decide_eq_true rfl]
        refine iteF ⟨_, _, rfl, K2, ?_⟩
        rw [List.take_succ, hp, List.all_append, hal]
        simp [vd]
      · rw [decide_eq_false (fun e => hm (V.int.inj e))]
        refine iteT ⟨K2 _ _ (by simp) nL, ?_⟩
        show Q (.bl false) _
        have eo : ordB cs kvs = false := by
          unfold ordB
          rw [← Bool.not_eq_true, List.all_eq_true]
          intro hall
          have := hall _ (List.mem_of_getElem? hp)
          rw [vd] at this
          exact hm (V.int.inj (Option.some.inj (of_decide_eq_true this)))
        rw [← eo]
        exact k _ (back _ K2)
    · rintro σ H1 ⟨v2, v3, rfl, kp, hal⟩
      refine ⟨kp _ _ (by simp) nL, ?_⟩
      show Q (.bl true) _
      have eo : ordB cs kvs = true := by
        unfold ordB
        rw [List.take_length] at hal
        exact hal
      rw [← eo]
      exact k _ (back _ kp)
end
end My

set_option Elab.async false
set_option linter.all false
set_option maxRecDepth 100000
set_option maxHeartbeats 4000000
/-! E1: effects; a place, a note, a read amid a run. -/
namespace My
open PySem PySem.Spec PyProof.Rows L2 LamX NdefX
def effF (z : Str) (rep : V) (n : Int) (nt f wk : Addr) : List (Str × V) := [("name", .str z), ("report", rep), ("runs", .int n), ("notes", .ref nt), ("_floor", .ref f), ("_work", .ref wk)]
structure EfT (K : PySem.W.Frag) (C : Addr) : Prop where
  cl : Cls K C
  no : ∀ f ∈ (["name", "report", "runs", "notes", "_floor", "_work"] : List Str), NoAttr K C f
section
variable {P : Program} {w : World} {K : PySem.W.Frag} {mg : Str → Option Value} {base : Heap} {FC DC CC RC EC : Addr}
/-- no run, or one of an effect -/
def AtEff (RC : Addr) (H : Hp) (o : V) : Prop := o = .non ∨ ∃ (r rx nt : Addr) (z : Str) (o' : V) (q : Int), o = .ref r ∧ H r = some (.ins RC rx (runF z false o' nt q))
def spPlaceE (FC RC : Addr) : Sp := fun vs H Q _ => ∃ (f fx : Addr) (fs : List (Str × V)) (o : V), vs = [.ref f] ∧ H f = some (.ins FC fx fs) ∧ fs.lookup ("inmost" : Str) = some o ∧ AtEff RC H o ∧ Q .non H
theorem ok_placeE {f : Addr} {fd : FuncData} (F : Fun K "check_place" "Floor.check_place" sPlace f fd) (T : FlT K FC) (TR : RnT K RC) : FnOk P w K mg base CX0 1 f fd ["self"] (spPlaceE FC RC) := by
  refine F.ok scPlace (fun vs H Q E h => ?_) (fun cdv A outer s H vs Q E hr h => ?_)
  · obtain ⟨f, fx, fs, o, rfl, _⟩ := h
    rfl
  · obtain ⟨f, fx, fs, o, rfl, hf, hl, ho, q⟩ := h
    refine ⟨_, pss_one (ps_if (pw_and (pt_cmp (pc_notN (pe_fld (pv 0) rfl))) (pw_and1 (pt_val (pe_fld (pe_fld (pv 0) rfl) rfl)))).pt pss_dead pss_nil), ?_⟩
    rcases ho with rfl | ⟨r, rx, nt, z, o', q', rfl, hr'⟩
    · exact ⟨_, rfl, f, FC, fx, fs, _, rfl, hf, T.cl, T.no _ (by simp), hl, _, rfl, iteF (iteF q)⟩
    · exact ⟨_, rfl, f, FC, fx, fs, _, rfl, hf, T.cl, T.no _ (by simp), hl, _, rfl, iteT ⟨_, rfl, f, FC, fx, fs, _, rfl, hf, T.cl, T.no _ (by simp), hl, r, RC, rx, _, _, rfl, hr', TR.cl, TR.no _ (by simp), rfl, false, rfl, iteF q⟩⟩
abbrev sInitE : Stmt := (inClass (top 17) 0)
theorem scInitE : FnScope ["self", "floor", "name", "work"] ["self", "floor", "name", "work"] (defScope sInitE) := ⟨rfl, rfl, rfl, by decide +kernel, rfl, by decide +kernel, by decide +kernel⟩
def spInitE (EC : Addr) : Sp := fun vs H Q _ => ∃ (a ax f wk : Addr) (z : Str), vs = [.ref a, .ref f, .str z, .ref wk] ∧ H a = some (.ins EC ax []) ∧ ∀ H' nt, Kp [a] H H' → H nt = none → H' a = some (.ins EC ax (effF z .non 0 nt f wk)) → H' nt = some (.dK []) → Q .non H'
theorem ok_initE {f : Addr} {fd : FuncData} (F : Fun K "__init__" "Effect.__init__" sInitE f fd) (T : EfT K EC) : FnOk P w K mg base CX0 1 f fd ["self", "floor", "name", "work"] (spInitE EC) := by
  refine F.ok scInitE (fun vs H Q E h => ?_) (fun cdv A outer s H vs Q E hr h => ?_)
  · obtain ⟨a, ax, f, wk, z, rfl, _⟩ := h
    rfl
  · obtain ⟨a, ax, f, wk, z, rfl, ha, k⟩ := h
    refine ⟨_, pss_cons (ps_fld (pv 0) (pv 2) rfl) (pss_cons (ps_fld (pv 0) pe_non rfl) (pss_cons (ps_fld (pv 0) pe_int rfl) (pss_cons (ps_fld (pv 0) pe_dnewK rfl) (pss_cons (ps_fld (pv 0) (pv 1) rfl) (pss_one (ps_fld (pv 0) (pv 3) rfl)))))), ?_⟩
    refine ⟨_, rfl, _, rfl, a, EC, ax, _, rfl, ha, T.cl, T.no _ (by simp), (by show 0 < 1000; decide), ?_⟩
    obtain ⟨H1, e1, o1, k1, _⟩ := gstep (H := H) (putF "name" (.str z) []) (Kp.refl H) ha
    rw [e1]
    refine ⟨_, rfl, a, EC, ax, _, rfl, o1, T.cl, T.no _ (by simp), (by show 1 < 1000; decide), ?_⟩
    obtain ⟨H2, e2, o2, k2, _⟩ := gstep (H := H) (putF "report" .non (putF "name" (.str z) [])) k1 o1
    rw [e2]
    refine ⟨_, rfl, a, EC, ax, _, rfl, o2, T.cl, T.no _ (by simp), (by show 2 < 1000; decide), ?_⟩
    obtain ⟨H3, e3, o3, k3, _⟩ := gstep (H := H) (putF "runs" (.int 0) (putF "report" .non (putF "name" (.str z) []))) k2 o2
    rw [e3]
    intro nt hn
    obtain ⟨o3', H4, e4, o4, k4, n4, fn, nf, st4⟩ := fstep (putF "notes" (.ref nt) (putF "runs" (.int 0) (putF "report" .non (putF "name" (.str z) [])))) (.dK []) o3 k3 hn
    refine ⟨_, rfl, a, EC, ax, _, rfl, o3', T.cl, T.no _ (by simp), (by show 3 < 1000; decide), ?_⟩
    rw [e4]
    refine ⟨_, rfl, _, rfl, a, EC, ax, _, rfl, o4, T.cl, T.no _ (by simp), (by show 4 < 1000; decide), ?_⟩
    obtain ⟨H5, e5, o5, k5, st5⟩ := gstep (putF "_floor" (.ref f) (putF "notes" (.ref nt) (putF "runs" (.int 0) (putF "report" .non (putF "name" (.str z) []))))) k4 o4
    rw [e5]
    refine ⟨_, rfl, _, rfl, a, EC, ax, _, rfl, o5, T.cl, T.no _ (by simp), (by show 5 < 1000; decide), ?_⟩
    obtain ⟨H6, e6, o6, k6, st6⟩ := gstep (putF "_work" (.ref wk) (putF "_floor" (.ref f) (putF "notes" (.ref nt) (putF "runs" (.int 0) (putF "report" .non (putF "name" (.str z) [])))))) k5 o5
    rw [e6]
    exact k H6 nt k6 fn o6 (st6 _ _ nf (st5 _ _ nf n4))
/-- in a quiet call nothing is noted -/
def spNoteQ (FC RC : Addr) : Sp := fun vs H Q _ => ∃ (f fx r rx nt : Addr) (fs : List (Str × V)) (z' : Str) (x v o : V) (ia : Bool) (q : Int), vs = [.ref f, x, v] ∧ H f = some (.ins FC fx fs) ∧ fs.lookup ("inmost" : Str) = some (V.ref r) ∧ H r = some (.ins RC rx (runF z' ia o nt q)) ∧ q ≠ 0 ∧ Q .non H
theorem ok_noteQ {f : Addr} {fd : FuncData} (F : Fun K "note" "Floor.note" sNote f fd) (T : FlT K FC) (TR : RnT K RC) : FnOk P w K mg base CX0 1 f fd ["self", "name", "worth"] (spNoteQ FC RC) := by
  refine F.ok scNote (fun vs H Q E h => ?_) (fun cdv A outer s H vs Q E hr h => ?_)
  · obtain ⟨f, fx, r, rx, nt, fs, z', x, v, o, ia, q, rfl, _⟩ := h
    rfl
  · obtain ⟨f, fx, r, rx, nt, fs, z', x, v, o, ia, q, rfl, hf, hl, hr', hq, k⟩ := h
    have nd := scNote.nd
    refine ⟨_, pss_cons (ps_set (i := 3) nd rfl (Or.inl rfl) (pe_fld (pv 0) rfl)) (pss_one (ps_if (pw_and (pt_cmp (pc_notN (pv 3))) (pw_and1 (pt_cmpR op_eq (pe_fld (pv 3) rfl) pe_int (nomark _)))).pt pss_dead pss_nil)), ?_⟩
    refine ⟨_, rfl, f, FC, fx, fs, _, rfl, hf, T.cl, T.no _ (by simp), hl, _, rfl, _, rfl, iteT ?_⟩
    refine ⟨_, rfl, r, RC, rx, _, _, rfl, hr', TR.cl, TR.no _ (by simp), rfl, rfl, _, rfl, ?_⟩
    rw [decide_eq_false (fun e => hq (V.int.inj e))]
    exact iteF k
def spCallQ (FC CC RC : Addr) : Sp := fun vs H Q _ => ∃ (a ax f fx r rx nt : Addr) (fs : List (Str × V)) (z z' : Str) (v : Int) (o : V) (ia : Bool) (q : Int), vs = [.ref a] ∧ H a = some (.ins CC ax (cellF z f v)) ∧ H f = some (.ins FC fx fs) ∧ fs.lookup ("inmost" : Str) = some (V.ref r) ∧ fs.lookup ("note" : Str) = none ∧
  H r = some (.ins RC rx (runF z' ia o nt q)) ∧ q ≠ 0 ∧ Q (.int v) H
theorem ok_callQ {f fN : Addr} {fd dN : FuncData} (F : Fun K "__call__" "Cell.__call__" sCall f fd) (T : CeT K CC) (TF : FlT K FC) (MN : MO P w K mg base FC "note" 1 ["self", "name", "worth"] (spNoteQ FC RC) fN dN) : FnOk P w K mg base CX0 2 f fd ["self"] (spCallQ FC CC RC) := by
  refine F.ok scCall (fun vs H Q E h => ?_) (fun cdv A outer s H vs Q E hr h => ?_)
  · obtain ⟨a, ax, f, fx, r, rx, nt, fs, z, z', v, o, ia, q, rfl, _⟩ := h
    rfl
  · obtain ⟨a, ax, f, fx, r, rx, nt, fs, z, z', v, o, ia, q, rfl, ha, hf, hl, hn, hr', hq, k⟩ := h
    refine ⟨_, pss_cons (ps_expr (pe_meth (pe_fld (pv 0) rfl) TF.cl MN.m MN.o hr MN.b .nil pass0 (pa_cons (pe_fld (pv 0) rfl) (pa_cons (pe_fld (pv 0) rfl) pa_nil)))) (pss_one (ps_ret (pe_fld (pv 0) rfl))), ?_⟩
    exact ⟨_, rfl, a, CC, ax, _, _, rfl, ha, T.cl, T.no _ (by simp), rfl, f, fx, fs, rfl, hf, hn, _, rfl, a, CC, ax, _, _, rfl, ha, T.cl, T.no _ (by simp), rfl, _, rfl, a, CC, ax, _, _, rfl, ha, T.cl, T.no _ (by simp), rfl, f, fx, r, rx, nt, fs, z', _, _, o, ia, q, rfl, hf, hl, hr', hq, _, rfl, a, CC, ax, _, _, rfl, ha, T.cl, T.no _ (by simp), rfl, k⟩
theorem fnOk_or {P : Program} {w : World} {K : PySem.W.Frag} {mg : Str → Option Value} {base : Heap} {k : Nat} {f : Addr} {fd : FuncData} {ps : List Str} {sp1 sp2 : Sp} (o1 : FnOk P w K mg base CX0 k f fd ps sp1) (o2 : FnOk P w K mg base CX0 k f fd ps sp2) : FnOk P w K mg base CX0 k f fd ps (fun vs H Q E => sp1 vs H Q E ∨ sp2 vs H Q E) :=
  ⟨fun vs H Q E h => h.elim (o1.len vs H Q E) (o2.len vs H Q E), fun A outer s H args us vs Q E hr e0 b r h => h.elim (o1.run A outer s H args us vs Q E hr e0 b r) (o2.run A outer s H args us vs Q E hr e0 b r)⟩
/-! ### an effect is run -/
abbrev sRunE : Stmt := (inClass (top 17) 2)
theorem scRunE : FnScope ["self", "run", "report"] ["self"] (defScope sRunE) := ⟨rfl, rfl, rfl, by decide +kernel, rfl, by decide +kernel, by decide +kernel⟩
/-- the work of the effect at a as a run of its own; behind it R -/
def WKe (P : Program) (w : World) (K : PySem.W.Frag) (mg : Str → Option Value) (base : Heap) (FC EC RC : Addr) (k : Nat) (a ax f fx nt wk lL : Addr) (fs : List (Str × V)) (z : Str) (rep : V) (n : Int) (o : V) (H : Hp) (R : VK) : Prop :=
  ∀ (H1 : Hp) (r rx nt' : Addr), Kp [a, f] H H1 → H r = none → H nt' = none → r ≠ nt' → H1 a = some (.ins EC ax (effF z rep n nt' f wk)) → H1 f = some (.ins FC fx (putF "inmost" (.ref r) fs)) → H1 r = some (.ins RC rx (runF z false o nt' 0)) → H1 nt' = some (.dK []) →
    WorkCall P w K mg base k wk H1 fun v H2 => H2 a = some (.ins EC ax (effF z rep n nt' f wk)) ∧ H2 f = some (.ins FC fx (putF "inmost" (.ref r) fs)) ∧ H2 r = some (.ins RC rx (runF z false o nt' 0)) ∧ ∃ ls, H2 lL = some (.lst ls) ∧ ls.length < 1000 ∧
      ∀ H3 t, Kp [a, f, lL] H2 H3 → H2 t = none → H3 a = some (.ins EC ax (effF z v (n + 1) nt' f wk)) → H3 f = some (.ins FC fx (putF "inmost" o (putF "inmost" (.ref r) fs))) → H3 t = some (.tup [.str z, v]) → H3 lL = some (.lst (ls ++ [.ref t])) → R v H3
def spRunE (P : Program) (w : World) (K : PySem.W.Frag) (mg : Str → Option Value) (base : Heap) (FC EC RC : Addr) (k : Nat) : Sp := fun vs H Q _ => ∃ (a ax f fx nt wk lL : Addr) (fs : List (Str × V)) (z : Str) (rep : V) (n : Int) (o : V), vs = [.ref a] ∧ H a = some (.ins EC ax (effF z rep n nt f wk)) ∧
  H f = some (.ins FC fx fs) ∧ fs.lookup ("inmost" : Str) = some o ∧ fs.lookup ("begun" : Str) = none ∧ fs.lookup ("carry_out" : Str) = none ∧ (putF "inmost" o fs).lookup ("log" : Str) = some (.ref lL) ∧ (∀ r, (putF "inmost" o (putF "inmost" (.ref r) fs)).lookup ("log" : Str) = some (.ref lL)) ∧ fs.length < 100 ∧ a ≠ f ∧ lL ≠ a ∧ lL ≠ f ∧ IsFnO H wk ∧ WKe P w K mg base FC EC RC k a ax f fx nt wk lL fs z rep n o H Q
theorem ok_runE {f fB fC : Addr} {fd dB dC : FuncData} {k : Nat} (hk : 2 ≤ k) (F : Fun K "run" "Effect.run" sRunE f fd) (T : EfT K EC) (TF : FlT K FC) (TR : RnT K RC) (MB : MO P w K mg base FC "begun" 3 ["self", "name", "is_of_answer"] (spBegun FC RC) fB dB) (MC : MO P w K mg base FC "carry_out" (k + 1) ["self", "run", "work"] (spCarry P w K mg base FC RC k) fC dC) :
    FnOk P w K mg base CX0 (k + 2) f fd ["self"] (spRunE P w K mg base FC EC RC k) := by
  refine F.ok scRunE (fun vs H Q E h => ?_) (fun cdv A outer s H vs Q E hr h => ?_)
  · obtain ⟨a, ax, f, fx, nt, wk, lL, fs, z, rep, n, o, rfl, _⟩ := h
    rfl
  · obtain ⟨a, ax, f, fx, nt, wk, lL, fs, z, rep, n, o, rfl, ha, hf, hl, hb, hc, _, hlog, hlen, naf, nla, nlf, hw, W⟩ := h
    have nd := scRunE.nd
    have hsl := sizeLine_eq
    have h3 := hr.mono (by omega : 3 ≤ k + 1)
    refine ⟨_, pss_cons (ps_set (i := 1) nd rfl (Or.inl rfl) (pe_meth (pe_fld (pv 0) rfl) TF.cl MB.m MB.o h3 MB.b .nil pass0 (pa_cons (pe_fld (pv 0) rfl) (pa_cons pe_bl pa_nil))))
      (pss_cons (ps_fld (pv 0) (pe_fld (pv 1) rfl) rfl)
      (pss_cons (ps_set (i := 2) nd rfl (Or.inl rfl) (pe_meth (pe_fld (pv 0) rfl) TF.cl MC.m MC.o hr MC.b .nil pass0 (pa_cons (pv 1) (pa_cons (pe_fld (pv 0) rfl) pa_nil))))
      (pss_cons (ps_fld (pv 0) (pv 2) rfl) (pss_cons (ps_fldaug (pv 0) pe_int in_add)
      (pss_cons (ps_expr (pe_bm PySem.F.plainAttrs_list PySem.F.slot_list_append PySem.F.type_list_append mt_append (pe_fld (pe_fld (pv 0) rfl) rfl) (pa_cons (pe_tup (pa_cons (pe_fld (pv 0) rfl) (pa_cons (pv 2) pa_nil))) pa_nil)))
      (pss_one (ps_ret (pv 2)))))))), ?_⟩
    refine ⟨_, rfl, a, EC, ax, _, _, rfl, ha, T.cl, T.no _ (by simp), rfl, f, fx, fs, rfl, hf, hb, _, rfl, a, EC, ax, _, _, rfl, ha, T.cl, T.no _ (by simp), rfl, f, fx, fs, z, false, o, rfl, hf, hl, fun H3 r rx nt' k3 hr' hnt' nrn r3 n3 => ?_⟩
    have a3 := k3 _ _ (by simp) ha
    have f3 := k3 _ _ (by simp) hf
    have nrf : r ≠ f := fun e => by rw [e, hf] at hr'; cases hr'
    have nra : r ≠ a := fun e => by rw [e, ha] at hr'; cases hr'
    have nna : nt' ≠ a := fun e => by rw [e, ha] at hnt'; cases hnt'
    have nnf : nt' ≠ f := fun e => by rw [e, hf] at hnt'; cases hnt'
    refine ⟨_, rfl, r, RC, rx, _, _, rfl, r3, TR.cl, TR.no _ (by simp), rfl, _, rfl, a, EC, ax, _, rfl, a3, T.cl, T.no _ (by simp), (by show 6 < 1000; decide), ?_⟩
    obtain ⟨H4, e4⟩ : ∃ H4, upd H3 a (.ins EC ax (effF z rep n nt' f wk)) = H4 := ⟨_, rfl⟩
    have e4' : upd H3 a (.ins EC ax (putF "notes" (.ref nt') (effF z rep n nt f wk))) = H4 := e4
    rw [e4']
    have a4 : H4 a = some (.ins EC ax (effF z rep n nt' f wk)) := by rw [← e4]; exact upd_same
    have k4 : Kp [a, f] H H4 := (k3.mono (by simp)).trans (by rw [← e4]; exact Kp.put (by simp))
    have f4 : H4 f = some (.ins FC fx fs) := by rw [← e4, upd_ne naf.symm]; exact f3
    have r4 : H4 r = some (.ins RC rx (runF z false o nt' 0)) := by rw [← e4, upd_ne nra]; exact r3
    have n4 : H4 nt' = some (.dK []) := by rw [← e4, upd_ne nna]; exact n3
    have hw4 : IsFnO H4 wk := by
      obtain ⟨φ, hφ, q⟩ := hw
      have n1 : wk ≠ a := fun e => by rw [e, ha] at hφ; cases hφ
      have n2 : wk ≠ f := fun e => by rw [e, hf] at hφ; cases hφ
      exact ⟨φ, k4 _ _ (by simp; exact ⟨n1, n2⟩) hφ, q⟩
    refine ⟨_, rfl, a, EC, ax, _, _, rfl, a4, T.cl, T.no _ (by simp), rfl, f, fx, fs, rfl, f4, hc, _, rfl, _, rfl, a, EC, ax, _, _, rfl, a4, T.cl, T.no _ (by simp), rfl, f, fx, r, rx, nt', wk, fs, z, false, o, 0, rfl, f4, hlen, nrf, r4, hw4, fun H5 k5 f5 => ?_⟩
    have a5 := k5 _ _ (by simpa using naf) a4
    have r5 := k5 _ _ (by simpa using nrf) r4
    have n5 := k5 _ _ (by simpa using nnf) n4
    refine workCall_mono (W H5 r rx nt' (k4.trans (k5.mono (by simp))) hr' hnt' nrn a5 f5 r5 n5) ?_
    rintro v H6 ⟨a6, f6, r6, ls, l6, ll, q6⟩
    refine ⟨f6, r6, fun H7 k7 f7 => ?_⟩
    have a7 := k7 _ _ (by simpa using naf) a6
    have l7 := k7 _ _ (by simpa using nlf) l6
    refine ⟨_, rfl, _, rfl, a, EC, ax, _, rfl, a7, T.cl, T.no _ (by simp), (by show 6 < 1000; decide), ?_⟩
    refine ⟨_, rfl, a, EC, ax, _, _, rfl, upd_same, T.cl, T.no _ (by simp), rfl, _, _, rfl, rfl, ax, _, upd_same, (by show 6 < 1000; decide), ?_⟩
    rw [upd_upd]
    obtain ⟨H8, e8⟩ : ∃ H8, upd H7 a (.ins EC ax (effF z v (n + 1) nt' f wk)) = H8 := ⟨_, rfl⟩
    have e8' : upd H7 a (.ins EC ax (putF "runs" (.int (n + 1)) (putF "report" v (effF z rep n nt' f wk)))) = H8 := e8
    rw [e8']
    have a8 : H8 a = some (.ins EC ax (effF z v (n + 1) nt' f wk)) := by rw [← e8]; exact upd_same
    have f8 : H8 f = some (.ins FC fx (putF "inmost" o (putF "inmost" (.ref r) fs))) := by rw [← e8, upd_ne naf.symm]; exact f7
    have l8 : H8 lL = some (.lst ls) := by rw [← e8, upd_ne nla]; exact l7
    refine ⟨_, rfl, a, EC, ax, _, _, rfl, a8, T.cl, T.no _ (by simp), rfl, f, FC, fx, _, _, rfl, f8, TF.cl, TF.no _ (by simp), hlog r, .inl ⟨rfl, _, SqL.of l8⟩, _, rfl, a, EC, ax, _, _, rfl, a8, T.cl, T.no _ (by simp), rfl, _, rfl, (by show 2 ≤ sizeLine; omega), fun t ht => ?_⟩
    have nlt : lL ≠ t := ne_of_none l8 ht
    refine ⟨lL, _, _, rfl, rfl, by rw [upd_ne nlt]; exact l8, by omega, ?_⟩
    obtain ⟨H9, e9⟩ : ∃ H9, upd (upd H8 t (.tup [.str z, v])) lL (.lst (ls ++ [.ref t])) = H9 := ⟨_, rfl⟩
    rw [e9]
    have k89 : Kp [a, f, lL] H8 H9 := by rw [← e9]; exact (Kp.new ht).trans (Kp.put (by simp))
    have t6 : H6 t = none := by
      cases e : H6 t with
      | none => rfl
      | some u =>
        by_cases hm : t = a
        · rw [hm, a8] at ht; cases ht
        · by_cases hm2 : t = f
          · rw [hm2, f8] at ht; cases ht
          · have e7 := k7 t u (by simpa using hm2) e
            rw [← e8, upd_ne hm, e7] at ht; cases ht
    refine ⟨_, rfl, q6 H9 t (((k7.mono (by simp)).trans (by rw [← e8]; exact Kp.put (by simp))).trans k89) t6 ?_ ?_ ?_ ?_⟩
    · rw [← e9, upd_ne nla.symm, upd_ne (ne_of_none a8 ht)]; exact a8
    · rw [← e9, upd_ne nlf.symm, upd_ne (ne_of_none f8 ht)]; exact f8
    · rw [← e9, upd_ne nlt.symm]; exact upd_same
    · rw [← e9]; exact upd_same
end
end My

set_option Elab.async false
set_option linter.all false
set_option maxRecDepth 100000
set_option maxHeartbeats 4000000
/-! E2: which effects are due; settling. -/
namespace My
open PySem PySem.Spec PyProof.Rows L2 LamX NdefX
theorem Kp.wr {S : List Addr} {H H1 : Hp} {p : Addr} {o : HO} (k : Kp S H H1) (h : H p = Option.none) : Kp S H (upd H1 p o) := fun q u nq e => by
  rw [upd_ne (ne_of_none e h)]
  exact k q u nq e
/-- an effect whose notes are of cells -/
structure Ef where
  a : Addr
  ax : Addr
  z : Str
  rep : V
  n : Int
  nt : Addr
  wk : Addr
  kvs : List (Key × V)
section
variable {P : Program} {w : World} {K : PySem.W.Frag} {mg : Str → Option Value} {base : Heap} {FC DC CC RC EC : Addr}
structure EfsAt (EC CC : Addr) (H : Hp) (f sD eL : Addr) (src : List (Key × V)) (cs : List Ce) (es : List Ef) : Prop where
  lst : H eL = some (.lst (es.map fun e => V.ref e.a))
  srs : H sD = some (.dK src)
  nd : (cs.map Ce.z).Nodup
  cells : ∀ c ∈ cs, valV src (Sum.inr c.z) = some (.ref c.a) ∧ H c.a = some (.ins CC c.ax (cellF c.z f c.v))
  eff : ∀ e ∈ es, H e.a = some (.ins EC e.ax (effF e.z e.rep e.n e.nt f e.wk)) ∧ H e.nt = some (.dK e.kvs) ∧ e.nt ≠ sD ∧ ∀ p ∈ e.kvs, ∃ c ∈ cs, ∃ m : Int, p = (Sum.inr c.z, V.int m)
  len : es.length ≤ 100
theorem EfsAt.kp {H H' : Hp} {f sD eL : Addr} {src : List (Key × V)} {cs : List Ce} {es : List Ef} (h : EfsAt EC CC H f sD eL src cs es) (k : Kp [] H H') : EfsAt EC CC H' f sD eL src cs es :=
  ⟨k _ _ (by simp) h.lst, k _ _ (by simp) h.srs, h.nd, fun c hc => ⟨(h.cells c hc).1, k _ _ (by simp) (h.cells c hc).2⟩, fun e he => ⟨k _ _ (by simp) (h.eff e he).1, k _ _ (by simp) (h.eff e he).2.1, (h.eff e he).2.2⟩, h.len⟩
theorem pe_fldk {X : Cx} {K : PySem.W.Frag} {e : Expr} {ta : TE} {f : Str} {pos : Pos} (hK : X.K = K) (he : PE X e ta) (hb : attributeBase e f X.env (eval e X.env) = eval e X.env) : PE X (.Attribute e f pos) (tFld K ta f) := by
  subst hK
  exact pe_fld he hb
def dueL (cs : List Ce) (es : List Ef) : List Ef := es.filter fun e => !ordB cs e.kvs
def spDueE (FC EC CC : Addr) : Sp := fun vs H Q _ => ∃ (f fx sD eL : Addr) (fs : List (Str × V)) (src : List (Key × V)) (cs : List Ce) (es : List Ef), vs = [.ref f] ∧ H f = some (.ins FC fx fs) ∧ fs.lookup ("sources" : Str) = some (V.ref sD) ∧ fs.lookup ("effects" : Str) = some (V.ref eL) ∧ fs.lookup ("are_in_order" : Str) = none ∧ EfsAt EC CC H f sD eL src cs es ∧
  ∀ H' p, Kp [] H H' → H p = none → H' p = some (.lst ((dueL cs es).map fun e => V.ref e.a)) → Q (.ref p) H'
theorem ok_dueE {f fO : Addr} {fd dO : FuncData} (F : Fun K "_due" "Floor._due" sDue f fd) (T : FlT K FC) (TE : EfT K EC) (MO_ : MO P w K mg base FC "are_in_order" 2 ["self", "notes"] (spOrd FC CC) fO dO) : FnOk P w K mg base CX0 3 f fd ["self"] (spDueE FC EC CC) := by
  refine F.ok scDue (fun vs H Q E h => ?_) (fun cdv A outer s H vs Q E hr h => ?_)
  · obtain ⟨f, fx, sD, eL, fs, src, cs, es, rfl, _⟩ := h
    rfl
  · obtain ⟨f, fx, sD, eL, fs, src, cs, es, rfl, hf, hs, hl, hno, hE, k⟩ := h
    have nd := scDue.nd
    have hsl := sizeLine_eq
    refine ⟨_, pss_one (ps_ret (pe_lc (own := [("effect", 1)]) (g := gName 1) rfl nd (pi_list (pe_fld (pv 0) rfl)) (blkOk_by (own := [("effect", 1)]) (N := ["self", "effect"]) (sc := defScope sDue) (by decide +kernel)) (fun _ _ _ _ _ => pg_name (i := 1) nd rfl (Or.inl rfl))
      (fun _ _ _ _ _ => pts_one (pt_not (pt_val (pe_meth (pv 0) T.cl MO_.m MO_.o hr MO_.b .nil pass0 (pa_cons (pe_fldk (K := K) rfl (pv 1) rfl) pa_nil))))) (fun _ _ _ _ _ => pv 1))), ?_⟩
    refine ⟨_, rfl, f, FC, fx, fs, _, rfl, hf, T.cl, T.no _ (by simp), hl, eL, rfl, ⟨_, SqL.of hE.lst⟩, fun D hD => lc_list (K := K) (a := eL) (xs := es.map fun e => V.ref e.a) (fun i H' => Kp [] H H' ∧ H' D = some (.lst ((dueL cs (es.take i)).map fun e => V.ref e.a))) ⟨Kp.new hD, upd_same⟩ (fun i H' _ e => SqL.of (e.1 _ _ (by simp) hE.lst)) ?_ ?_⟩
    · rintro i x H' hx ⟨kk, hd⟩
      rw [List.getElem?_map] at hx
      cases hxi : es[i]? with
      | none => rw [hxi] at hx; cases hx
      | some e =>
        rw [hxi] at hx
        cases hx
        have E1 := hE.kp kk
        obtain ⟨e1, e2, e3, e4⟩ := E1.eff e (List.mem_of_getElem? hxi)
        have ll : (dueL cs (es.take i)).length ≤ 100 := by
          have g1 := List.length_filter_le (fun e => !ordB cs e.kvs) (es.take i)
          have g2 := hE.len
          rw [List.length_take] at g1
          show (List.filter _ _).length ≤ _
          omega
        have sn : dueL cs (es.take (i + 1)) = dueL cs (es.take i) ++ (if (!ordB cs e.kvs) = true then [e] else []) := by
          unfold dueL
          rw [List.take_succ, hxi, List.filter_append]
          congr 1
          show List.filter _ [e] = _
          rw [List.filter_cons]
          split <;> simp [*]
        refine ⟨rfl, _, rfl, f, fx, fs, rfl, kk _ _ (by simp) hf, hno, _, rfl, e.a, EC, e.ax, _, _, rfl, e1, TE.cl, TE.no _ (by simp), rfl, f, fx, sD, e.nt, fs, src, e.kvs, cs, rfl, kk _ _ (by simp) hf, hs, E1.srs, e2, e3, E1.nd, E1.cells, e4, fun H2 k2 => ?_⟩
        have hd2 := k2 _ _ (by simp) hd
        refine ⟨_, rfl, ?_⟩
        cases ho : ordB cs e.kvs with
        | true =>
          refine iteF ⟨kk.trans k2, ?_⟩
          rw [sn, ho]
          simpa using hd2
        | false =>
          refine iteT ⟨_, rfl, _, hd2, by rw [List.length_map]; omega, (kk.trans k2).wr hD, ?_⟩
          · rw [upd_same, sn, ho]
            simp
    · rintro H' ⟨kk, hd⟩
      rw [List.length_map, List.take_length] at hd
      exact k H' D kk hD hd
/-- settling: amid a run nothing; else rounds: I m, what stands behind m of them -/
def spSettleE (FC EC : Addr) (spD spR : Sp) : Sp := fun vs H Q _ => ∃ (f fx : Addr), vs = [.ref f] ∧
  ((∃ (fs : List (Str × V)) (r : Addr), H f = some (.ins FC fx fs) ∧ fs.lookup ("inmost" : Str) = some (V.ref r) ∧ Q .non H) ∨
   ∃ (nD cD sD eL lL t0 : Addr), H f = some (.ins FC fx (floorG nD cD sD eL lL .non t0)) ∧ ∃ I : Nat → Hp → Prop, (∀ H' tD, Kp [f] H H' → H tD = none → H' tD = some (.dK []) → H' f = some (.ins FC fx (floorG nD cD sD eL lL .non tD)) → I 0 H') ∧
    ∀ m H1, I m H1 → (∃ fs1, H1 f = some (.ins FC fx fs1) ∧ fs1.lookup ("_due" : Str) = none) ∧ spD [.ref f] H1 (fun v H2 => ∃ (p : Addr) (ds : List Addr), v = .ref p ∧ H2 p = some (.lst (ds.map V.ref)) ∧
      (match ds with
      | [] => Q .non H2
      | a :: _ => (m < 100 ∧ (∃ fs2, H2 f = some (.ins FC fx fs2) ∧ fs2.lookup ("most_runs" : Str) = some (.int 100)) ∧ ∃ ax fsE, H2 a = some (.ins EC ax fsE) ∧ fsE.lookup ("run" : Str) = none ∧ spR [.ref a] H2 (fun _ H3 => I (m + 1) H3) E0))) E0)
theorem spUpD {sp : Sp} {vs : List V} {H : Hp} {Q : VK} (h : sp vs H Q E0) : (fun vs H Q E => ∃ Q0 : VK, sp vs H Q0 E ∧ ∀ v H', Q0 v H' → Q v H' : Sp) vs H Q E0 := ⟨Q, h, fun _ _ z => z⟩
theorem ok_settleE {f fU fR : Addr} {fd dU dR : FuncData} {k : Nat} {spD spR : Sp} (F : Fun K "settle" "Floor.settle" sSettle f fd) (T : FlT K FC) (TE : EfT K EC) (MU : MO P w K mg base FC "_due" k ["self"] spD fU dU) (MR : MO P w K mg base EC "run" k ["self"] spR fR dR)
    (upD : ∀ H f (Q Q' : VK), spD [.ref f] H Q E0 → (∀ v H', Q v H' → Q' v H') → spD [.ref f] H Q' E0) (upR : ∀ H f (Q Q' : VK), spR [.ref f] H Q E0 → (∀ v H', Q v H' → Q' v H') → spR [.ref f] H Q' E0) : FnOk P w K mg base CX0 (k + 1) f fd ["self"] (spSettleE FC EC spD spR) := by
  refine F.ok scSettle (fun vs H Q E h => ?_) (fun cdv A outer s H vs Q E hr h => ?_)
  · obtain ⟨f, fx, rfl, _⟩ := h
    rfl
  · obtain ⟨f, fx, rfl, h⟩ := h
    have nd := scSettle.nd
    refine ⟨_, pss_cons (ps_if (pw_or (pt_cmp (pc_notN (pe_fld (pv 0) rfl))) (pw_or1 (pt_cmpR op_gt (pe_fld (pv 0) rfl) pe_int (nomark _)))).pt (pss_one ps_retN) pss_nil)
      (pss_cons (ps_fld (pv 0) pe_dnewK rfl) (pss_cons (ps_set (i := 1) nd rfl (Or.inl rfl) pe_int)
      (pss_cons (ps_set (i := 2) nd rfl (Or.inl rfl) (pe_meth0 (pv 0) T.cl MU.m MU.o hr MU.b .nil pass0)) (pss_one (ps_while PassesOwn.never (pt_truth (pv 2) (fun _ => rfl))
        (pss_cons (ps_if (pt_cmpR op_eq (pv 1) (pe_fld (pv 0) rfl) (nomark _)) pss_dead pss_nil)
        (pss_cons (ps_aug (i := 1) nd rfl (Or.inl rfl) pe_int ip_add) (pss_cons (ps_expr (pe_meth0 (ixl (pv 2) pe_int) TE.cl MR.m MR.o hr MR.b .nil pass0)) (pss_one (ps_set (i := 2) nd rfl (Or.inl rfl) (pe_meth0 (pv 0) T.cl MU.m MU.o hr MU.b .nil pass0))))))))))), ?_⟩
    rcases h with ⟨fs, r, hf, hl, q⟩ | ⟨nD, cD, sD, eL, lL, t0, hf, I, i0, st⟩
    · exact ⟨_, rfl, f, FC, fx, _, _, rfl, hf, T.cl, T.no _ (by simp), hl, _, rfl, iteT (iteT q)⟩
    · refine ⟨_, rfl, f, FC, fx, _, _, rfl, hf, T.cl, T.no _ (by simp), rfl, _, rfl, iteF ?_⟩
      refine ⟨_, rfl, f, FC, fx, _, _, rfl, hf, T.cl, T.no _ (by simp), rfl, _, _, rfl, rfl, _, rfl, iteF ?_⟩
      intro tD ht
      obtain ⟨o1, H1, e1, o2, k1, n1, ft, tf, stt⟩ := fstep (floorG nD cD sD eL lL .non tD) (.dK []) hf (Kp.refl H) ht
      refine ⟨_, rfl, f, FC, fx, _, rfl, o1, T.cl, T.no _ (by simp), (by show 9 < 1000; decide), ?_⟩
      have e1' : upd (upd H tD (.dK [])) f (.ins FC fx (putF "turned" (.ref tD) (floorG nD cD sD eL lL .non t0))) = H1 := e1
      rw [e1']
      have I0 := i0 H1 tD k1 ft n1 o2
      obtain ⟨⟨fs1, g1, g2⟩, hd⟩ := st 0 H1 I0
      refine ⟨_, rfl, f, fx, fs1, rfl, g1, g2, upD _ _ _ _ hd ?_⟩
      rintro v H2 ⟨p, ds, rfl, hp, hm⟩
      refine ⟨fun m σ' H' => ∃ (j : Nat) (p : Addr) (ds : List Addr), m = 100 - j ∧ σ' = [some (.ref f), some (.int (j : Int)), some (.ref p)] ∧ H' p = some (.lst (ds.map V.ref)) ∧ (match ds with
      | [] => Q .non H'
      | a :: _ => (j < 100 ∧ (∃ fs2, H' f = some (.ins FC fx fs2) ∧ fs2.lookup ("most_runs" : Str) = some (.int 100)) ∧ ∃ ax fsE, H' a = some (.ins EC ax fsE) ∧ fsE.lookup ("run" : Str) = none ∧ spR [.ref a] H' (fun _ H3 => I (j + 1) H3) E0)), ⟨100, 0, p, ds, rfl, rfl, hp, hm⟩, ?_⟩
      rintro m σ' H' ⟨j, p, ds, rfl, rfl, hp, hm⟩
      cases ds with
      | nil => exact ⟨_, rfl, false, .inl ⟨[], SqL.of hp, rfl⟩, iteF hm⟩
      | cons a r =>
        obtain ⟨lt, ⟨fs2, g3, g4⟩, ax, fsE, g5, g6, g7⟩ := hm
        refine ⟨_, rfl, true, .inl ⟨_, SqL.of hp, rfl⟩, iteT ?_⟩
        refine ⟨fun σ' H' => ∃ (p : Addr) (ds : List Addr), σ' = [some (.ref f), some (.int ((j + 1 : Nat) : Int)), some (.ref p)] ∧ H' p = some (.lst (ds.map V.ref)) ∧ (match ds with
        | [] => Q .non H'
        | a :: _ => (j + 1 < 100 ∧ (∃ fs2, H' f = some (.ins FC fx fs2) ∧ fs2.lookup ("most_runs" : Str) = some (.int 100)) ∧ ∃ ax fsE, H' a = some (.ins EC ax fsE) ∧ fsE.lookup ("run" : Str) = none ∧ spR [.ref a] H' (fun _ H3 => I (j + 1 + 1) H3) E0)), fun σ' H' ⟨p, ds, e1, e2, e3⟩ => ⟨100 - (j + 1), by omega, j + 1, p, ds, rfl, e1, e2, e3⟩, ?_⟩
        refine ⟨_, rfl, _, rfl, f, FC, fx, fs2, _, rfl, g3, T.cl, T.no _ (by simp), g4, rfl, _, rfl, ?_⟩
        rw [decide_eq_false (fun e => by have := V.int.inj e; omega)]
        refine iteF ?_
        refine ⟨_, rfl, _, _, rfl, rfl, ?_⟩
        refine ⟨_, rfl, p, _, 0, .ref a, rfl, rfl, SqL.of hp, atI_nat (j := 0) rfl, a, ax, fsE, rfl, g5, g6, upR _ _ _ _ g7 fun _ H3 hI => ?_⟩
        obtain ⟨⟨fs1, g1, g2⟩, hd⟩ := st (j + 1) H3 hI
        refine ⟨_, rfl, f, fx, fs1, rfl, g1, g2, upD _ _ _ _ hd ?_⟩
        rintro v H4 ⟨p2, ds2, rfl, hp2, hm2⟩
        exact ⟨p2, ds2, rfl, hp2, hm2⟩
end
end My

set_option Elab.async false
set_option linter.all false
set_option maxRecDepth 100000
set_option maxHeartbeats 4000000
/-! E3: putting; quiet calls; an effect is made. -/
namespace My
open PySem PySem.Spec PyProof.Rows L2 LamX NdefX
theorem IsFnO.kp {S : List Addr} {H H' : Hp} {f : Addr} (x : IsFnO H f) (k : Kp S H H') (n : f ∉ S) : IsFnO H' f := by
  obtain ⟨φ, e, q⟩ := x
  exact ⟨φ, k _ _ n e, q⟩
section
variable {P : Program} {w : World} {K : PySem.W.Frag} {mg : Str → Option Value} {base : Heap} {FC DC CC RC EC : Addr}
/-- the value is put, then spS -/
def spPutE (FC CC RC : Addr) (spS : Sp) : Sp := fun vs H Q _ => ∃ (a ax f fx tD : Addr) (z : Str) (v0 v : Int) (fs : List (Str × V)) (o : V) (tk : List (Key × V)), vs = [.ref a, .int v] ∧ H a = some (.ins CC ax (cellF z f v0)) ∧ H f = some (.ins FC fx fs) ∧ fs.lookup ("inmost" : Str) = some o ∧ AtEff RC H o ∧
  fs.lookup ("check_place" : Str) = none ∧ fs.lookup ("settle" : Str) = none ∧ fs.lookup ("turned" : Str) = some (.ref tD) ∧ H tD = some (.dK tk) ∧ tk.length < 1000 ∧ a ≠ f ∧
  ∀ H' tk', Kp [a, tD] H H' → H' a = some (.ins CC ax (cellF z f v)) → H' tD = some (.dK tk') → (tk' = tk ∨ tk' = putK tk (Sum.inr z) (.bl true)) → spS [.ref f] H' (fun _ H'' => Q .non H'') E0
theorem ok_putE {f fP fS : Addr} {fd dP dS : FuncData} {k : Nat} {spS : Sp} (hk : 1 ≤ k) (F : Fun K "put" "Cell.put" sPut f fd) (T : CeT K CC) (TF : FlT K FC) (MP : MO P w K mg base FC "check_place" 1 ["self"] (spPlaceE FC RC) fP dP) (MS : MO P w K mg base FC "settle" k ["self"] spS fS dS)
    (upS : ∀ H f (Q Q' : VK), spS [.ref f] H Q E0 → (∀ v H', Q v H' → Q' v H') → spS [.ref f] H Q' E0) : FnOk P w K mg base CX0 (k + 1) f fd ["self", "value"] (spPutE FC CC RC spS) := by
  refine F.ok scPut (fun vs H Q E h => ?_) (fun cdv A outer s H vs Q E hr h => ?_)
  · obtain ⟨a, ax, f, fx, tD, z, v0, v, fs, o, tk, rfl, _⟩ := h
    rfl
  · obtain ⟨a, ax, f, fx, tD, z, v0, v, fs, o, tk, rfl, ha, hf, hl, ho, n1, n2, ht, htD, hlen, naf, k⟩ := h
    have hu := hu_of hr
    have hr1 := hr.mono hk
    have hsl := sizeLine_eq
    refine ⟨_, pss_cons (ps_expr (pe_meth0 (pe_fld (pv 0) rfl) TF.cl MP.m MP.o hr1 MP.b .nil pass0))
      (C8.pss_cut (ps_if (pt_cmpR op_ne (pv 1) (pe_fld (pv 0) rfl) (nomark _)) (pss_cons (ps_fld (pv 0) (pv 1) rfl) (pss_one (ps_dput hu (pe_fld (pe_fld (pv 0) rfl) rfl) (pe_fld (pv 0) rfl) pe_bl rfl))) pss_nil)
      (pss_one (ps_expr (pe_meth0 (pe_fld (pv 0) rfl) TF.cl MS.m MS.o hr MS.b .nil pass0)))), ?_⟩
    refine ⟨_, rfl, a, CC, ax, _, _, rfl, ha, T.cl, T.no _ (by simp), rfl, f, fx, fs, rfl, hf, n1, f, fx, fs, o, rfl, hf, hl, ho, ?_⟩
    have nat : a ≠ tD := fun e => by rw [e, htD] at ha; cases ha
    have nft : f ≠ tD := fun e => by rw [e, htD] at hf; cases hf
    refine ⟨fun σ' H' => σ' = [some (.ref a), some (.int v)] ∧ Kp [a, tD] H H' ∧ H' a = some (.ins CC ax (cellF z f v)) ∧ ∃ tk', H' tD = some (.dK tk') ∧ (tk' = tk ∨ tk' = putK tk (Sum.inr z) (.bl true)), ?_, ?_⟩
    · refine ⟨_, rfl, _, rfl, a, CC, ax, _, _, rfl, ha, T.cl, T.no _ (by simp), rfl, rfl, _, rfl, ?_⟩
      refine ite2 (fun e => ?_) (fun e => ⟨rfl, Kp.refl H, ?_, _, htD, .inl rfl⟩)
      · refine ⟨_, rfl, _, rfl, a, CC, ax, _, rfl, ha, T.cl, T.no _ (by simp), (by show 3 < 1000; decide), ?_⟩
        obtain ⟨H1, e1⟩ : ∃ H1, upd H a (.ins CC ax (cellF z f v)) = H1 := ⟨_, rfl⟩
        have e1' : upd H a (.ins CC ax (putF "_now" (.int v) (cellF z f v0))) = H1 := e1
        have a1 : H1 a = some (.ins CC ax (cellF z f v)) := by rw [← e1]; exact upd_same
        have o1 : ∀ b, b ≠ a → H1 b = H b := fun b n => by rw [← e1]; exact upd_ne n
        rw [e1']
        refine ⟨_, rfl, a, CC, ax, _, _, rfl, a1, T.cl, T.no _ (by simp), rfl, f, FC, fx, _, _, rfl, (o1 _ (Ne.symm naf)).trans hf, TF.cl, TF.no _ (by simp), ht, _, rfl, a, CC, ax, _, _, rfl, a1, T.cl, T.no _ (by simp), rfl, tD, _, rfl, DPut.k (k := Sum.inr z) ((o1 _ nat.symm).trans htD) (by omega), ?_⟩
        refine ⟨rfl, fun b o nb eb => ?_, by rw [upd_ne nat]; exact a1, _, upd_same, .inr rfl⟩
        simp only [List.mem_cons, List.mem_nil_iff, or_false, not_or] at nb
        rw [upd_ne nb.2, o1 _ nb.1]
        exact eb
      · have ev : v = v0 := by
          cases h0 : decide (V.int v = V.int v0) with
          | true => exact V.int.inj (of_decide_eq_true h0)
          | false => exact absurd (show (!decide (V.int v = V.int v0)) = true by rw [h0]; rfl) e
        rw [ev]; exact ha
    · rintro σ' H1 ⟨rfl, k1, a1, tk', t1, et⟩
      have f1 := k1 _ _ (by simp only [List.mem_cons, List.mem_nil_iff, or_false, not_or]; exact ⟨naf.symm, nft⟩) hf
      exact ⟨_, rfl, a, CC, ax, _, _, rfl, a1, T.cl, T.no _ (by simp), rfl, f, fx, fs, rfl, f1, n2, k H1 tk' k1 a1 t1 et⟩
/-! ### quiet calls -/
abbrev sInQ : Stmt := (inClass (top 12) 7)
theorem scInQ : FnScope ["self", "work", "given", "run", "before"] ["self", "work", "given"] (defScope sInQ) := ⟨rfl, rfl, rfl, by decide +kernel, rfl, by decide +kernel, by decide +kernel⟩
def spInQ (P : Program) (w : World) (K : PySem.W.Frag) (mg : Str → Option Value) (base : Heap) (FC RC : Addr) (k : Nat) : Sp := fun vs H Q _ => ∃ (f fx r rx nt wk g : Addr) (fs : List (Str × V)) (z : Str) (ia : Bool) (o : V) (q : Int), vs = [.ref f, .ref wk, .ref g] ∧ H f = some (.ins FC fx fs) ∧ fs.lookup ("inmost" : Str) = some (.ref r) ∧ H r = some (.ins RC rx (runF z ia o nt q)) ∧ H g = some (.tup []) ∧ wk ≠ r ∧
  (IsFnO H wk ∨ ∃ C dx fs, H wk = some (.ins C dx fs)) ∧ ∀ H1, Kp [r] H H1 → H1 r = some (.ins RC rx (runF z ia o nt (q + 1))) → WorkCall P w K mg base k wk H1 fun v H2 => H2 r = some (.ins RC rx (runF z ia o nt (q + 1))) ∧ ∀ H3, Kp [r] H2 H3 → H3 r = some (.ins RC rx (runF z ia o nt q)) → Q v H3
theorem ok_inQ {f : Addr} {fd : FuncData} {k : Nat} (F : Fun K "in_quiet" "Floor.in_quiet" sInQ f fd) (T : FlT K FC) (TR : RnT K RC) : FnOk P w K mg base CX0 (k + 1) f fd ["self", "work", "given"] (spInQ P w K mg base FC RC k) := by
  refine F.ok scInQ (fun vs H Q E h => ?_) (fun cdv A outer s H vs Q E hr h => ?_)
  · obtain ⟨f, fx, r, rx, nt, wk, g, fs, z, ia, o, q, rfl, _⟩ := h
    rfl
  · obtain ⟨f, fx, r, rx, nt, wk, g, fs, z, ia, o, q, rfl, hf, hl, hr', hg, nwr, hw, W⟩ := h
    have nd := scInQ.nd
    refine ⟨_, pss_cons (ps_set (i := 3) nd rfl (Or.inl rfl) (pe_fld (pv 0) rfl)) (pss_cons (ps_if (pt_cmp (pc_isN (pv 3))) pss_dead pss_nil)
      (pss_cons (ps_set (i := 4) nd rfl (Or.inl rfl) (pe_fld (pv 3) rfl)) (pss_cons (ps_fld (pv 3) (pe_op op_add (pv 4) pe_int) rfl) (pss_one (ps_retFin (pe_workS (i := 1) hr rfl (Or.inl rfl) (pv 2)) (pss_one (ps_fld (pv 3) (pv 4) rfl))))))), ?_⟩
    refine ⟨_, rfl, f, FC, fx, fs, _, rfl, hf, T.cl, T.no _ (by simp), hl, _, rfl, _, rfl, iteF ?_⟩
    refine ⟨_, rfl, r, RC, rx, _, _, rfl, hr', TR.cl, TR.no _ (by simp), rfl, _, rfl, _, _, rfl, rfl, _, rfl, r, RC, rx, _, rfl, hr', TR.cl, TR.no _ (by simp), (by show 5 < 1000; decide), ?_⟩
    obtain ⟨H1, e1⟩ : ∃ H1, upd H r (.ins RC rx (runF z ia o nt (q + 1))) = H1 := ⟨_, rfl⟩
    have e1' : upd H r (.ins RC rx (putF "quiet" (.int (q + 1)) (runF z ia o nt q))) = H1 := e1
    rw [e1']
    have r1 : H1 r = some (.ins RC rx (runF z ia o nt (q + 1))) := by rw [← e1]; exact upd_same
    have k1 : Kp [r] H H1 := by rw [← e1]; exact Kp.put (by simp)
    have ngr : g ≠ r := fun e => by rw [e, hr'] at hg; cases hg
    have g1 := k1 _ _ (by simpa using ngr) hg
    refine ⟨wk, rfl, ?_⟩
    have done : ∀ (v : V) (H2 : Hp), (H2 r = some (.ins RC rx (runF z ia o nt (q + 1))) ∧ ∀ H3, Kp [r] H2 H3 → H3 r = some (.ins RC rx (runF z ia o nt q)) → Q v H3) → tVar 4 [some (.ref f), some (.ref wk), some (.ref g), some (.ref r), some (.int q)] H2 fun y H4 => tVar 3 [some (.ref f), some (.ref wk), some (.ref g), some (.ref r), some (.int q)] H4 fun x H5 => ∃ p C dx fs, x = .ref p ∧ H5 p = some (.ins C dx fs) ∧ Cls K C ∧ NoAttr K C "quiet" ∧ fs.length < 1000 ∧ Q v (upd H5 p (.ins C dx (putF "quiet" y fs))) := fun v H2 ⟨r2, q2⟩ =>
      ⟨_, rfl, _, rfl, r, RC, rx, _, rfl, r2, TR.cl, TR.no _ (by simp), (by show 5 < 1000; decide), q2 _ (Kp.put (by simp)) upd_same⟩
    rcases hw with hw | ⟨C, dx, fsw, hw⟩
    · exact .inl ⟨_, rfl, g, rfl, SqT.of g1, hw.kp k1 (by simpa using nwr), workCall_mono (W H1 k1 r1) done⟩
    · exact .inr ⟨_, rfl, g, rfl, SqT.of g1, ⟨C, dx, fsw, k1 _ _ (by simpa using nwr) hw⟩, workCall_mono (W H1 k1 r1) done⟩
abbrev sQuietly : Stmt := (inClass (top 14) 7)
theorem scQuietly : FnScope ["self", "work", "given"] ["self", "work", "given"] (defScope sQuietly) := ⟨rfl, rfl, rfl, by decide +kernel, rfl, by decide +kernel, by decide +kernel⟩
def spQuietly (DC FC : Addr) (spI : Sp) : Sp := fun vs H Q _ => ∃ (d dx f fx wk : Addr) (fs : List (Str × V)), vs = [.ref d, .ref wk] ∧ H d = some (.ins DC dx [("_floor", .ref f)]) ∧ H f = some (.ins FC fx fs) ∧ fs.lookup ("in_quiet" : Str) = none ∧ ∀ g, H g = none → spI [.ref f, .ref wk, .ref g] (upd H g (.tup [])) Q E0
theorem ok_quietly {f fI : Addr} {fd dI : FuncData} {k : Nat} {spI : Sp} (F : Fun K "quietly" "Desk.quietly" sQuietly f fd) (T : DkT K DC) (TF : FlT K FC) (MI : MO P w K mg base FC "in_quiet" k ["self", "work", "given"] spI fI dI) : FnR P w K mg base CX0 (k + 1) f (spQuietly DC FC spI) := by
  obtain ⟨oc, od, kV, doc, pm, an, cdv, ct, osl, rfl, lk, hcd⟩ := F.ex
  refine (StX.fn_star (ps := ["self", "work"]) (pv := "given") (sp := fun vs H Q E => ∃ (d dx f fx wk g : Addr) (fs : List (Str × V)), vs = [.ref d, .ref wk, .ref g] ∧ H d = some (.ins DC dx [("_floor", .ref f)]) ∧ H f = some (.ins FC fx fs) ∧ fs.lookup ("in_quiet" : Str) = none ∧ spI [.ref f, .ref wk, .ref g] H Q E0) lk hcd scQuietly StX.cxUp_none (StX.bind_star2 (B := fun us => bindArgs (PySem.W.fnOf "quietly" "Desk.quietly" (defArgs sQuietly) (defBody sQuietly) (defScope sQuietly) .none kV doc pm an cdv ct) ⟨us, []⟩) (p1 := "self") (p2 := "work") (pv := "given") (fun _ _ => rfl) (fun _ _ _ _ => rfl)) fun A outer s H vs Q E hr h => ?_).imp ?_
  · obtain ⟨d, dx, f, fx, wk, g, fs, rfl, hd, hf, hn, q⟩ := h
    exact ⟨_, pss_one (ps_ret (pe_meth (pe_fld (pv 0) rfl) TF.cl MI.m MI.o hr MI.b .nil pass0 (pa_cons (pv 1) (pa_cons (pv 2) pa_nil)))), _, rfl, d, DC, dx, _, _, rfl, hd, T.cl, T.no, rfl, f, fx, fs, rfl, hf, hn, _, rfl, _, rfl, q⟩
  · rintro vs H Q E ⟨d, dx, f, fx, wk, fs, rfl, hd, hf, hn, q⟩
    refine ⟨[.ref d, .ref wk], [], rfl, rfl, Nat.zero_le _, fun g hg => ⟨d, dx, f, fx, wk, g, fs, rfl, ?_, ?_, hn, q g hg⟩⟩
    · rw [upd_ne (ne_of_none hd hg)]; exact hd
    · rw [upd_ne (ne_of_none hf hg)]; exact hf
end
end My

set_option Elab.async false
set_option linter.all false
set_option maxRecDepth 100000
set_option maxHeartbeats 4000000
/-! E4: an effect is made; the cell is raised. -/
namespace My
open PySem PySem.Spec PyProof.Rows L2 LamX NdefX
def mn (b x : Int) : Int := if x < b then x else b
section
variable {P : Program} {w : World} {K : PySem.W.Frag} {mg : Str → Option Value} {base : Heap} {FC DC CC RC EC : Addr}
abbrev sEffD : Stmt := (inClass (top 14) 4)
theorem scEffD : FnScope ["self", "name", "work", "made"] ["self", "name", "work"] (defScope sEffD) := ⟨rfl, rfl, rfl, by decide +kernel, rfl, by decide +kernel, by decide +kernel⟩
def spEffD (FC DC EC RC : Addr) (spR spS : Sp) : Sp := fun vs H Q _ => ∃ (d dx f fx nD wk : Addr) (fs : List (Str × V)) (z : Str) (o : V) (kvs : List (Key × V)), vs = [.ref d, .str z, .ref wk] ∧ H d = some (.ins DC dx [("_floor", .ref f)]) ∧ H f = some (.ins FC fx fs) ∧ fs.lookup ("inmost" : Str) = some o ∧ AtEff RC H o ∧
  fs.lookup ("check_place" : Str) = none ∧ fs.lookup ("take_name" : Str) = none ∧ fs.lookup ("names" : Str) = some (.ref nD) ∧ H nD = some (.dK kvs) ∧ valV kvs (Sum.inr z) = none ∧ kvs.length < 1000 ∧
  ∀ H1 a ax nt, Kp [nD] H H1 → H1 nD = some (.dK (kvs ++ [(Sum.inr z, .bl true)])) → H a = none → H nt = none → a ≠ nt → H1 a = some (.ins EC ax (effF z .non 0 nt f wk)) → H1 nt = some (.dK []) → spR [.ref a] H1 (fun _ H2 => ∃ (fs2 : List (Str × V)) (eL : Addr) (es : List V), H2 d = some (.ins DC dx [("_floor", .ref f)]) ∧ H2 f = some (.ins FC fx fs2) ∧ fs2.lookup ("effects" : Str) = some (.ref eL) ∧ fs2.lookup ("settle" : Str) = none ∧ H2 eL = some (.lst es) ∧ es.length < 1000 ∧
    ∀ H3, Kp [eL] H2 H3 → H3 eL = some (.lst (es ++ [.ref a])) → spS [.ref f] H3 (fun _ H4 => Q (.ref a) H4) E0) E0
theorem ok_effD {f fP fT fI fR fS : Addr} {fd dP dT dI dR dS : FuncData} {k : Nat} {spR spS : Sp} (hk : 2 ≤ k) (F : Fun K "effect" "Desk.effect" sEffD f fd) (T : DkT K DC) (TF : FlT K FC) (TE : EfT K EC) (MP : MO P w K mg base FC "check_place" 1 ["self"] (spPlaceE FC RC) fP dP) (MT : MO P w K mg base FC "take_name" 1 ["self", "name"] (spTakeN FC) fT dT)
    (MkE : Mk K EC fI) (gE : mg "Effect" = some (.ref EC)) (oE : FnOk P w K mg base CX0 1 fI dI ["self", "floor", "name", "work"] (spInitE EC)) (bE : Binds K dI ["self", "floor", "name", "work"] []) (MR : MO P w K mg base EC "run" k ["self"] spR fR dR) (MS : MO P w K mg base FC "settle" k ["self"] spS fS dS)
    (upR : ∀ H f (Q Q' : VK), spR [.ref f] H Q E0 → (∀ v H', Q v H' → Q' v H') → spR [.ref f] H Q' E0) (upS : ∀ H f (Q Q' : VK), spS [.ref f] H Q E0 → (∀ v H', Q v H' → Q' v H') → spS [.ref f] H Q' E0) : FnOk P w K mg base CX0 (k + 1) f fd ["self", "name", "work"] (spEffD FC DC EC RC spR spS) := by
  refine F.ok scEffD (fun vs H Q E h => ?_) (fun cdv A outer s H vs Q E hr h => ?_)
  · obtain ⟨d, dx, f, fx, nD, wk, fs, z, o, kvs, rfl, _⟩ := h
    rfl
  · obtain ⟨d, dx, f, fx, nD, wk, fs, z, o, kvs, rfl, hd, hf, hl, ho, n1, n2, hn, hnD, vn, ln, k⟩ := h
    have nd := scEffD.nd
    have hr1 := hr.mono (by omega : 1 ≤ _)
    have hr2 := hr.mono hk
    have hsl := sizeLine_eq
    refine ⟨_, pss_cons (ps_expr (pe_meth0 (pe_fld (pv 0) rfl) TF.cl MP.m MP.o hr1 MP.b .nil pass0))
      (pss_cons (ps_expr (pe_meth (pe_fld (pv 0) rfl) TF.cl MT.m MT.o hr1 MT.b .nil pass0 (pa_cons (pv 1) pa_nil)))
      (pss_cons (ps_set (i := 3) nd rfl (Or.inl rfl) (pe_make MkE oE hr2 (by rfl) gE bE .nil pass0 (pa_cons (pe_fld (pv 0) rfl) (pa_cons (pv 1) (pa_cons (pv 2) pa_nil)))))
      (pss_cons (ps_expr (pe_meth0 (pv 3) TE.cl MR.m MR.o hr MR.b .nil pass0))
      (pss_cons (ps_expr (pe_bm PySem.F.plainAttrs_list PySem.F.slot_list_append PySem.F.type_list_append mt_append (pe_fld (pe_fld (pv 0) rfl) rfl) (pa_cons (pv 3) pa_nil)))
      (pss_cons (ps_expr (pe_meth0 (pe_fld (pv 0) rfl) TF.cl MS.m MS.o hr MS.b .nil pass0)) (pss_one (ps_ret (pv 3)))))))), ?_⟩
    refine ⟨_, rfl, d, DC, dx, _, _, rfl, hd, T.cl, T.no, rfl, f, fx, fs, rfl, hf, n1, f, fx, fs, o, rfl, hf, hl, ho, ?_⟩
    refine ⟨_, rfl, d, DC, dx, _, _, rfl, hd, T.cl, T.no, rfl, f, fx, fs, rfl, hf, n2, _, rfl, f, fx, nD, fs, z, kvs, rfl, hf, hn, hnD, vn, ln, ?_⟩
    rw [putK_new _ vn]
    obtain ⟨H1, e1⟩ : ∃ H1, upd H nD (.dK (kvs ++ [(Sum.inr z, .bl true)])) = H1 := ⟨_, rfl⟩
    have m1 : H1 nD = some (.dK (kvs ++ [(Sum.inr z, .bl true)])) := by rw [← e1]; exact upd_same
    have o1 : ∀ b, b ≠ nD → H1 b = H b := fun b n => by rw [← e1]; exact upd_ne n
    rw [e1]
    have ndn : d ≠ nD := fun e => by rw [e, hnD] at hd; cases hd
    have nfn : f ≠ nD := fun e => by rw [e, hnD] at hf; cases hf
    have d1 := (o1 d ndn).trans hd
    have f1 := (o1 f nfn).trans hf
    refine ⟨_, rfl, d, DC, dx, _, _, rfl, d1, T.cl, T.no, rfl, _, rfl, _, rfl, fun a ax ha hax hne => ⟨a, ax, f, wk, z, rfl, upd_same, fun H3 nt k3 hnt a3 n3 => ⟨rfl, ?_⟩⟩⟩
    have low : ∀ {x : Addr}, H1 x = none → H x = none := fun {x} e => by
      have n : x ≠ nD := fun w => by rw [w, m1] at e; cases e
      rw [o1 _ n] at e; exact e
    have back : ∀ y, upd (upd H1 ax (.own a)) a (.ins EC ax []) y = none → H1 y = none ∧ y ≠ a := fun y e => by
      have n1 : y ≠ a := fun z => by rw [z, upd_same] at e; cases e
      rw [upd_ne n1] at e
      have n2 : y ≠ ax := fun z => by rw [z, upd_same] at e; cases e
      rw [upd_ne n2] at e
      exact ⟨e, n1⟩
    have o3 : ∀ b o, H1 b = some o → H3 b = some o := fun b o e => k3 b o (by simpa using ne_of_none e ha) (by rw [upd_ne (ne_of_none e ha), upd_ne (ne_of_none e hax)]; exact e)
    have k03 : Kp [nD] H H3 := fun b u nb e => o3 b u ((o1 b (by simpa using nb)).trans e)
    refine ⟨_, rfl, a, ax, _, rfl, a3, rfl, upR _ _ _ _ (k H3 a ax nt k03 (o3 _ _ m1) (low ha) (low (back nt hnt).1) (back nt hnt).2.symm a3 n3) ?_⟩
    rintro _ H4 ⟨fs2, eL, es, d4, f4, g1, g2, l4, len, q⟩
    refine ⟨_, rfl, d, DC, dx, _, _, rfl, d4, T.cl, T.no, rfl, f, FC, fx, _, _, rfl, f4, TF.cl, TF.no _ (by simp), g1, .inl ⟨rfl, _, SqL.of l4⟩, _, rfl, eL, _, _, rfl, rfl, l4, by omega, ?_⟩
    have nde : d ≠ eL := fun e => by rw [e, l4] at d4; cases d4
    have nfe : f ≠ eL := fun e => by rw [e, l4] at f4; cases f4
    refine ⟨_, rfl, d, DC, dx, _, _, rfl, (upd_ne nde).trans d4, T.cl, T.no, rfl, f, fx, fs2, rfl, (upd_ne nfe).trans f4, g2, upS _ _ _ _ (q _ (Kp.put (by simp)) upd_same) fun _ H5 h => ⟨_, rfl, h⟩⟩
/-! ### the law's work -/
abbrev sUp : Stmt := (top 22)
theorem scUp : FnScope ["_law_cell", "_law_step", "_law_limit", "_law_worth"] ["_law_cell", "_law_step", "_law_limit"] (defScope sUp) := ⟨rfl, rfl, rfl, by decide +kernel, rfl, by decide +kernel, by decide +kernel⟩
def spUpL (CC : Addr) (spP : Sp) : Sp := fun vs H Q _ => ∃ (a ax f : Addr) (z : Str) (v step limit : Int), vs = [.ref a, .int step, .int limit] ∧ H a = some (.ins CC ax (cellF z f v)) ∧ spP [.ref a, .int (mn limit (v + step))] H (fun _ H' => Q (.int (mn limit (v + step))) H') E0
theorem ok_up {f fP pA gA : Addr} {fd dP dV : FuncData} {k : Nat} {spP : Sp} (hk : 2 ≤ k) (F : Fun K "_law_up" "_law_up" sUp f fd) (B : Bt mg) (T : CeT K CC) (PV : PO P w K mg base CC pA gA dV) (MP : MO P w K mg base CC "put" k ["self", "value"] spP fP dP)
    (upP : ∀ H vs (Q Q' : VK), spP vs H Q E0 → (∀ v H', Q v H' → Q' v H') → spP vs H Q' E0) : FnOk P w K mg base CX0 (k + 1) f fd ["_law_cell", "_law_step", "_law_limit"] (spUpL CC spP) := by
  refine F.ok scUp (fun vs H Q E h => ?_) (fun cdv A outer s H vs Q E hr h => ?_)
  · obtain ⟨a, ax, f, z, v, step, limit, rfl, _⟩ := h
    rfl
  · obtain ⟨a, ax, f, z, v, step, limit, rfl, ha, q⟩ := h
    have nd := scUp.nd
    have hr1 := hr.mono hk
    refine ⟨_, pss_cons (ps_set (i := 3) nd rfl (Or.inl rfl) (pe_callB (call_min2 rfl) (by rfl) B.min boot_min (pa_cons (pv 2) (pa_cons (pe_op op_add (pe_prop (pv 0) T.cl PV.p PV.o hr1 PV.b .nil pass0 rfl) (pv 1)) pa_nil))))
      (pss_cons (ps_expr (pe_meth (pv 0) T.cl MP.m MP.o hr MP.b .nil pass0 (pa_cons (pv 3) pa_nil))) (pss_one (ps_ret (pv 3)))), ?_⟩
    refine ⟨_, rfl, _, rfl, a, ax, _, rfl, ha, a, ax, f, z, v, rfl, ha, _, rfl, _, _, rfl, rfl, _, _, rfl, ?_⟩
    exact ⟨_, rfl, a, ax, _, rfl, ha, rfl, _, rfl, upP _ _ _ _ q fun _ H' h => ⟨_, rfl, h⟩⟩
end
end My

set_option Elab.async false
set_option linter.all false
set_option maxRecDepth 100000
set_option maxHeartbeats 8000000
/-! E5: the law's work, amid its run. -/
namespace My
open PySem PySem.Spec PyProof.Rows L2 LamX NdefX
theorem up_get {cs : Cells} {H : Hp} {b : Addr} {u : HO} (n : ∀ c o, cs.lookup c = some o → H c = none) (e : H b = some u) : upC cs H b = some u := by
  cases hl : cs.lookup b with
  | some o => rw [n b o hl] at e; cases e
  | none => rw [upC_out hl]; exact e
theorem out_of {cs : Cells} {H : Hp} {b : Addr} {u : HO} (n : ∀ c o, cs.lookup c = some o → H c = some (CO c o)) (x : ∀ φ, u ≠ .ext φ) (e : H b = some u) : cs.lookup b = none := by
  cases hl : cs.lookup b with
  | some o => rw [n b o hl] at e; exact absurd (Option.some.inj e) (co_ne x)
  | none => rfl
theorem dn_get {cs : Cells} {H : Hp} {b : Addr} {u : HO} (n : ∀ c o, cs.lookup c = some o → H c = some (CO c o)) (x : ∀ φ, u ≠ .ext φ) (e : H b = some u) : dnC cs H b = some u := by
  rw [dnC_out (out_of n x e)]; exact e
def kindO : HO → Nat
  | .ins _ _ fs => fs.length + 10
  | .dK _ => 1
  | .lst _ => 2
  | .ext _ => 3
  | _ => 4
theorem ne_kind {H : Hp} {a b : Addr} {x y : HO} (ha : H a = some x) (hb : H b = some y) (h : kindO x ≠ kindO y) : a ≠ b := fun e => by
  rw [e, hb] at ha
  cases ha
  exact h rfl
/-- a run of the effect e is under way; w: the cell's value -/
structure InRun (FC DC CC RC : Addr) (H : Hp) (d dx f fx nD cD sD eL lL tD a ax r rx nt : Addr) (w : Int) (o : V) (kvs tk : List (Key × V)) (q : Int) : Prop where
  hd : H d = some (.ins DC dx [("_floor", .ref f)])
  hf : H f = some (.ins FC fx (floorG nD cD sD eL lL (.ref r) tD))
  ha : H a = some (.ins CC ax (cellF "a" f w))
  hr : H r = some (.ins RC rx (runF "e" false o nt q))
  hn : H nt = some (.dK kvs)
  ht : H tD = some (.dK tk)
  lk : kvs.length < 900
  lt : tk.length < 900
  ntt : nt ≠ tD
section
variable {P : Program} {w : World} {K : PySem.W.Frag} {mg : Str → Option Value} {base : Heap} {FC DC CC RC EC : Addr} {H H' : Hp} {d dx f fx nD cD sD eL lL tD a ax r rx nt : Addr} {v : Int} {o : V} {kvs kvs' tk tk' : List (Key × V)} {q q' : Int}
theorem InRun.kp {S : List Addr} (h : InRun FC DC CC RC H d dx f fx nD cD sD eL lL tD a ax r rx nt v o kvs tk q) (k : Kp S H H') (n : ∀ x ∈ [d, f, a, r, nt, tD], x ∉ S) : InRun FC DC CC RC H' d dx f fx nD cD sD eL lL tD a ax r rx nt v o kvs tk q :=
  ⟨k _ _ (n _ (by simp)) h.hd, k _ _ (n _ (by simp)) h.hf, k _ _ (n _ (by simp)) h.ha, k _ _ (n _ (by simp)) h.hr, k _ _ (n _ (by simp)) h.hn, k _ _ (n _ (by simp)) h.ht, h.lk, h.lt, h.ntt⟩
theorem InRun.note (h : InRun FC DC CC RC H d dx f fx nD cD sD eL lL tD a ax r rx nt v o kvs tk q) (k : Kp [nt] H H') (e : H' nt = some (.dK kvs')) (l : kvs'.length < 900) : InRun FC DC CC RC H' d dx f fx nD cD sD eL lL tD a ax r rx nt v o kvs' tk q := by
  have n : ∀ {x : Addr} {u : HO}, H x = some u → kindO u ≠ 1 → x ∉ [nt] := fun e n => by simpa using ne_kind e h.hn n
  exact ⟨k _ _ (n h.hd (by show ¬ (1 + 10 = 1); decide)) h.hd, k _ _ (n h.hf (by show ¬ (9 + 10 = 1); decide)) h.hf, k _ _ (n h.ha (by show ¬ (3 + 10 = 1); decide)) h.ha, k _ _ (n h.hr (by show ¬ (5 + 10 = 1); decide)) h.hr, e, k _ _ (by simpa using h.ntt.symm) h.ht, l, h.lt, h.ntt⟩
theorem InRun.put {v' : Int} (h : InRun FC DC CC RC H d dx f fx nD cD sD eL lL tD a ax r rx nt v o kvs tk q) (k : Kp [a, tD] H H') (e1 : H' a = some (.ins CC ax (cellF "a" f v'))) (e2 : H' tD = some (.dK tk')) (l : tk'.length < 900) : InRun FC DC CC RC H' d dx f fx nD cD sD eL lL tD a ax r rx nt v' o kvs tk' q := by
  have n : ∀ {x : Addr} {u : HO}, H x = some u → kindO u ≠ 1 → kindO u ≠ 13 → x ∉ [a, tD] := fun e n1 n2 => by
    simp only [List.mem_cons, List.mem_nil_iff, or_false, not_or]
    exact ⟨ne_kind e h.ha n2, ne_kind e h.ht n1⟩
  refine ⟨k _ _ (n h.hd (by show ¬ (1 + 10 = 1); decide) (by show ¬ (1 + 10 = 13); decide)) h.hd, k _ _ (n h.hf (by show ¬ (9 + 10 = 1); decide) (by show ¬ (9 + 10 = 13); decide)) h.hf, e1, k _ _ (n h.hr (by show ¬ (5 + 10 = 1); decide) (by show ¬ (5 + 10 = 13); decide)) h.hr, k _ _ ?_ h.hn, e2, h.lk, l, h.ntt⟩
  simp only [List.mem_cons, List.mem_nil_iff, or_false, not_or]
  exact ⟨(ne_kind h.ha h.hn (by show ¬ (3 + 10 = 1); decide)).symm, h.ntt⟩
theorem InRun.quiet (h : InRun FC DC CC RC H d dx f fx nD cD sD eL lL tD a ax r rx nt v o kvs tk q) (k : Kp [r] H H') (e : H' r = some (.ins RC rx (runF "e" false o nt q'))) : InRun FC DC CC RC H' d dx f fx nD cD sD eL lL tD a ax r rx nt v o kvs tk q' := by
  have n : ∀ {x : Addr} {u : HO}, H x = some u → kindO u ≠ 15 → x ∉ [r] := fun e n => by simpa using ne_kind e h.hr n
  exact ⟨k _ _ (n h.hd (by show ¬ (1 + 10 = 15); decide)) h.hd, k _ _ (n h.hf (by show ¬ (9 + 10 = 15); decide)) h.hf, k _ _ (n h.ha (by show ¬ (3 + 10 = 15); decide)) h.ha, e, k _ _ (n h.hn (by show ¬ (1 = 15); decide)) h.hn, k _ _ (n h.ht (by show ¬ (1 = 15); decide)) h.ht, h.lk, h.lt, h.ntt⟩
/-- settling amid a run -/
def spSR (FC : Addr) : Sp := fun vs H Q _ => ∃ (f fx : Addr) (fs : List (Str × V)) (r : Addr), vs = [.ref f] ∧ H f = some (.ins FC fx fs) ∧ fs.lookup ("inmost" : Str) = some (V.ref r) ∧ Q .non H
theorem ok_settleR {f fU fR : Addr} {fd dU dR : FuncData} (F : Fun K "settle" "Floor.settle" sSettle f fd) (T : FlT K FC) (TE : EfT K EC) (MU : Meth K FC "_due" fU) (bU : Binds K dU ["self"] []) (MR : Meth K EC "run" fR) (bR : Binds K dR ["self"] []) : FnOk P w K mg base CX0 2 f fd ["self"] (spSR FC) := by
  have no : ∀ {g : Addr} {gd : FuncData} {ps : List Str}, FnOk P w K mg base CX0 1 g gd ps (fun _ _ _ _ => False) := ⟨fun vs H Q E h => h.elim, fun A outer s H args us vs Q E hr e0 b r h => h.elim⟩
  have o := ok_settleE (P := P) (w := w) (mg := mg) (base := base) (spD := fun _ _ _ _ => False) (spR := fun _ _ _ _ => False) F T TE ⟨MU, bU, no⟩ ⟨MR, bR, no⟩ (fun _ _ _ _ h _ => h) (fun _ _ _ _ h _ => h)
  refine ⟨fun vs H Q E ⟨f, fx, fs, r, e, _⟩ => by rw [e]; rfl, fun A outer s H args us vs Q E hr e0 b r ⟨f, fx, fs, rr, e, h1, h2, q⟩ => o.run A outer s H args us vs Q E hr e0 b r ⟨f, fx, e, .inl ⟨fs, rr, h1, h2, q⟩⟩⟩
/-- a cell read amid a run -/
def spCallE (FC CC RC : Addr) : Sp := fun vs H Q E => spCallR FC CC RC vs H Q E ∨ spCallQ FC CC RC vs H Q E
abbrev spPR (FC CC RC : Addr) : Sp := spPutE FC CC RC (spSR FC)
theorem InRun.read (h : InRun FC DC CC RC H d dx f fx nD cD sD eL lL tD a ax r rx nt v o kvs tk 0) {Q : VK} (k : ∀ H', Kp [nt] H H' → H' nt = some (.dK (setd kvs (Sum.inr "a") (.int v))) → Q (.int v) H') : spCallE FC CC RC [.ref a] H Q E0 :=
  .inl ⟨a, ax, f, fx, r, rx, nt, _, "a", "e", v, o, false, kvs, rfl, h.ha, h.hf, rfl, rfl, h.hr, h.hn, by have := h.lk; omega, k⟩
theorem putK_len (kvs : List (Key × V)) (k : Key) (v : V) : (putK kvs k v).length ≤ kvs.length + 1 := by
  induction kvs with
  | nil => exact Nat.le_refl _
  | cons p r ih =>
    unfold putK
    split <;> simp <;> omega
theorem InRun.rput {v' : Int} (h : InRun FC DC CC RC H d dx f fx nD cD sD eL lL tD a ax r rx nt v o kvs tk q) {Q : VK} (lt : tk.length < 800)
    (k : ∀ H' tk', Kp [a, tD] H H' → tk'.length ≤ tk.length + 1 → InRun FC DC CC RC H' d dx f fx nD cD sD eL lL tD a ax r rx nt v' o kvs tk' q → Q .non H') : spPR FC CC RC [.ref a, .int v'] H Q E0 := by
  refine ⟨a, ax, f, fx, tD, "a", v, _, _, _, tk, rfl, h.ha, h.hf, rfl, .inr ⟨r, rx, nt, "e", o, q, rfl, h.hr⟩, rfl, rfl, rfl, h.ht, by omega, ne_kind h.ha h.hf (by show ¬ (3 + 10 = 9 + 10); decide), fun H' tk' k' e1 e2 et => ?_⟩
  have ll : tk'.length ≤ tk.length + 1 := by
    rcases et with rfl | rfl
    · omega
    · exact putK_len _ _ _
  have h' := h.put k' e1 e2 (by omega)
  exact ⟨f, fx, _, r, rfl, h'.hf, rfl, k H' tk' k' ll h'⟩
end
end My

set_option Elab.async false
set_option linter.all false
set_option maxRecDepth 100000
set_option maxHeartbeats 8000000
/-! E6: the law's work. -/
namespace My
open PySem PySem.Spec PyProof.Rows L2 LamX NdefX
/-- a def of the written part, and its code object -/
structure FunC (K : PySem.W.Frag) (x qual : Str) (st : Stmt) (f : Addr) (fd : FuncData) (c : Addr) : Prop where
  ex : ∃ (oc : Value) (od : Option Addr) (kV doc pm : Value) (an : Option Addr) (ct : Value) (osl : Array (Option Value)), fd = PySem.W.fnOf x qual (defArgs st) (defBody st) (defScope st) .none kV doc pm an (.ref c) ct ∧
    K.lookup f = some ⟨oc, od, .func (PySem.W.fnOf x qual (defArgs st) (defBody st) (defScope st) .none kV doc pm an (.ref c) ct), osl⟩ ∧ PySem.W.codeIn K (.ref c) qual = true
/-- an operator of a class -/
structure SO (P : Program) (w : World) (K : PySem.W.Frag) (mg : Str → Option Value) (base : Heap) (CX : CXT) (C : Addr) (m : Str) (k : Nat) (ps : List Str) (sp : Sp) (f : Addr) (fd : FuncData) : Prop where
  m : Spc K C m f
  i : PySem.W.fnIn K f = true
  b : Binds K fd ps []
  o : FnOk P w K mg base CX k f fd ps sp
/-- a def of the law -/
structure LD (P : Program) (w : World) (K : PySem.W.Frag) (mg : Str → Option Value) (base : Heap) (x : Str) (k : Nat) (ps : List Str) (sp : Sp) (f : Addr) (fd : FuncData) : Prop where
  a : At K mg x f
  b : Binds K fd ps []
  o : FnOk P w K mg base CX0 k f fd ps sp
section
variable {P : Program} {w : World} {K : PySem.W.Frag} {mg : Str → Option Value} {base : Heap} {FC DC CC RC EC : Addr}
theorem FunC.ok {x qual : Str} {st : Stmt} {f : Addr} {fd : FuncData} {c : Addr} {N ps : List Str} {k : Nat} {sp : Sp} (F : FunC K x qual st f fd c) (S : FnScope N ps (defScope st)) (len : ∀ vs H Q E, sp vs H Q E → vs.length = ps.length)
    (hbody : ∀ (A : Around) (outer : List PySem.Env) (s : Shared) (H : Hp) (vs : List V) (Q : VK) (E : XK), Room k (A.deeper (envOfC qual (defScope st) s.heap.objs.size f (.ref c))) → sp vs H Q E →
      ∃ t, PSs (cxOf CX0 P w K mg base N qual (defScope st) f (.ref c) A outer s H E).nox (defBody st) t ∧ t { nx := fun _ H' => Q .non H', rt := Q } (start N vs) H) : FnOk P w K mg base CX0 (k + 1) f fd ps sp := by
  obtain ⟨oc, od, kV, doc, pm, an, ct, osl, rfl, lk, hcd⟩ := F.ex
  refine fn_of lk hcd S len fun A outer s H vs Q E hr hsp => ?_
  obtain ⟨t, h, q⟩ := hbody A outer s H vs Q E hr hsp
  exact ⟨t, h.nox, q⟩
abbrev sWork : Stmt := (top 23)
abbrev NWork : List Str := ["_law_desk", "_law_cell", "_law_step", "_law_limit", "_law_road", "_law_found", "_law_first"]
theorem scWork : FnScope NWork ["_law_desk", "_law_cell", "_law_step", "_law_limit", "_law_road"] (defScope sWork) := ⟨rfl, rfl, rfl, by decide +kernel, rfl, by decide +kernel, by decide +kernel⟩
/-! ### its own lambda -/
def exprArg (st : Stmt) (i : Nat) : Expr := match st with
  | .Expr (.Call _ as _ _) _ => as.getD i (.Name "" ⟨0, 0, 0, 0⟩)
  | .Assign _ (.Call _ as _ _) _ => as.getD i (.Name "" ⟨0, 0, 0, 0⟩)
  | _ => .Name "" ⟨0, 0, 0, 0⟩
def lamPar : Expr → Arguments
  | .Lambda p _ _ _ => p
  | _ => ⟨[], [], none, [], [], none, []⟩
def lamBod : Expr → Expr
  | .Lambda _ b _ _ => b
  | e => e
def lamScp : Expr → Scope
  | .Lambda _ _ s _ => s
  | _ => { kind := .function, names := [], isGenerator := false, isCoroutine := false }
abbrev lamY : Expr := exprArg ((defBody sWork).getD 5 (.Pass ⟨0, 0, 0, 0⟩)) 0
abbrev N3 : List Str := ["_law_cell", "_law_step", "_law_limit"]
theorem lamY_scope : NScope N3 [] N3 (lamScp lamY) := nscope_by (by decide +kernel)
abbrev lamYN (q : Str) (cl : List (Str × Addr)) (c : Addr) : NF := ⟨"<lambda>", q, lamPar lamY, [], lamScp lamY, cl, c⟩
theorem lamY_run {fU : Addr} {dU : FuncData} {k : Nat} {q : Str} {cl : List (Str × Addr)} {c f : Addr} {H : Hp} {Q : VK} {cs : Cells} {a : Addr} {step limit : Int} {spP : Sp} (U : LD P w K mg base "_law_up" k N3 (spUpL CC spP) fU dU)
    (hf : H f = some (LamO f (lamYN q cl c) (lamBod lamY))) (hco : H c = some (CodeO c q)) (C : CsAt cl N3 [some (.ref a), some (.int step), some (.int limit)] cs) (hc : ∀ c o, cs.lookup c = some o → H c = some (CO c o))
    (hq : spUpL CC spP [.ref a, .int step, .int limit] (dnC cs H) (fun v H2 => (∀ c o, cs.lookup c = some o → H2 c = none) → Q v (upC cs H2)) E0) : WorkCall P w K mg base (k + 1) f H Q :=
  work_lam (F := lamYN q cl c) (N := N3) (fr := N3) lamY_scope (fun _ _ => rfl) hf hco C hc (fun A outer s hr => pe_call U.o hr (by rfl) U.a.g U.a.k U.b .nil pass0 (pa_cons (pv 0) (pa_cons (pv 1) (pa_cons (pv 2) pa_nil)))) ⟨_, rfl, _, rfl, _, rfl, hq⟩
abbrev qY : Str := (envOfC "_law_work" (defScope sWork) 0 0 .none).qual ++ "<lambda>"
/-- what the work reports; what it notes -/
def repI (road : Nat) (x y : Int) : Int := if road = 1 then y else x
def RepAt (H : Hp) (road : Nat) (x y : Int) (v : V) : Prop := if road = 4 then ∃ t, v = .ref t ∧ H t = some (.tup [.int x, .int y]) else v = .int (repI road x y)
def noteI (road : Nat) (x y : Int) : List (Key × V) := if road = 0 ∨ road = 4 then [(Sum.inr "a", .int x)] else if road = 1 then [(Sum.inr "a", .int y)] else []
def spWork (FC DC CC RC PT : Addr) : Sp := fun vs H Q _ => ∃ (d dx f fx nD cD sD eL lL tD a ax r rx nt : Addr) (x step limit : Int) (road : Nat) (o : V) (tk : List (Key × V)), vs = [.ref d, .ref a, .int step, .int limit, .int (road : Int)] ∧ road < 5 ∧ InRun FC DC CC RC H d dx f fx nD cD sD eL lL tD a ax r rx nt x o [] tk 0 ∧ tk.length < 700 ∧ TabS H PT qY ∧
  ∀ H' v tk', Kp [a, tD, nt, PT] H H' → InRun FC DC CC RC H' d dx f fx nD cD sD eL lL tD a ax r rx nt (mn limit (x + step)) o (noteI road x (mn limit (x + step))) tk' 0 → tk'.length ≤ tk.length + 1 → TabS H' PT qY → RepAt H' road x (mn limit (x + step)) v → Q v H'
theorem tabs_kp {H H' : Hp} {S : List Addr} {PT : Addr} {q : Str} (t : TabS H PT q) (k : Kp S H H') (s : ∀ x ∈ S, ∀ o, H x = some o → kindO o ≠ 3 ∧ ∀ ps, o ≠ .tbl ps) : TabS H' PT q := by
  obtain ⟨ps, h1, h2, h3⟩ := t
  refine ⟨ps, k _ _ (fun e => (s _ e _ h1).2 _ rfl) h1, h2, fun pos cv hc => ?_⟩
  obtain ⟨c, e1, e2⟩ := h3 pos cv hc
  exact ⟨c, e1, k _ _ (fun e => (s _ e _ e2).1 rfl) e2⟩
theorem ok_work {fw c PT fU fC pA gA fQ : Addr} {fd dU dC dV : FuncData} (F : FunC K "_law_work" "_law_work" sWork fw fd c) (TB : TabB base mg c PT) (T : CeT K CC) (TD : DkT K DC) (TF : FlT K FC) (U : LD P w K mg base "_law_up" 4 N3 (spUpL CC (spPR FC CC RC)) fU dU) (C : SO P w K mg base CX0 CC "__call__" 2 ["self"] (spCallE FC CC RC) fC dC) (PV : PO P w K mg base CC pA gA dV)
    (MQ : Meth K DC "quietly" fQ) (oQ : FnR P w K mg base CX0 7 fQ (spQuietly DC FC (spInQ P w K mg base FC RC 5))) : FnOk P w K mg base CX0 8 fw fd ["_law_desk", "_law_cell", "_law_step", "_law_limit", "_law_road"] (spWork FC DC CC RC PT) := by
  refine F.ok scWork (fun vs H Q E h => ?_) (fun A outer s H vs Q E hr h => ?_)
  · obtain ⟨d, dx, f, fx, nD, cD, sD, eL, lL, tD, a, ax, r, rx, nt, x, step, limit, road, o, tk, rfl, _⟩ := h
    rfl
  · obtain ⟨d, dx, f, fx, nD, cD, sD, eL, lL, tD, a, ax, r, rx, nt, x, step, limit, road, o, tk, rfl, hroad, h, hlt, hT, k⟩ := h
    have nd := scWork.nd
    have hsl := sizeLine_eq
    have h2 := hr.mono (by decide : 2 ≤ 7)
    have h4 := hr.mono (by decide : 4 ≤ 7)
    refine ⟨_, pss_cons (ps_if (pt_cmpR op_eq (pv 4) pe_int (nomark _)) (pss_cons (ps_set (i := 5) nd rfl (Or.inl rfl) (pe_callO0 (pv 1) C.m C.i C.o h2 C.b pass0)) (pss_cons (ps_expr (pe_call U.o h4 (by rfl) U.a.g U.a.k U.b .nil pass0 (pa_cons (pv 1) (pa_cons (pv 2) (pa_cons (pv 3) pa_nil))))) (pss_one (ps_ret (pv 5))))) pss_nil)
      (pss_cons (ps_if (pt_cmpR op_eq (pv 4) pe_int (nomark _)) (pss_cons (ps_expr (pe_call U.o h4 (by rfl) U.a.g U.a.k U.b .nil pass0 (pa_cons (pv 1) (pa_cons (pv 2) (pa_cons (pv 3) pa_nil))))) (pss_one (ps_ret (pe_callO0 (pv 1) C.m C.i C.o h2 C.b pass0)))) pss_nil)
      (pss_cons (ps_if (pt_cmpR op_eq (pv 4) pe_int (nomark _)) (pss_cons (ps_set (i := 5) nd rfl (Or.inl rfl) (pe_prop (pv 1) T.cl PV.p PV.o h2 PV.b .nil pass0 rfl)) (pss_cons (ps_expr (pe_call U.o h4 (by rfl) U.a.g U.a.k U.b .nil pass0 (pa_cons (pv 1) (pa_cons (pv 2) (pa_cons (pv 3) pa_nil))))) (pss_one (ps_ret (pv 5))))) pss_nil)
      (pss_cons (ps_if (pt_cmpR op_eq (pv 4) pe_int (nomark _)) (pss_cons (ps_set (i := 5) nd rfl (Or.inl rfl) (pe_methR (pv 0) TD.cl MQ oQ hr pass0 (pa_cons (pv 1) pa_nil))) (pss_cons (ps_expr (pe_call U.o h4 (by rfl) U.a.g U.a.k U.b .nil pass0 (pa_cons (pv 1) (pa_cons (pv 2) (pa_cons (pv 3) pa_nil))))) (pss_one (ps_ret (pv 5))))) pss_nil)
      (pss_cons (ps_set (i := 6) nd rfl (Or.inl rfl) (pe_callO0 (pv 1) C.m C.i C.o h2 C.b pass0))
      (pss_cons (ps_expr (pe_methUp (cl := cloFrom (envOfC "_law_work" (defScope sWork) s.heap.objs.size fw (.ref c)).cells (lamScp lamY).names []) (fr := N3) (js := [1, 2, 3]) rfl (fun _ => rfl) (fun ok => ?_) (pv 0) TD.cl MQ oQ hr (pa_cons (pe_lamE TB rfl rfl (fun ok y hy e => ?_)) pa_nil)))
      (pss_one (ps_ret (pe_tup (pa_cons (pv 6) (pa_cons (pe_callO0 (pv 1) C.m C.i C.o h2 C.b pass0) pa_nil)))))))))), ?_⟩
    · exact Caps.made ok (ndef_free (sc := defScope sWork) (nsc := lamScp lamY) (fr := N3) (by decide +kernel)) (ndef_fr (sc := defScope sWork) (nsc := lamScp lamY) (fr := N3) (by decide +kernel)) rfl
    · exact ok.has _ (ndef_free (sc := defScope sWork) (nsc := lamScp lamY) (fr := N3) (by decide +kernel) y hy e)
    have dd : ∀ m : Nat, decide (V.int (road : Int) = V.int (m : Int)) = decide (road = m) := fun m => by
      by_cases e : road = m
      · rw [decide_eq_true e, e, decide_eq_true rfl]
      · rw [decide_eq_false e, decide_eq_false fun z => e (by have := V.int.inj z; omega)]
    have d0 : decide (V.int (road : Int) = V.int 0) = decide (road = 0) := dd 0
    have d1 : decide (V.int (road : Int) = V.int 1) = decide (road = 1) := dd 1
    have d2 : decide (V.int (road : Int) = V.int 2) = decide (road = 2) := dd 2
    have d3 : decide (V.int (road : Int) = V.int 3) = decide (road = 3) := dd 3
    obtain ⟨y, ey⟩ : ∃ y, mn limit (x + step) = y := ⟨_, rfl⟩
    rw [ey] at k
    have tab : ∀ {H'}, Kp [a, tD, nt] H H' → TabS H' PT qY := fun {H'} k' => tabs_kp hT k' fun q hq u hu => by
      simp only [List.mem_cons, List.mem_nil_iff, or_false] at hq
      rcases hq with rfl | rfl | rfl
      · rw [h.ha] at hu; cases hu; exact ⟨by show ¬ (3 + 10 = 3); decide, fun _ z => by cases z⟩
      · rw [h.ht] at hu; cases hu; exact ⟨by show ¬ (1 = 3); decide, fun _ z => by cases z⟩
      · rw [h.hn] at hu; cases hu; exact ⟨by show ¬ (1 = 3); decide, fun _ z => by cases z⟩
    have fin : ∀ {H' v tk' kvs'}, Kp [a, tD, nt] H H' → InRun FC DC CC RC H' d dx f fx nD cD sD eL lL tD a ax r rx nt y o kvs' tk' 0 → kvs' = noteI road x y → tk'.length ≤ tk.length + 1 → RepAt H' road x y v → Q v H' := fun {H' v tk' kvs'} k' h' e l rp => by
      subst e
      exact k H' v tk' (k'.mono (by simp)) h' l (tab k') rp
    have nar : a ≠ r := ne_kind h.ha h.hr (by show ¬ (3 + 10 = 5 + 10); decide)
    refine ⟨_, rfl, rfl, _, rfl, ?_⟩
    rw [d0]
    by_cases c0 : road = 0
    · rw [decide_eq_true c0]
      refine iteT ⟨_, rfl, a, ax, _, rfl, h.ha, h.read fun H1 k1 e1 => ?_⟩
      have h1 := h.note k1 e1 (by show 1 < 900; decide)
      refine ⟨_, rfl, _, rfl, _, rfl, a, ax, f, "a", x, step, limit, rfl, h1.ha, h1.rput (by omega) fun H2 tk' k2 l2 h2 => ⟨_, rfl, ?_⟩⟩
      rw [ey] at h2
      exact fin ((k1.mono (by simp)).trans (k2.mono (by simp))) h2 (by subst c0; rfl) l2 (by subst c0; rfl)
    rw [decide_eq_false c0]
    refine iteF ⟨_, rfl, rfl, _, rfl, ?_⟩
    rw [d1]
    by_cases c1 : road = 1
    · rw [decide_eq_true c1]
      refine iteT ⟨_, rfl, _, rfl, _, rfl, a, ax, f, "a", x, step, limit, rfl, h.ha, h.rput (by omega) fun H1 tk' k1 l1 h1 => ?_⟩
      rw [ey] at h1
      refine ⟨_, rfl, a, ax, _, rfl, h1.ha, h1.read fun H2 k2 e2 => ?_⟩
      have h2 := h1.note k2 e2 (by show 1 < 900; decide)
      exact fin ((k1.mono (by simp)).trans (k2.mono (by simp))) h2 (by subst c1; rfl) l1 (by subst c1; rfl)
    rw [decide_eq_false c1]
    refine iteF ⟨_, rfl, rfl, _, rfl, ?_⟩
    rw [d2]
    by_cases c2 : road = 2
    · rw [decide_eq_true c2]
      refine iteT ⟨_, rfl, a, ax, _, rfl, h.ha, a, ax, f, "a", x, rfl, h.ha, ?_⟩
      refine ⟨_, rfl, _, rfl, _, rfl, a, ax, f, "a", x, step, limit, rfl, h.ha, h.rput (by omega) fun H2 tk' k2 l2 h2 => ⟨_, rfl, ?_⟩⟩
      rw [ey] at h2
      exact fin (k2.mono (by simp)) h2 (by subst c2; rfl) l2 (by subst c2; rfl)
    rw [decide_eq_false c2]
    refine iteF ⟨_, rfl, rfl, _, rfl, ?_⟩
    rw [d3]
    by_cases c3 : road = 3
    · rw [decide_eq_true c3]
      refine iteT ⟨_, rfl, d, dx, _, rfl, h.hd, rfl, _, rfl, d, dx, f, fx, a, _, rfl, h.hd, h.hf, rfl, fun g hg => ?_⟩
      have hG := h.kp (Kp.new (S := []) (o := .tup []) hg) (fun _ _ => by simp)
      refine ⟨f, fx, r, rx, nt, a, g, _, "e", false, o, 0, rfl, hG.hf, rfl, hG.hr, upd_same, nar, .inr ⟨CC, ax, _, hG.ha⟩, fun H1 k1 r1 => ?_⟩
      have h1 := hG.quiet k1 r1
      refine work_own C.m C.i (C.o.mono (by decide : 2 ≤ 5)) C.b h1.ha (.inr ⟨a, ax, f, fx, r, rx, nt, _, "a", "e", x, o, false, 0 + 1, rfl, h1.ha, h1.hf, rfl, rfl, r1, by decide, r1, fun H3 k3 r3 => ?_⟩)
      have h3 := h1.quiet k3 r3
      refine ⟨_, rfl, _, rfl, _, rfl, a, ax, f, "a", x, step, limit, rfl, h3.ha, h3.rput (by omega) fun H4 tk' k4 l4 h4 => ⟨_, rfl, ?_⟩⟩
      rw [ey] at h4
      refine fin (fun b u nb e => ?_) h4 (by subst c3; rfl) l4 (by subst c3; rfl)
      by_cases hb : b = r
      · rw [hb, h.hr] at e; cases e
        rw [hb]; exact h4.hr
      · simp only [List.mem_cons, List.mem_nil_iff, or_false, not_or] at nb
        refine k4 _ _ ?_ (k3 _ _ (by simpa using hb) (k1 _ _ (by simpa using hb) ?_))
        · simp only [List.mem_cons, List.mem_nil_iff, or_false, not_or]; exact ⟨nb.1, nb.2.1⟩
        · rw [upd_ne (ne_of_none e hg)]; exact e
    rw [decide_eq_false c3]
    refine iteF ?_
    have c4 : road = 4 := by omega
    subst c4
    refine ⟨_, rfl, a, ax, _, rfl, h.ha, h.read fun H1 k1 e1 => ?_⟩
    have h1 := h.note k1 e1 (by show 1 < 900; decide)
    have T1 := tab (k1.mono (by simp))
    refine ⟨_, rfl, d, dx, _, rfl, h1.hd, rfl, T1, fun lf c' H2 kP nn tab2 flf lam2 code2 => ?_⟩
    obtain ⟨ps1, pt1, _⟩ := id T1
    have k2 : Kp [PT] H1 H2 := fun q u nq e => kP q u (by simpa using nq) e
    have npt : ∀ {q : Addr} {u : HO}, H1 q = some u → (∀ ps, u ≠ .tbl ps) → q ∉ [PT] := fun {q u} e n hm => by
      rw [List.mem_singleton.mp hm, pt1] at e; cases e; exact n _ rfl
    have h2' := h1.kp k2 fun q hq => by
      simp only [List.mem_cons, List.mem_nil_iff, or_false] at hq
      rcases hq with rfl | rfl | rfl | rfl | rfl | rfl
      · exact npt h1.hd fun _ z => by cases z
      · exact npt h1.hf fun _ z => by cases z
      · exact npt h1.ha fun _ z => by cases z
      · exact npt h1.hr fun _ z => by cases z
      · exact npt h1.hn fun _ z => by cases z
      · exact npt h1.ht fun _ z => by cases z
    refine fun gs hC hn' => ?_
    have hn : ∀ c o, gs.lookup c = some o → H2 c = none := fun c o e => (hn' c o e).1
    have up : Kp [] H2 (upC gs H2) := fun b u _ e => up_get hn e
    have hU := h2'.kp up (fun _ _ => by simp)
    refine ⟨d, dx, f, fx, lf, _, rfl, hU.hd, hU.hf, rfl, fun g hg => ?_⟩
    have kG : Kp [] (upC gs H2) (upd (upC gs H2) g (.tup [])) := Kp.new hg
    have hG := hU.kp kG (fun _ _ => by simp)
    have lamG := kG _ _ (by simp) (up _ _ (by simp) lam2)
    have codeG := kG _ _ (by simp) (up _ _ (by simp) code2)
    have cG : ∀ c o, gs.lookup c = some o → upd (upC gs H2) g (.tup []) c = some (CO c o) := fun c o e => kG _ _ (by simp) (upC_in e)
    have nr : ∀ {q : Addr} {φ : Heap → Prop}, upd (upC gs H2) g (.tup []) q = some (.ext φ) → q ∉ [r] := fun e => by simpa using ne_kind e hG.hr (by show ¬ (3 = 5 + 10); decide)
    refine ⟨f, fx, r, rx, nt, lf, g, _, "e", false, o, 0, rfl, hG.hf, rfl, hG.hr, upd_same, ne_kind lamG hG.hr (by show ¬ (3 = 5 + 10); decide), .inl (lamO_fn lamG), fun H3 k3 r3 => ?_⟩
    have h3 := hG.quiet k3 r3
    have hc3 : ∀ c o, gs.lookup c = some o → H3 c = some (CO c o) := fun c o e => k3 _ _ (nr (cG c o e)) (cG c o e)
    refine lamY_run U (k3 _ _ (nr lamG) lamG) (k3 _ _ (nr codeG) codeG) hC hc3 ?_
    have dn3 : ∀ {b : Addr} {u : HO}, H3 b = some u → (∀ φ, u ≠ .ext φ) → dnC gs H3 b = some u := fun e n => dn_get hc3 n e
    have hD : InRun FC DC CC RC (dnC gs H3) d dx f fx nD cD sD eL lL tD a ax r rx nt x o (setd [] (Sum.inr "a") (.int x)) tk (0 + 1) :=
      ⟨dn3 h3.hd (fun _ z => by cases z), dn3 h3.hf (fun _ z => by cases z), dn3 h3.ha (fun _ z => by cases z), dn3 h3.hr (fun _ z => by cases z), dn3 h3.hn (fun _ z => by cases z), dn3 h3.ht (fun _ z => by cases z), h3.lk, h3.lt, h3.ntt⟩
    refine ⟨a, ax, f, "a", x, step, limit, rfl, hD.ha, hD.rput (by omega) fun H4 tk' k4 l4 h4 no => ?_⟩
    rw [ey] at h4 ⊢
    have up4 : Kp [] H4 (upC gs H4) := fun b u _ e => up_get no e
    have h4u := h4.kp up4 (fun _ _ => by simp)
    refine ⟨h4u.hr, fun H5 k5 r5 => ?_⟩
    have h5 := h4u.quiet k5 r5
    have hc5 : ∀ c o, gs.lookup c = some o → H5 c = some (CO c o) := fun c o e => k5 _ _ (by simpa using ne_kind (upC_in e) h4u.hr (by show ¬ (3 = 5 + 10); decide)) (upC_in e)
    refine ⟨hc5, ?_⟩
    have dn5 : ∀ {b : Addr} {u : HO}, H5 b = some u → (∀ φ, u ≠ .ext φ) → dnC gs H5 b = some u := fun e n => dn_get hc5 n e
    have h6 : InRun FC DC CC RC (dnC gs H5) d dx f fx nD cD sD eL lL tD a ax r rx nt y o (setd [] (Sum.inr "a") (.int x)) tk' 0 :=
      ⟨dn5 h5.hd (fun _ z => by cases z), dn5 h5.hf (fun _ z => by cases z), dn5 h5.ha (fun _ z => by cases z), dn5 h5.hr (fun _ z => by cases z), dn5 h5.hn (fun _ z => by cases z), dn5 h5.ht (fun _ z => by cases z), h5.lk, h5.lt, h5.ntt⟩
    refine ⟨_, rfl, _, rfl, a, ax, _, rfl, h6.ha, h6.read fun H7 k7 e7 => ⟨(by show 2 ≤ sizeLine; omega), fun t ht => ?_⟩⟩
    have h7 := h6.note k7 e7 (by show 1 < 900; decide)
    have k8 : Kp [] H7 (upd H7 t (.tup [.int x, .int y])) := Kp.new ht
    have h8 := h7.kp k8 (fun _ _ => by simp)
    have KK : Kp [a, tD, nt, r] H2 (upd H7 t (.tup [.int x, .int y])) := fun b u nb e => by
      simp only [List.mem_cons, List.mem_nil_iff, or_false, not_or] at nb
      have gl : gs.lookup b = none := by
        cases hl : gs.lookup b with
        | none => rfl
        | some o => rw [hn b o hl] at e; cases e
      have e3 := k3 _ _ (by simpa using nb.2.2.2) (kG _ _ (by simp) (up _ _ (by simp) e))
      have e4 := k4 b u (by simp only [List.mem_cons, List.mem_nil_iff, or_false, not_or]; exact ⟨nb.1, nb.2.1⟩) (by rw [dnC_out gl]; exact e3)
      have e5 := k5 b u (by simpa using nb.2.2.2) (up4 _ _ (by simp) e4)
      exact k8 _ _ (by simp) (k7 b u (by simpa using nb.2.2.1) (by rw [dnC_out gl]; exact e5))
    refine k _ (.ref t) tk' (fun b u nb e => ?_) h8 l4 (tabs_kp tab2 KK fun q hq u hu => ?_) ⟨t, rfl, upd_same⟩
    · by_cases hb : b = r
      · rw [hb, h.hr] at e; cases e
        rw [hb]; exact h8.hr
      · simp only [List.mem_cons, List.mem_nil_iff, or_false, not_or] at nb
        refine KK b u (by simp only [List.mem_cons, List.mem_nil_iff, or_false, not_or]; exact ⟨nb.1, nb.2.1, nb.2.2.1, hb⟩) (k2 b u (by simpa using nb.2.2.2) (k1 b u (by simpa using nb.2.2.1) e))
    · simp only [List.mem_cons, List.mem_nil_iff, or_false] at hq
      rcases hq with rfl | rfl | rfl | rfl
      · rw [h2'.ha] at hu; cases hu; exact ⟨by show ¬ (3 + 10 = 3); decide, fun _ z => by cases z⟩
      · rw [h2'.ht] at hu; cases hu; exact ⟨by show ¬ (1 = 3); decide, fun _ z => by cases z⟩
      · rw [h2'.hn] at hu; cases hu; exact ⟨by show ¬ (1 = 3); decide, fun _ z => by cases z⟩
      · rw [h2'.hr] at hu; cases hu; exact ⟨by show ¬ (5 + 10 = 3); decide, fun _ z => by cases z⟩
end
end My

set_option Elab.async false
set_option linter.all false
set_option maxRecDepth 100000
set_option maxHeartbeats 8000000
/-! E7: the law's own account of the runs. -/
namespace My
open PySem PySem.Spec PyProof.Rows L2 LamX NdefX
/-- the values at which runs begin, and the one behind them -/
def runsX (step limit : Int) (road : Nat) : Nat → Int → List Int × Int
  | 0, x => ([], x)
  | n + 1, x => if (road = 1 ∨ road = 2 ∨ road = 3) ∨ x = mn limit (x + step) then ([x], mn limit (x + step)) else (x :: (runsX step limit road n (mn limit (x + step))).1, (runsX step limit road n (mn limit (x + step))).2)
theorem in123 : ∀ road < 5, inV (.int ((road : Nat) : Int)) [.int 1, .int 2, .int 3] = decide (road = 1 ∨ road = 2 ∨ road = 3) := by decide +kernel
/-- reports of runs that began at these values -/
def RepsAt (H : Hp) (road : Nat) (step limit : Int) : List Int → List V → Prop
  | [], vs => vs = []
  | x :: r, vs => ∃ v us, vs = v :: us ∧ RepAt H road x (mn limit (x + step)) v ∧ RepsAt H road step limit r us
theorem RepAt.kp {S : List Addr} {H H' : Hp} {road : Nat} {x y : Int} {v : V} (h : RepAt H road x y v) (k : Kp S H H') (s : ∀ q ∈ S, ∀ ys, H q ≠ some (.tup ys)) : RepAt H' road x y v := by
  unfold RepAt at h ⊢
  by_cases c : road = 4
  · rw [if_pos c] at h ⊢
    obtain ⟨t, e, ht⟩ := h
    exact ⟨t, e, k _ _ (fun z => s _ z _ ht) ht⟩
  · rw [if_neg c] at h ⊢
    exact h
theorem RepsAt.kp {S : List Addr} {H H' : Hp} {road : Nat} {step limit : Int} (k : Kp S H H') (s : ∀ q ∈ S, ∀ ys, H q ≠ some (.tup ys)) : ∀ {xs : List Int} {vs : List V}, RepsAt H road step limit xs vs → RepsAt H' road step limit xs vs
  | [], _, h => h
  | x :: r, _, ⟨v, us, e, h1, h2⟩ => ⟨v, us, e, h1.kp k s, RepsAt.kp k s h2⟩
theorem RepsAt.snoc {H : Hp} {road : Nat} {step limit : Int} {x : Int} {v : V} (hx : RepAt H road x (mn limit (x + step)) v) : ∀ {xs : List Int} {vs : List V}, RepsAt H road step limit xs vs → RepsAt H road step limit (xs ++ [x]) (vs ++ [v])
  | [], _, h => by
    obtain rfl : _ = [] := h
    exact ⟨v, [], rfl, hx, rfl⟩
  | y :: r, _, ⟨u, us, e, h1, h2⟩ => by
    subst e
    exact ⟨u, us ++ [v], rfl, h1, RepsAt.snoc hx h2⟩
theorem RepsAt.len {H : Hp} {road : Nat} {step limit : Int} : ∀ {xs : List Int} {vs : List V}, RepsAt H road step limit xs vs → vs.length = xs.length
  | [], _, h => by obtain rfl : _ = [] := h; rfl
  | y :: r, _, ⟨u, us, e, h1, h2⟩ => by
    subst e
    rw [List.length_cons, List.length_cons, RepsAt.len h2]
theorem RepsAt.app {H : Hp} {road : Nat} {step limit : Int} {ys : List Int} {us : List V} (h2 : RepsAt H road step limit ys us) : ∀ {xs : List Int} {vs : List V}, RepsAt H road step limit xs vs → RepsAt H road step limit (xs ++ ys) (vs ++ us)
  | [], _, h => by
    obtain rfl : _ = [] := h
    exact h2
  | y :: r, _, ⟨u, ws, e, h1, h⟩ => by
    subst e
    exact ⟨u, ws ++ us, rfl, h1, RepsAt.app h2 h⟩
section
variable {P : Program} {w : World} {K : PySem.W.Frag} {mg : Str → Option Value} {base : Heap} {FC DC CC RC EC : Addr}
abbrev sDueL : Stmt := (top 24)
abbrev NDue : List Str := ["_law_start", "_law_step", "_law_limit", "_law_road", "_law_worth", "_law_found", "_law_turn", "_law_after", "_law_is_over"]
theorem scDueL : FnScope NDue ["_law_start", "_law_step", "_law_limit", "_law_road"] (defScope sDueL) := ⟨rfl, rfl, rfl, by decide +kernel, rfl, by decide +kernel, by decide +kernel⟩
def spDueL : Sp := fun vs H Q _ => ∃ (start step limit : Int) (road : Nat), vs = [.int start, .int step, .int limit, .int (road : Int)] ∧ road < 5 ∧ ∀ H' t l us, Kp [] H H' → H t = none → H l = none → H' t = some (.tup [.ref l, .int (runsX step limit road 102 start).2]) → H' l = some (.lst us) → RepsAt H' road step limit (runsX step limit road 102 start).1 us → Q (.ref t) H'
theorem ok_dueL {f : Addr} {fd : FuncData} (F : Fun K "_law_due" "_law_due" sDueL f fd) (B : Bt mg) : FnOk P w K mg base CX0 1 f fd ["_law_start", "_law_step", "_law_limit", "_law_road"] spDueL := by
  refine F.ok scDueL (fun vs H Q E h => ?_) (fun cdv A outer s H vs Q E hr h => ?_)
  · obtain ⟨start, step, limit, road, rfl, _⟩ := h
    rfl
  · obtain ⟨start, step, limit, road, rfl, hroad, k⟩ := h
    have nd := scDueL.nd
    have hu := hu_of hr
    have hsl := sizeLine_eq
    refine ⟨_, pss_cons (ps_par (i := 4) (j := 5) rfl nd rfl rfl (by decide) rfl rfl (pa_cons (pv 0) (pa_cons (pe_lst pa_nil) pa_nil)) rfl)
      (C8.pss_cut (ps_for PassesOwn.never rfl (pi_range1 rfl B.range (pa_cons pe_int pa_nil)) (pg_name (i := 6) nd rfl (Or.inl rfl))
        (pss_cons (ps_set (i := 7) nd rfl (Or.inl rfl) (pe_callB (call_min2 rfl) (by rfl) B.min boot_min (pa_cons (pv 2) (pa_cons (pe_op op_add (pv 4) (pv 1)) pa_nil))))
        (pss_cons (ps_expr (pe_bm PySem.F.plainAttrs_list PySem.F.slot_list_append PySem.F.type_list_append mt_append (pv 5) (pa_cons (pe_dget hu (pe_disp (pps_cons pe_int (pv 4) (pps_cons pe_int (pv 7) (pps_cons pe_int (pv 4) (pps_cons pe_int (pv 4) (pps_cons pe_int (pe_tup (pa_cons (pv 4) (pa_cons (pv 7) pa_nil))) pps_nil))))) rfl rfl (by decide) (by decide)) (pv 3) (fun _ _ => rfl)) pa_nil)))
        (pss_cons (ps_set (i := 8) nd rfl (Or.inl rfl) (pe_or (pe_cmpR op_in_seq (pv 3) (pe_tup (pa_cons pe_int (pa_cons pe_int (pa_cons pe_int pa_nil)))) (by rfl)) (pe_one (pe_cmpR op_eq (pv 4) (pv 7) (nomark _)))))
        (pss_cons (ps_set (i := 4) nd rfl (Or.inl rfl) (pv 7)) (pss_one (ps_if (pt_val (pv 8)) (pss_one ps_break) pss_nil)))))))
      (pss_one (ps_ret (pe_tup (pa_cons (pv 5) (pa_cons (pv 4) pa_nil)))))), ?_⟩
    refine ⟨_, rfl, (by show 0 ≤ sizeLine; omega), fun l hl => ⟨_, _, rfl, ?_⟩⟩
    obtain ⟨H1, e1⟩ : ∃ H1, upd H l (.lst []) = H1 := ⟨_, rfl⟩
    have l1 : H1 l = some (.lst []) := by rw [← e1]; exact upd_same
    have K1 : Kp [] H H1 := by rw [← e1]; exact Kp.new hl
    rw [e1]
    have K1l : Kp [l] H H1 := K1.mono (by simp)
    obtain ⟨xsF, xF, eF⟩ : ∃ xsF xF, runsX step limit road 102 start = (xsF, xF) := ⟨_, _, (Prod.eta _).symm⟩
    rw [eF] at k
    refine ⟨fun σ' H' => ∃ (us : List V) (v6 v7 v8 : Option V), σ' = [some (.int start), some (.int step), some (.int limit), some (.int (road : Int)), some (.int xF), some (.ref l), v6, v7, v8] ∧ Kp [l] H H' ∧ H' l = some (.lst us) ∧ RepsAt H' road step limit xsF us, ?_, ?_⟩
    · refine ⟨102, rfl, by decide, by decide, for_range (lo := 0) (n := (102 : Int).toNat) (fun i σ H' => ∃ (x : Int) (xs r1 : List Int) (m : Nat) (us : List V) (v6 v7 v8 : Option V), σ = [some (.int start), some (.int step), some (.int limit), some (.int (road : Int)), some (.int x), some (.ref l), v6, v7, v8] ∧ Kp [l] H H' ∧ H' l = some (.lst us) ∧ RepsAt H' road step limit xs us ∧ xs.length = i ∧
        m + i = 102 ∧ runsX step limit road m x = (r1, xF) ∧ xs ++ r1 = xsF) ⟨start, [], xsF, 102, [], none, none, none, rfl, K1l, l1, rfl, rfl, rfl, eF, rfl⟩ ?_ ?_⟩
      · rintro i σ H2 hi ⟨x, xs, r1, m, us, v6, v7, v8, rfl, k2, hl2, hR, hx, hm, q1, q2⟩
        have hi : i < 102 := hi
        obtain ⟨n, rfl⟩ : ∃ n, m = n + 1 := ⟨m - 1, by omega⟩
        rw [runsX] at q1
        obtain ⟨y, ey⟩ : ∃ y, mn limit (x + step) = y := ⟨_, rfl⟩
        refine ⟨_, rfl, _, rfl, _, rfl, _, _, rfl, rfl, _, _, rfl, ?_⟩
        have ey' : (if x + step < limit then x + step else limit) = y := ey
        rw [ey']
        refine ⟨_, rfl, .inl ⟨rfl, _, SqL.of hl2⟩, fun p hp => ?_⟩
        obtain ⟨H3, e3⟩ : ∃ H3, upd H2 p (.dK []) = H3 := ⟨_, rfl⟩
        have p3 : H3 p = some (.dK []) := by rw [← e3]; exact upd_same
        have k3 : Kp [] H2 H3 := by rw [← e3]; exact Kp.new hp
        rw [e3]
        refine ⟨_, rfl, _, rfl, _, rfl, _, rfl, _, rfl, _, rfl, (by show 2 ≤ sizeLine; omega), fun tt htt => ?_⟩
        obtain ⟨H4, e4⟩ : ∃ H4, upd H3 tt (.tup [.int x, .int y]) = H4 := ⟨_, rfl⟩
        have t4 : H4 tt = some (.tup [.int x, .int y]) := by rw [← e4]; exact upd_same
        have k4 : Kp [] H3 H4 := by rw [← e4]; exact Kp.new htt
        rw [e4]
        have p4 := k4 _ _ (by simp) p3
        refine ⟨p4, [(Sum.inl 0, .int x), (Sum.inl 1, .int y), (Sum.inl 2, .int x), (Sum.inl 3, .int x), (Sum.inl 4, .ref tt)], rfl, (by show 5 ≤ 15; decide), ?_⟩
        obtain ⟨H5, e5⟩ : ∃ H5, upd H4 p (.dK (mergeK [] [(Sum.inl 0, .int x), (Sum.inl 1, .int y), (Sum.inl 2, .int x), (Sum.inl 3, .int x), (Sum.inl 4, .ref tt)])) = H5 := ⟨_, rfl⟩
        have p5 : H5 p = some (.dK [(Sum.inl 0, .int x), (Sum.inl 1, .int y), (Sum.inl 2, .int x), (Sum.inl 3, .int x), (Sum.inl 4, .ref tt)]) := by rw [← e5]; exact upd_same
        have npl : l ≠ p := fun e => by rw [e, hp] at hl2; cases hl2
        have npt : tt ≠ p := fun e => by rw [e, p4] at t4; cases t4
        have l5 : H5 l = some (.lst us) := by rw [← e5, upd_ne npl]; exact k4 _ _ (by simp) (k3 _ _ (by simp) hl2)
        have t5 : H5 tt = some (.tup [.int x, .int y]) := by rw [← e5, upd_ne npt]; exact t4
        have k25 : Kp [] H2 H5 := fun b u _ e => by
          rw [← e5, upd_ne (ne_of_none e hp)]
          exact k4 _ _ (by simp) (k3 _ _ (by simp) e)
        rw [e5]
        obtain ⟨v, hv, hrep⟩ : ∃ v, valV [((Sum.inl 0 : Key), V.int x), (Sum.inl 1, .int y), (Sum.inl 2, .int x), (Sum.inl 3, .int x), (Sum.inl 4, .ref tt)] (Sum.inl (road : Int)) = some v ∧ RepAt H5 road x y v := by
          match road, hroad with
          | 0, _ => exact ⟨_, rfl, rfl⟩
          | 1, _ => exact ⟨_, rfl, rfl⟩
          | 2, _ => exact ⟨_, rfl, rfl⟩
          | 3, _ => exact ⟨_, rfl, rfl⟩
          | 4, _ => exact ⟨_, rfl, tt, rfl, t5⟩
        have dg := DGet.k (k := Sum.inl (road : Int)) p5
        rw [hv] at dg
        have hlen := hR.len
        refine ⟨_, rfl, p, v, rfl, dg, l, _, _, rfl, rfl, l5, by omega, ?_⟩
        obtain ⟨H6, e6⟩ : ∃ H6, upd H5 l (.lst (us ++ [v])) = H6 := ⟨_, rfl⟩
        have l6 : H6 l = some (.lst (us ++ [v])) := by rw [← e6]; exact upd_same
        have k6 : Kp [l] H5 H6 := by rw [← e6]; exact Kp.put (by simp)
        rw [e6]
        have R5 := hR.kp k25 fun _ h => nomatch h
        subst ey
        have soft : ∀ q ∈ [l], ∀ ys, H5 q ≠ some (.tup ys) := fun q hq ys hy => by rw [List.mem_singleton.mp hq, l5] at hy; cases hy
        have R6 := (RepsAt.snoc hrep R5).kp k6 soft
        have K6 : Kp [l] H H6 := (k2.trans (k25.mono (by simp))).trans k6
        refine ⟨_, rfl, (by show 3 ≤ sizeLine; omega), fun t3 ht3 => ⟨t3, _, rfl, .inr (SqT.of upd_same), rfl, rfl, _, rfl, ?_⟩⟩
        obtain ⟨H7, e7⟩ : ∃ H7, upd H6 t3 (.tup [.int 1, .int 2, .int 3]) = H7 := ⟨_, rfl⟩
        have k7 : Kp [] H6 H7 := by rw [← e7]; exact Kp.new ht3
        have l7 := k7 _ _ (by simp) l6
        have R7 := R6.kp k7 fun _ h => nomatch h
        have K7 : Kp [l] H H7 := K6.trans (k7.mono (by simp))
        rw [e7]
        have ein := in123 road hroad
        have stop : ((road = 1 ∨ road = 2 ∨ road = 3) ∨ x = mn limit (x + step)) → ∃ (us : List V) (v6 v7 v8 : Option V), [some (V.int start), some (.int step), some (.int limit), some (.int (road : Int)), some (.int (mn limit (x + step))), some (.ref l), some (.int (0 + (i : Int))), some (.int (mn limit (x + step))), some (.bl true)] = [some (.int start), some (.int step), some (.int limit), some (.int (road : Int)), some (.int xF), some (.ref l), v6, v7, v8] ∧ Kp [l] H H7 ∧ H7 l = some (.lst us) ∧ RepsAt H7 road step limit xsF us := fun c => by
          rw [if_pos c] at q1
          obtain ⟨z1, z2⟩ := Prod.mk.inj q1
          rw [← z1] at q2
          rw [q2] at R7
          exact ⟨_, _, _, _, by rw [← z2], K7, l7, R7⟩
        have more : ¬ ((road = 1 ∨ road = 2 ∨ road = 3) ∨ x = mn limit (x + step)) → ∃ r2, runsX step limit road n (mn limit (x + step)) = (r2, xF) ∧ (xs ++ [x]) ++ r2 = xsF := fun c => by
          rw [if_neg c] at q1
          obtain ⟨z1, z2⟩ := Prod.mk.inj q1
          refine ⟨(runsX step limit road n (mn limit (x + step))).1, Prod.ext rfl z2, ?_⟩
          rw [List.append_assoc, ← q2, ← z1]
          rfl
        rw [ein]
        by_cases c1 : road = 1 ∨ road = 2 ∨ road = 3
        · rw [decide_eq_true c1]
          refine iteT ?_
          exact ⟨_, rfl, _, rfl, true, rfl, iteT (stop (.inl c1))⟩
        · rw [decide_eq_false c1]
          refine iteF ⟨_, rfl, _, rfl, rfl, ?_⟩
          have stop2 := stop
          by_cases c2 : x = mn limit (x + step)
          · rw [decide_eq_true (show V.int x = V.int (mn limit (x + step)) by rw [← c2])]
            exact ⟨_, rfl, _, rfl, true, rfl, iteT (stop (.inr c2))⟩
          · rw [decide_eq_false (fun z => c2 (V.int.inj z))]
            obtain ⟨r2, m1, m2⟩ := more (fun z => z.elim c1 c2)
            exact ⟨_, rfl, _, rfl, false, rfl, iteF ⟨_, _, r2, n, _, _, _, _, rfl, K7, l7, R7, by rw [List.length_append, List.length_singleton, hx], by omega, m1, m2⟩⟩
      · rintro σ H2 ⟨x, xs, r1, m, us, v6, v7, v8, rfl, k2, hl2, hR, hx, hm, q1, q2⟩
        have hm' : m + 102 = 102 := hm
        obtain rfl : m = 0 := by omega
        rw [runsX] at q1
        obtain ⟨z1, z2⟩ := Prod.mk.inj q1
        rw [← z1, List.append_nil] at q2
        rw [q2] at hR
        rw [z2]
        exact ⟨us, v6, v7, v8, rfl, k2, hl2, hR⟩
    · rintro σ' H2 ⟨us, v6, v7, v8, rfl, k2, hl2, hR⟩
      refine ⟨_, rfl, _, rfl, (by show 2 ≤ sizeLine; omega), fun t ht => ?_⟩
      have nl2 : l ≠ t := ne_of_none hl2 ht
      have kt : Kp [] H2 (upd H2 t (.tup [.ref l, .int xF])) := Kp.new ht
      have K2 : Kp [] H H2 := fun b u _ e => k2 b u (by simpa using ne_of_none e hl) e
      refine k _ t l us (K2.trans kt) ?_ hl upd_same (kt _ _ (by simp) hl2) (hR.kp kt fun _ h => nomatch h)
      cases e : H t with
      | none => rfl
      | some u => rw [K2 t u (by simp) e] at ht; cases ht
end
end My

set_option Elab.async false
set_option linter.all false
set_option maxRecDepth 100000
set_option maxHeartbeats 8000000
/-! E8: the desk between its runs; one run. -/
namespace My
open PySem PySem.Spec PyProof.Rows L2 LamX NdefX
/-- a cell's object is no code object -/
theorem co_code {c : Addr} {o : Obj} {q : Str} {v : Option Value} (hd : o.data = .cell v) : CO c o ≠ CodeO c q := fun e => by
  have e1 : (fun h : Heap => h.get? c = some o) = fun h => ∃ (oc : Obj) (vs : Array Value) (t : Tok), h.get? c = some oc ∧ oc.data = .fields vs ∧ vs[1]? = some (.str q t) := HO.ext.inj e
  have e2 := congrFun e1 ⟨Array.replicate (c + 1) o, {}⟩
  have g : (Heap.mk (Array.replicate (c + 1) o) {}).get? c = some o := by
    obtain ⟨oc, od, d, sl⟩ := o
    cases hd
    unfold Heap.get?
    simp
  obtain ⟨oc, vs, t, h1, h2, _⟩ := e2.mp g
  rw [g] at h1
  cases h1
  rw [hd] at h2; cases h2
section
variable {P : Program} {w : World} {K : PySem.W.Frag} {mg : Str → Option Value} {base : Heap} {FC DC CC RC EC : Addr}
abbrev sRight : Stmt := (top 25)
abbrev lamX : Expr := exprArg ((defBody sRight).getD 5 (.Pass ⟨0, 0, 0, 0⟩)) 1
abbrev N5 : List Str := ["_law_desk", "_law_cell", "_law_step", "_law_limit", "_law_road"]
theorem lamX_scope : NScope N5 [] N5 (lamScp lamX) := nscope_by (by decide +kernel)
abbrev lamXN (q : Str) (cl : List (Str × Addr)) (c : Addr) : NF := ⟨"<lambda>", q, lamPar lamX, [], lamScp lamX, cl, c⟩
abbrev capV (d a : Addr) (step limit : Int) (road : Nat) : List (Option V) := [some (.ref d), some (.ref a), some (.int step), some (.int limit), some (.int (road : Int))]
theorem lamX_run {fW : Addr} {dW : FuncData} {q : Str} {cl : List (Str × Addr)} {c f PT : Addr} {H : Hp} {Q : VK} {cs : Cells} {d a : Addr} {step limit : Int} {road : Nat} (W : LD P w K mg base "_law_work" 8 N5 (spWork FC DC CC RC PT) fW dW)
    (hf : H f = some (LamO f (lamXN q cl c) (lamBod lamX))) (hco : H c = some (CodeO c q)) (C : CsAt cl N5 (capV d a step limit road) cs) (hc : ∀ c o, cs.lookup c = some o → H c = some (CO c o))
    (hq : spWork FC DC CC RC PT [.ref d, .ref a, .int step, .int limit, .int (road : Int)] (dnC cs H) (fun v H2 => (∀ c o, cs.lookup c = some o → H2 c = none) → Q v (upC cs H2)) E0) : WorkCall P w K mg base 9 f H Q :=
  work_lam (F := lamXN q cl c) (N := N5) (fr := N5) lamX_scope (fun _ _ => rfl) hf hco C hc (fun A outer s hr => pe_call W.o hr (by rfl) W.a.g W.a.k W.b .nil pass0 (pa_cons (pv 0) (pa_cons (pv 1) (pa_cons (pv 2) (pa_cons (pv 3) (pa_cons (pv 4) pa_nil)))))) ⟨_, rfl, _, rfl, _, rfl, _, rfl, _, rfl, hq⟩
/-- where all stands -/
structure Pl where
  D : DA
  a : Addr
  ax : Addr
  b : Addr
  bx : Addr
  e : Addr
  ex : Addr
  wk : Addr
  PT : Addr
  step : Int
  limit : Int
  road : Nat
  q : Str
  cl : List (Str × Addr)
  c : Addr
  gs : Cells
def up (p : Pl) (x : Int) : Int := mn p.limit (x + p.step)
/-- no run is under way; es: the effects; va, vb: the cells' values -/
structure St (FC DC CC EC : Addr) (H : Hp) (p : Pl) (tD : Addr) (es : List V) (va vb : Int) (nt : Addr) (rep : V) (n : Int) (kvs : List (Key × V)) (ls : List V) (tk : List (Key × V)) : Prop where
  hd : H p.D.d = some (.ins DC p.D.dx [("_floor", .ref p.D.f)])
  hf : H p.D.f = some (.ins FC p.D.fx (floorG p.D.nD p.D.cD p.D.sD p.D.eL p.D.lL .non tD))
  ca : H p.a = some (.ins CC p.ax (cellF "a" p.D.f va))
  cb : H p.b = some (.ins CC p.bx (cellF "b" p.D.f vb))
  srs : H p.D.sD = some (.dK [(Sum.inr "a", .ref p.a), (Sum.inr "b", .ref p.b)])
  eff : H p.D.eL = some (.lst es)
  log : H p.D.lL = some (.lst ls)
  trn : H tD = some (.dK tk)
  me : H p.e = some (.ins EC p.ex (effF "e" rep n nt p.D.f p.wk))
  nts : H nt = some (.dK kvs)
  tab : TabS H p.PT qY
  lam : H p.wk = some (LamO p.wk (lamXN p.q p.cl p.c) (lamBod lamX))
  code : H p.c = some (CodeO p.c p.q)
  cap : CsAt p.cl N5 (capV p.D.d p.a p.step p.limit p.road) p.gs
  gsT : ∀ c o, p.gs.lookup c = some o → H c = some (CO c o)
  gsC : ∀ c o, p.gs.lookup c = some o → ∃ x, o.data = .cell x
  dk : nt ≠ tD ∧ nt ≠ p.D.sD ∧ tD ≠ p.D.sD
  dl : p.D.eL ≠ p.D.lL
  ab : p.a ≠ p.b
  ll : ls.length < 900
  lt : tk.length < 400
theorem tabs_kp' {H H' : Hp} {S : List Addr} {PT : Addr} {q : Str} (t : TabS H PT q) (k : Kp S H H') (n : ∀ x ∈ S, ∀ o, H x = some o → (∀ φ, o ≠ .ext φ) ∧ ∀ ps, o ≠ .tbl ps) : TabS H' PT q := by
  obtain ⟨ps, h1, h2, h3⟩ := t
  refine ⟨ps, k _ _ (fun e => (n _ e _ h1).2 _ rfl) h1, h2, fun pos cv hc => ?_⟩
  obtain ⟨c, e1, e2⟩ := h3 pos cv hc
  exact ⟨c, e1, k _ _ (fun e => (n _ e _ e2).1 _ rfl) e2⟩
theorem St.kp0 {H H' : Hp} {p : Pl} {tD : Addr} {es : List V} {va vb : Int} {nt : Addr} {rep : V} {n : Int} {kvs : List (Key × V)} {ls : List V} {tk : List (Key × V)} (h : St FC DC CC EC H p tD es va vb nt rep n kvs ls tk) (k : Kp [] H H') : St FC DC CC EC H' p tD es va vb nt rep n kvs ls tk :=
  ⟨k _ _ (by simp) h.hd, k _ _ (by simp) h.hf, k _ _ (by simp) h.ca, k _ _ (by simp) h.cb, k _ _ (by simp) h.srs, k _ _ (by simp) h.eff, k _ _ (by simp) h.log, k _ _ (by simp) h.trn, k _ _ (by simp) h.me, k _ _ (by simp) h.nts, tabs_kp' h.tab k (fun _ h => nomatch h), k _ _ (by simp) h.lam, k _ _ (by simp) h.code, h.cap, fun c o e => k _ _ (by simp) (h.gsT c o e), h.gsC, h.dk, h.dl, h.ab, h.ll, h.lt⟩
/-- THE RULE: the effect is run -/
theorem St.run {fW : Addr} {dW : FuncData} {H : Hp} {p : Pl} {tD : Addr} {es : List V} {va vb : Int} {nt : Addr} {rep : V} {n : Int} {kvs : List (Key × V)} {ls : List V} {tk : List (Key × V)} (W : LD P w K mg base "_law_work" 8 N5 (spWork FC DC CC RC p.PT) fW dW) (hroad : p.road < 5)
    (h : St FC DC CC EC H p tD es va vb nt rep n kvs ls tk) {R : VK} (hR : ∀ H' v nt' t tk', Kp [p.a, tD, p.e, p.D.f, p.D.lL, p.PT] H H' → H t = none → tk'.length ≤ tk.length + 1 → (ls.length < 899 → tk'.length < 400 → St FC DC CC EC H' p tD es (up p va) vb nt' v (n + 1) (noteI p.road va (up p va)) (ls ++ [.ref t]) tk') → H' t = some (.tup [.str "e", v]) → RepAt H' p.road va (up p va) v → R v H') :
    spRunE P w K mg base FC EC RC 9 [.ref p.e] H R E0 := by
  have nef : p.e ≠ p.D.f := ne_kind h.me h.hf (by show ¬ (6 + 10 = 9 + 10); decide)
  have nle : p.D.lL ≠ p.e := ne_kind h.log h.me (by show ¬ (2 = 6 + 10); decide)
  have nlf : p.D.lL ≠ p.D.f := ne_kind h.log h.hf (by show ¬ (2 = 9 + 10); decide)
  refine ⟨p.e, p.ex, p.D.f, p.D.fx, nt, p.wk, p.D.lL, _, "e", rep, n, .non, rfl, h.me, h.hf, rfl, rfl, rfl, rfl, fun r => rfl, (by show 9 < 100; decide), nef, nle, nlf, lamO_fn h.lam, fun H1 r rx nt' k1 hr0 hn0 nrn e1 f1 r1 n1 => ?_⟩
  have get1 : ∀ {q : Addr} {u : HO}, H q = some u → kindO u ≠ 16 → kindO u ≠ 19 → H1 q = some u := fun {q u} e x1 x2 => k1 q u (by
    simp only [List.mem_cons, List.mem_nil_iff, or_false, not_or]
    exact ⟨ne_kind e h.me x1, ne_kind e h.hf x2⟩) e
  have f1' : H1 p.D.f = some (.ins FC p.D.fx (floorG p.D.nD p.D.cD p.D.sD p.D.eL p.D.lL (.ref r) tD)) := f1
  have g1 : ∀ c o, p.gs.lookup c = some o → H1 c = some (CO c o) := fun c o e => get1 (h.gsT c o e) (by show ¬ (3 = 16); decide) (by show ¬ (3 = 19); decide)
  refine lamX_run W (get1 h.lam (by show ¬ (3 = 16); decide) (by show ¬ (3 = 19); decide)) (get1 h.code (by show ¬ (3 = 16); decide) (by show ¬ (3 = 19); decide)) h.cap g1 ?_
  have dn : ∀ {q : Addr} {u : HO}, H1 q = some u → (∀ φ, u ≠ .ext φ) → dnC p.gs H1 q = some u := fun e n => dn_get g1 n e
  have d1 := get1 h.hd (by show ¬ (1 + 10 = 16); decide) (by show ¬ (1 + 10 = 19); decide)
  have a1 := get1 h.ca (by show ¬ (3 + 10 = 16); decide) (by show ¬ (3 + 10 = 19); decide)
  have t1 := get1 h.trn (by show ¬ (1 = 16); decide) (by show ¬ (1 = 19); decide)
  have ntt : nt' ≠ tD := fun e => by rw [e, h.trn] at hn0; cases hn0
  have IR : InRun FC DC CC RC (dnC p.gs H1) p.D.d p.D.dx p.D.f p.D.fx p.D.nD p.D.cD p.D.sD p.D.eL p.D.lL tD p.a p.ax r rx nt' va .non [] tk 0 :=
    ⟨dn d1 (fun _ z => by cases z), dn f1' (fun _ z => by cases z), dn a1 (fun _ z => by cases z), dn r1 (fun _ z => by cases z), dn n1 (fun _ z => by cases z), dn t1 (fun _ z => by cases z), (by show 0 < 900; decide), (by have := h.lt; omega), ntt⟩
  have tabD : TabS (dnC p.gs H1) p.PT qY := by
    obtain ⟨ps, q1, q2, q3⟩ := h.tab
    refine ⟨ps, dn (get1 q1 (by show ¬ (4 = 16); decide) (by show ¬ (4 = 19); decide)) (fun _ z => by cases z), q2, fun pos cv hc => ?_⟩
    obtain ⟨c, e1, e2⟩ := q3 pos cv hc
    refine ⟨c, e1, ?_⟩
    have e3 := get1 e2 (by show ¬ (3 = 16); decide) (by show ¬ (3 = 19); decide)
    have gl : p.gs.lookup c = none := by
      cases hl : p.gs.lookup c with
      | none => rfl
      | some o =>
        rw [g1 c o hl] at e3
        obtain ⟨x, hx⟩ := h.gsC c o hl
        exact absurd (Option.some.inj e3) (co_code hx)
    rw [dnC_out gl]; exact e3
  refine ⟨p.D.d, p.D.dx, p.D.f, p.D.fx, p.D.nD, p.D.cD, p.D.sD, p.D.eL, p.D.lL, tD, p.a, p.ax, r, rx, nt', va, p.step, p.limit, p.road, .non, tk, rfl, hroad, IR, (by have := h.lt; omega), tabD, fun H2 v tk' k2 I2 l2 T2 rp no => ?_⟩
  have U : Kp [] H2 (upC p.gs H2) := fun b u _ e => up_get no e
  obtain ⟨psT, pt0, _⟩ := id h.tab
  obtain ⟨psU, ptU, _⟩ := id T2
  have in2 : ∀ {q : Addr} {u : HO}, H q = some u → q ∉ [p.a, tD, p.e, p.D.f, p.PT] → upC p.gs H2 q = some u := fun {q u} e n => by
    simp only [List.mem_cons, List.mem_nil_iff, or_false, not_or] at n
    have e1 := k1 q u (by simp only [List.mem_cons, List.mem_nil_iff, or_false, not_or]; exact ⟨n.2.2.1, n.2.2.2.1⟩) e
    cases hl : p.gs.lookup q with
    | some o =>
      rw [h.gsT q o hl] at e
      cases e
      exact upC_in hl
    | none =>
      refine U _ _ (by simp) (k2 q u ?_ (by rw [dnC_out hl]; exact e1))
      simp only [List.mem_cons, List.mem_nil_iff, or_false, not_or]
      exact ⟨n.1, n.2.1, (fun z => by rw [z, hn0] at e; cases e), n.2.2.2.2⟩
  have kd : ∀ {q : Addr} {u : HO}, H q = some u → kindO u ≠ 13 → kindO u ≠ 1 → kindO u ≠ 16 → kindO u ≠ 19 → kindO u ≠ 4 → q ∉ [p.a, tD, p.e, p.D.f, p.PT] := fun e x1 x2 x3 x4 x5 => by
    simp only [List.mem_cons, List.mem_nil_iff, or_false, not_or]
    exact ⟨ne_kind e h.ca x1, ne_kind e h.trn x2, ne_kind e h.me x3, ne_kind e h.hf x4, ne_kind e pt0 x5⟩
  have lU := in2 h.log (kd h.log (by show ¬ (2 = 13); decide) (by show ¬ (2 = 1); decide) (by show ¬ (2 = 16); decide) (by show ¬ (2 = 19); decide) (by show ¬ (2 = 4); decide))
  have eU : upC p.gs H2 p.e = some (.ins EC p.ex (effF "e" rep n nt' p.D.f p.wk)) := by
    refine U _ _ (by simp) (k2 _ _ ?_ (dn e1 (fun _ z => by cases z)))
    simp only [List.mem_cons, List.mem_nil_iff, or_false, not_or]
    exact ⟨ne_kind e1 a1 (by show ¬ (6 + 10 = 3 + 10); decide), ne_kind e1 t1 (by show ¬ (6 + 10 = 1); decide), ne_kind e1 n1 (by show ¬ (6 + 10 = 1); decide), ne_kind h.me pt0 (by show ¬ (6 + 10 = 4); decide)⟩
  have fU := U _ _ (by simp) I2.hf
  refine ⟨eU, fU, U _ _ (by simp) I2.hr, ls, lU, (by have := h.ll; omega), fun H3 t k3 ht3 e3 f3 t3 l3 => ?_⟩
  have aU := U _ _ (by simp) I2.ha
  have to3 : ∀ {q : Addr} {u : HO}, upC p.gs H2 q = some u → kindO u ≠ 16 → kindO u ≠ 19 → q ≠ p.D.lL → H3 q = some u := fun {q u} e x1 x2 x3 => k3 q u (by
    simp only [List.mem_cons, List.mem_nil_iff, or_false, not_or]
    exact ⟨ne_kind e eU x1, ne_kind e fU x2, x3⟩) e
  have nl : ∀ {q : Addr} {u : HO}, upC p.gs H2 q = some u → kindO u ≠ 2 → q ≠ p.D.lL := fun e x => ne_kind e lU x
  have KK : Kp [p.a, tD, p.e, p.D.f, p.D.lL, p.PT] H H3 := fun b u nb e => by
    simp only [List.mem_cons, List.mem_nil_iff, or_false, not_or] at nb
    refine k3 b u ?_ (in2 e ?_)
    · simp only [List.mem_cons, List.mem_nil_iff, or_false, not_or]; exact ⟨nb.2.2.1, nb.2.2.2.1, nb.2.2.2.2.1⟩
    · simp only [List.mem_cons, List.mem_nil_iff, or_false, not_or]; exact ⟨nb.1, nb.2.1, nb.2.2.1, nb.2.2.2.1, nb.2.2.2.2.2⟩
  have t0 : H t = none := by
    cases e : H t with
    | none => rfl
    | some u =>
      by_cases c : t ∈ [p.a, tD, p.e, p.D.f, p.PT]
      · simp only [List.mem_cons, List.mem_nil_iff, or_false] at c
        rcases c with z | z | z | z | z
        · rw [z, aU] at ht3; cases ht3
        · rw [z, U _ _ (by simp) I2.ht] at ht3; cases ht3
        · rw [z, eU] at ht3; cases ht3
        · rw [z, fU] at ht3; cases ht3
        · rw [z, U _ _ (by simp) ptU] at ht3; cases ht3
      · rw [in2 e c] at ht3; cases ht3
  have K23 : Kp [p.e, p.D.f, p.D.lL] H2 H3 := (U.mono (by simp)).trans k3
  have soft : ∀ q ∈ [p.e, p.D.f, p.D.lL], ∀ o, upC p.gs H2 q = some o → (∀ φ, o ≠ .ext φ) ∧ (∀ ps, o ≠ .tbl ps) ∧ ∀ ys, o ≠ .tup ys := fun q hq o ho => by
    simp only [List.mem_cons, List.mem_nil_iff, or_false] at hq
    rcases hq with rfl | rfl | rfl
    · rw [eU] at ho; cases ho; exact ⟨(fun _ z => by cases z), (fun _ z => by cases z), fun _ z => by cases z⟩
    · rw [fU] at ho; cases ho; exact ⟨(fun _ z => by cases z), (fun _ z => by cases z), fun _ z => by cases z⟩
    · rw [lU] at ho; cases ho; exact ⟨(fun _ z => by cases z), (fun _ z => by cases z), fun _ z => by cases z⟩
  have ey : mn p.limit (va + p.step) = up p va := rfl
  rw [ey] at rp
  refine hR H3 v nt' t tk' KK t0 l2 (fun x1 x2 => ?_) t3 ((rp.kp U fun _ h => nomatch h).kp k3 fun q hq ys hy => (soft q hq _ hy).2.2 _ rfl)
  have n6 : ∀ {q : Addr} {u : HO}, H q = some u → q ∉ [p.a, tD, p.e, p.D.f, p.PT] → q ≠ p.D.lL → H3 q = some u := fun {q u} e c n => KK q u (by
    simp only [List.mem_cons, List.mem_nil_iff, or_false, not_or] at c ⊢
    exact ⟨c.1, c.2.1, c.2.2.1, c.2.2.2.1, n, c.2.2.2.2⟩) e
  have nl0 : ∀ {q : Addr} {u : HO}, H q = some u → kindO u ≠ 2 → q ≠ p.D.lL := fun e x => ne_kind e h.log x
  refine ⟨n6 h.hd (kd h.hd (by show ¬ (1 + 10 = 13); decide) (by show ¬ (1 + 10 = 1); decide) (by show ¬ (1 + 10 = 16); decide) (by show ¬ (1 + 10 = 19); decide) (by show ¬ (1 + 10 = 4); decide)) (nl0 h.hd (by show ¬ (1 + 10 = 2); decide)), f3, to3 aU (by show ¬ (3 + 10 = 16); decide) (by show ¬ (3 + 10 = 19); decide) (nl aU (by show ¬ (3 + 10 = 2); decide)), ?_, ?_, ?_, l3, to3 (U _ _ (by simp) I2.ht) (by show ¬ (1 = 16); decide) (by show ¬ (1 = 19); decide) (nl (U _ _ (by simp) I2.ht) (by show ¬ (1 = 2); decide)), e3, to3 (U _ _ (by simp) I2.hn) (by show ¬ (1 = 16); decide) (by show ¬ (1 = 19); decide) (nl (U _ _ (by simp) I2.hn) (by show ¬ (1 = 2); decide)),
    tabs_kp' (tabs_kp' T2 U (fun _ h => nomatch h)) k3 (fun q hq o ho => ⟨(soft q hq o ho).1, (soft q hq o ho).2.1⟩), ?_, ?_, h.cap, fun c o e => ?_, h.gsC, ⟨ntt, (fun e => by rw [e, h.srs] at hn0; cases hn0), h.dk.2.2⟩, h.dl, h.ab, by rw [List.length_append, List.length_singleton]; omega, x2⟩
  · refine n6 h.cb ?_ (nl0 h.cb (by show ¬ (3 + 10 = 2); decide))
    simp only [List.mem_cons, List.mem_nil_iff, or_false, not_or]
    exact ⟨h.ab.symm, ne_kind h.cb h.trn (by show ¬ (3 + 10 = 1); decide), ne_kind h.cb h.me (by show ¬ (3 + 10 = 6 + 10); decide), ne_kind h.cb h.hf (by show ¬ (3 + 10 = 9 + 10); decide), ne_kind h.cb pt0 (by show ¬ (3 + 10 = 4); decide)⟩
  · refine n6 h.srs ?_ (nl0 h.srs (by show ¬ (1 = 2); decide))
    simp only [List.mem_cons, List.mem_nil_iff, or_false, not_or]
    exact ⟨ne_kind h.srs h.ca (by show ¬ (1 = 3 + 10); decide), h.dk.2.2.symm, ne_kind h.srs h.me (by show ¬ (1 = 6 + 10); decide), ne_kind h.srs h.hf (by show ¬ (1 = 9 + 10); decide), ne_kind h.srs pt0 (by show ¬ (1 = 4); decide)⟩
  · exact n6 h.eff (kd h.eff (by show ¬ (2 = 13); decide) (by show ¬ (2 = 1); decide) (by show ¬ (2 = 16); decide) (by show ¬ (2 = 19); decide) (by show ¬ (2 = 4); decide)) h.dl
  · exact n6 h.lam (kd h.lam (by show ¬ (3 = 13); decide) (by show ¬ (3 = 1); decide) (by show ¬ (3 = 16); decide) (by show ¬ (3 = 19); decide) (by show ¬ (3 = 4); decide)) (nl0 h.lam (by show ¬ (3 = 2); decide))
  · exact n6 h.code (kd h.code (by show ¬ (3 = 13); decide) (by show ¬ (3 = 1); decide) (by show ¬ (3 = 16); decide) (by show ¬ (3 = 19); decide) (by show ¬ (3 = 4); decide)) (nl0 h.code (by show ¬ (3 = 2); decide))
  · exact n6 (h.gsT c o e) (kd (h.gsT c o e) (by show ¬ (3 = 13); decide) (by show ¬ (3 = 1); decide) (by show ¬ (3 = 16); decide) (by show ¬ (3 = 19); decide) (by show ¬ (3 = 4); decide)) (nl0 (h.gsT c o e) (by show ¬ (3 = 2); decide))
end
end My

set_option Elab.async false
set_option linter.all false
set_option maxRecDepth 100000
set_option maxHeartbeats 8000000
/-! E9: rounds. -/
namespace My
open PySem PySem.Spec PyProof.Rows L2 LamX NdefX
def over (p : Pl) (x : Int) : Prop := (p.road = 1 ∨ p.road = 2 ∨ p.road = 3) ∨ x = up p x
inductive Runs (p : Pl) : Int → List Int → Int → Prop
  | last {x : Int} (h : over p x) : Runs p x [x] (up p x)
  | more {x : Int} {l : List Int} {y : Int} (h : ¬ over p x) (r : Runs p (up p x) l y) : Runs p x (x :: l) y
theorem runs_of (p : Pl) (h1 : 1 ≤ p.step) : ∀ (k : Nat) (x : Int), x ≤ p.limit → p.limit ≤ x + k * p.step → ∀ n, k + 1 ≤ n → ∃ l y, runsX p.step p.limit p.road n x = (l, y) ∧ Runs p x l y ∧ l.length ≤ k + 1 := by
  intro k
  induction k with
  | zero =>
    intro x hx hl n hn
    obtain ⟨n, rfl⟩ : ∃ m, n = m + 1 := ⟨n - 1, by omega⟩
    have hxl : x = p.limit := by
      have : ((0 : Nat) : Int) * p.step = 0 := by simp
      omega
    have hu : x = up p x := by
      show x = (if x + p.step < p.limit then x + p.step else p.limit)
      rw [if_neg (by omega)]
      exact hxl
    refine ⟨[x], up p x, ?_, .last (.inr hu), Nat.le_refl _⟩
    rw [runsX, if_pos (Or.inr (show x = mn p.limit (x + p.step) from hu))]
    rfl
  | succ k ih =>
    intro x hx hl n hn
    obtain ⟨n, rfl⟩ : ∃ m, n = m + 1 := ⟨n - 1, by omega⟩
    by_cases c : (p.road = 1 ∨ p.road = 2 ∨ p.road = 3) ∨ x = mn p.limit (x + p.step)
    · refine ⟨[x], up p x, ?_, .last c, by show 1 ≤ _; omega⟩
      rw [runsX, if_pos c]
      rfl
    · have e1 : ((k + 1 : Nat) : Int) * p.step = k * p.step + p.step := by
        rw [Int.natCast_add, Int.add_mul]; simp
      rw [e1] at hl
      have hu : mn p.limit (x + p.step) ≤ p.limit ∧ p.limit ≤ mn p.limit (x + p.step) + k * p.step := by
        unfold mn
        have : (0 : Int) ≤ (k : Int) * p.step := Int.mul_nonneg (by omega) (by omega)
        split
        · exact ⟨by omega, by omega⟩
        · exact ⟨by omega, by omega⟩
      obtain ⟨l, y, q1, q2, q3⟩ := ih _ hu.1 hu.2 n (by omega)
      refine ⟨x :: l, y, ?_, .more c q2, by rw [List.length_cons]; omega⟩
      rw [runsX, if_neg c, q1]
/-- the log tells these runs -/
def LogE (p : Pl) (H : Hp) : List Int → List V → Prop
  | [], ls => ls = []
  | x :: r, ls => ∃ t v us, ls = .ref t :: us ∧ H t = some (.tup [.str "e", v]) ∧ RepAt H p.road x (up p x) v ∧ LogE p H r us
theorem LogE.kp {p : Pl} {S : List Addr} {H H' : Hp} (k : Kp S H H') (s : ∀ q ∈ S, ∀ ys, H q ≠ some (.tup ys)) : ∀ {xs : List Int} {ls : List V}, LogE p H xs ls → LogE p H' xs ls
  | [], _, h => h
  | x :: r, _, ⟨t, v, us, e, h1, h2, h3⟩ => ⟨t, v, us, e, k _ _ (fun z => s _ z _ h1) h1, h2.kp k s, LogE.kp k s h3⟩
theorem LogE.snoc {p : Pl} {H : Hp} {x : Int} {t : Addr} {v : V} (ht : H t = some (.tup [.str "e", v])) (hv : RepAt H p.road x (up p x) v) : ∀ {xs : List Int} {ls : List V}, LogE p H xs ls → LogE p H (xs ++ [x]) (ls ++ [.ref t])
  | [], _, h => by
    obtain rfl : _ = [] := h
    exact ⟨t, v, [], rfl, ht, hv, rfl⟩
  | y :: r, _, ⟨t', v', us, e, h1, h2, h3⟩ => by
    subst e
    exact ⟨t', v', us ++ [.ref t], rfl, h1, h2, LogE.snoc ht hv h3⟩
theorem LogE.len {p : Pl} {H : Hp} : ∀ {xs : List Int} {ls : List V}, LogE p H xs ls → ls.length = xs.length
  | [], _, h => by obtain rfl : _ = [] := h; rfl
  | y :: r, _, ⟨t', v', us, e, h1, h2, h3⟩ => by
    subst e
    rw [List.length_cons, List.length_cons, LogE.len h3]
def endN (road : Nat) (x : Int) : List (Key × V) := if road = 2 ∨ road = 3 then [] else [(Sum.inr "a", .int x)]
def csOf2 (p : Pl) (va vb : Int) : List Ce := [⟨"a", p.a, p.ax, va⟩, ⟨"b", p.b, p.bx, vb⟩]
theorem ord_a (p : Pl) (va vb m : Int) : ordB (csOf2 p va vb) [(Sum.inr "a", .int m)] = decide (va = m) := by
  unfold ordB csOf2 duesT
  by_cases h : va = m
  · subst h
    simp [valV_pos]
  · have : valV [((Sum.inr "a" : Key), V.int va), (Sum.inr "b", .int vb)] (Sum.inr "a") = some (.int va) := valV_pos rfl
    simp [this, h]
/-- the last report -/
def LastR (p : Pl) (H : Hp) (xs : List Int) (rep : V) : Prop := ∃ ys x, xs = ys ++ [x] ∧ RepAt H p.road x (up p x) rep
section
variable {P : Program} {w : World} {K : PySem.W.Frag} {mg : Str → Option Value} {base : Heap} {FC DC CC RC EC : Addr}
/-- at rest: L the runs, x the cell's value -/
structure Rest (FC DC CC EC : Addr) (H : Hp) (p : Pl) (tD : Addr) (x vb : Int) (nt : Addr) (rep : V) (ls : List V) (tk : List (Key × V)) (L : List Int) : Prop where
  st : St FC DC CC EC H p tD [.ref p.e] x vb nt rep (L.length : Nat) (endN p.road x) ls tk
  log : LogE p H L ls
  last : LastR p H L rep
/-- amid settling -/
structure Mid (FC DC CC EC : Addr) (H0 H : Hp) (p : Pl) (vb : Int) (L : List Int) (xF : Int) (m : Nat) : Prop where
  ex : ∃ (tD nt : Addr) (rep : V) (kvs : List (Key × V)) (ls : List V) (tk : List (Key × V)) (done rest : List Int) (va : Int), Kp [p.a, p.e, p.D.f, p.D.lL, p.PT] H0 H ∧ H0 tD = none ∧ St FC DC CC EC H p tD [.ref p.e] va vb nt rep (done.length : Nat) kvs ls tk ∧ LogE p H done ls ∧ LastR p H done rep ∧ done ++ rest = L ∧ m + rest.length ≤ 100 ∧ tk.length ≤ m ∧
    ((rest = [] ∧ va = xF ∧ kvs = endN p.road xF) ∨ (Runs p va rest xF ∧ ∃ y, kvs = [((Sum.inr "a" : Key), V.int y)] ∧ va ≠ y))
theorem St.efs {H : Hp} {p : Pl} {tD : Addr} {va vb : Int} {nt : Addr} {rep : V} {n : Int} {kvs : List (Key × V)} {ls : List V} {tk : List (Key × V)} (h : St FC DC CC EC H p tD [.ref p.e] va vb nt rep n kvs ls tk) (hk : kvs = [] ∨ ∃ y, kvs = [((Sum.inr "a" : Key), V.int y)]) :
    EfsAt EC CC H p.D.f p.D.sD p.D.eL [(Sum.inr "a", .ref p.a), (Sum.inr "b", .ref p.b)] (csOf2 p va vb) [⟨p.e, p.ex, "e", rep, n, nt, p.wk, kvs⟩] := by
  refine ⟨h.eff, h.srs, (by show (["a", "b"] : List Str).Nodup; decide +kernel), fun c hc => ?_, fun e he => ?_, by show 1 ≤ 100; decide⟩
  · simp only [csOf2, List.mem_cons, List.mem_nil_iff, or_false] at hc
    rcases hc with rfl | rfl
    · exact ⟨valV_pos rfl, h.ca⟩
    · refine ⟨?_, h.cb⟩
      rw [valV_neg (by show ¬ ((Sum.inr ("a" : Str) : Key) = Sum.inr ("b" : Str)); decide +kernel)]
      exact valV_pos rfl
  · rw [List.mem_singleton.mp he]
    refine ⟨h.me, h.nts, h.dk.2.1, fun q hq => ?_⟩
    rcases hk with rfl | ⟨y, rfl⟩
    · cases hq
    · rw [List.mem_singleton.mp hq]
      exact ⟨⟨"a", p.a, p.ax, va⟩, by simp [csOf2], y, rfl⟩
/-- another dict of what turned -/
theorem St.turn {H H' : Hp} {p : Pl} {tD t' : Addr} {es : List V} {va vb : Int} {nt : Addr} {rep : V} {n : Int} {kvs : List (Key × V)} {ls : List V} {tk : List (Key × V)} (h : St FC DC CC EC H p tD es va vb nt rep n kvs ls tk) (k : Kp [p.D.f] H H') (ht : H t' = none) (e1 : H' t' = some (.dK [])) (e2 : H' p.D.f = some (.ins FC p.D.fx (floorG p.D.nD p.D.cD p.D.sD p.D.eL p.D.lL .non t'))) : St FC DC CC EC H' p t' es va vb nt rep n kvs ls [] := by
  have g : ∀ {q : Addr} {u : HO}, H q = some u → kindO u ≠ 19 → H' q = some u := fun e x => k _ _ (by simpa using ne_kind e h.hf x) e
  exact ⟨g h.hd (by show ¬ (1 + 10 = 19); decide), e2, g h.ca (by show ¬ (3 + 10 = 19); decide), g h.cb (by show ¬ (3 + 10 = 19); decide), g h.srs (by show ¬ (1 = 19); decide), g h.eff (by show ¬ (2 = 19); decide), g h.log (by show ¬ (2 = 19); decide), e1, g h.me (by show ¬ (6 + 10 = 19); decide), g h.nts (by show ¬ (1 = 19); decide),
    tabs_kp' h.tab k (fun q hq o ho => by rw [List.mem_singleton.mp hq, h.hf] at ho; cases ho; exact ⟨(fun _ z => by cases z), fun _ z => by cases z⟩), g h.lam (by show ¬ (3 = 19); decide), g h.code (by show ¬ (3 = 19); decide), h.cap, fun c o e => g (h.gsT c o e) (by show ¬ (3 = 19); decide), h.gsC, ⟨fun e => (by have := h.nts; rw [e, ht] at this; cases this), h.dk.2.1, fun e => (by have := h.srs; rw [← e, ht] at this; cases this)⟩, h.dl, h.ab, h.ll, by show 0 < 400; decide⟩
abbrev spS (P : Program) (w : World) (K : PySem.W.Frag) (mg : Str → Option Value) (base : Heap) (FC CC EC RC : Addr) : Sp := spSettleE FC EC (spDueE FC EC CC) (spRunE P w K mg base FC EC RC 9)
theorem note_end {p : Pl} (hroad : p.road < 5) {x : Int} (h : over p x) : noteI p.road x (up p x) = endN p.road (up p x) := by
  unfold noteI endN
  rcases h with h | h
  · rcases h with h | h | h <;> rw [h] <;> simp
  · rw [← h]
    by_cases c : p.road = 0 ∨ p.road = 4
    · rw [if_pos c, if_neg (by omega)]
    · rw [if_neg c]
      by_cases c2 : p.road = 1
      · rw [if_pos c2, if_neg (by omega)]
      · rw [if_neg c2, if_pos (by omega)]
theorem note_more {p : Pl} (hroad : p.road < 5) {x : Int} (h : ¬ over p x) : noteI p.road x (up p x) = [((Sum.inr "a" : Key), V.int x)] ∧ up p x ≠ x := by
  have h1 : ¬ (p.road = 1 ∨ p.road = 2 ∨ p.road = 3) := fun e => h (.inl e)
  refine ⟨?_, fun e => h (.inr e.symm)⟩
  unfold noteI
  rw [if_pos (by omega)]
/-- THE RULE: settling, from whatever is due -/
theorem settle_all {fW : Addr} {dW : FuncData} {H : Hp} {p : Pl} {t0 : Addr} {va vb : Int} {nt : Addr} {rep : V} {kvs : List (Key × V)} {ls : List V} {tk : List (Key × V)} {done rest : List Int} {xF : Int} {Q : VK} (W : LD P w K mg base "_law_work" 8 N5 (spWork FC DC CC RC p.PT) fW dW) (hroad : p.road < 5)
    (h : St FC DC CC EC H p t0 [.ref p.e] va vb nt rep (done.length : Nat) kvs ls tk) (hL : LogE p H done ls) (hr : LastR p H done rep) (hb : rest.length ≤ 100) (hl : done.length + rest.length ≤ 800) (hc : (rest = [] ∧ va = xF ∧ kvs = endN p.road xF) ∨ (Runs p va rest xF ∧ ∃ y, kvs = [((Sum.inr "a" : Key), V.int y)] ∧ va ≠ y))
    (k : ∀ H' tD nt rep ls tk, Kp [p.a, p.e, p.D.f, p.D.lL, p.PT] H H' → H tD = none → tk.length ≤ 100 → Rest FC DC CC EC H' p tD xF vb nt rep ls tk (done ++ rest) → Q .non H') : spS P w K mg base FC CC EC RC [.ref p.D.f] H Q E0 := by
  refine ⟨p.D.f, p.D.fx, rfl, .inr ⟨p.D.nD, p.D.cD, p.D.sD, p.D.eL, p.D.lL, t0, h.hf, fun m H1 => Mid FC DC CC EC H H1 p vb (done ++ rest) xF m, fun H1 tD k1 ht h1 f1 => ?_, fun m H1 hM => ?_⟩⟩
  · have soft : ∀ q ∈ [p.D.f], ∀ ys, H q ≠ some (.tup ys) := fun q hq ys hy => by rw [List.mem_singleton.mp hq, h.hf] at hy; cases hy
    obtain ⟨ys, x, e, hx⟩ := hr
    exact ⟨tD, nt, rep, kvs, ls, [], done, rest, va, k1.mono (by simp), ht, h.turn k1 ht h1 f1, hL.kp k1 soft, ⟨ys, x, e, hx.kp k1 soft⟩, rfl, by omega, Nat.zero_le _, hc⟩
  · obtain ⟨tD, nt, rep, kvs, ls, tk, dn, rs, va, k1, ht, h1, hL1, hr1, ed, hm, htk, hc1⟩ := hM.ex
    have hlen : dn.length + rs.length = done.length + rest.length := by rw [← List.length_append, ed, List.length_append]
    have hll := hL1.len
    have hk : kvs = [] ∨ ∃ y, kvs = [((Sum.inr "a" : Key), V.int y)] := by
      rcases hc1 with ⟨_, _, e⟩ | ⟨_, y, e, _⟩
      · rw [e]; unfold endN
        by_cases c : p.road = 2 ∨ p.road = 3
        · rw [if_pos c]; exact .inl rfl
        · rw [if_neg c]; exact .inr ⟨_, rfl⟩
      · exact .inr ⟨y, e⟩
    refine ⟨⟨_, h1.hf, rfl⟩, p.D.f, p.D.fx, p.D.sD, p.D.eL, _, _, _, _, rfl, h1.hf, rfl, rfl, rfl, h1.efs hk, fun H2 q k2 hq0 hq => ?_⟩
    have h2 := h1.kp0 k2
    have nt0 : ∀ q ∈ ([] : List Addr), ∀ ys, H1 q ≠ some (.tup ys) := fun _ h => nomatch h
    have hL2 := hL1.kp k2 nt0
    have hr2 : LastR p H2 dn rep := let ⟨ys, x, e, hx⟩ := hr1; ⟨ys, x, e, hx.kp k2 nt0⟩
    have k02 := k1.trans (k2.mono (by simp))
    rcases hc1 with ⟨er, ev, ek⟩ | ⟨hR, y, ek, ne⟩
    · have ho : ordB (csOf2 p va vb) kvs = true := by
        rw [ek]; unfold endN
        by_cases c : p.road = 2 ∨ p.road = 3
        · rw [if_pos c]; rfl
        · rw [if_neg c, ord_a, ev]; exact decide_eq_true rfl
      have ed2 : dueL (csOf2 p va vb) [⟨p.e, p.ex, "e", rep, (dn.length : Nat), nt, p.wk, kvs⟩] = [] := by
        unfold dueL
        rw [List.filter_cons]
        simp [ho]
      rw [ed2] at hq
      refine ⟨q, [], rfl, hq, ?_⟩
      subst er ev ek
      rw [List.append_nil] at ed
      subst ed
      exact k H2 tD nt rep ls tk k02 ht (by omega) ⟨h2, hL2, hr2⟩
    · have ho : ordB (csOf2 p va vb) kvs = false := by
        rw [ek, ord_a]; exact decide_eq_false ne
      have ed2 : dueL (csOf2 p va vb) [⟨p.e, p.ex, "e", rep, (dn.length : Nat), nt, p.wk, kvs⟩] = [⟨p.e, p.ex, "e", rep, (dn.length : Nat), nt, p.wk, kvs⟩] := by
        unfold dueL
        rw [List.filter_cons]
        simp [ho]
      rw [ed2] at hq
      have rpos : 1 ≤ rs.length := by cases hR <;> simp
      refine ⟨q, [p.e], rfl, hq, by omega, ⟨_, h2.hf, rfl⟩, p.ex, _, h2.me, rfl, St.run W hroad h2 fun H3 v nt' t tk' k3 ht3 l3 h3 t3 rp => ?_⟩
      have h3' := h3 (by omega) (by omega)
      have soft3 : ∀ q ∈ [p.a, tD, p.e, p.D.f, p.D.lL, p.PT], ∀ ys, H2 q ≠ some (.tup ys) := fun q hq ys hy => by
        obtain ⟨ps, q1, _⟩ := h2.tab
        simp only [List.mem_cons, List.mem_nil_iff, or_false] at hq
        rcases hq with z | z | z | z | z | z
        · rw [z, h2.ca] at hy; cases hy
        · rw [z, h2.trn] at hy; cases hy
        · rw [z, h2.me] at hy; cases hy
        · rw [z, h2.hf] at hy; cases hy
        · rw [z, h2.log] at hy; cases hy
        · rw [z, q1] at hy; cases hy
      have k03 : Kp [p.a, p.e, p.D.f, p.D.lL, p.PT] H H3 := fun b u nb e => by
        refine k3 b u ?_ (k02 b u nb e)
        simp only [List.mem_cons, List.mem_nil_iff, or_false, not_or] at nb ⊢
        exact ⟨nb.1, (fun z => by rw [z, ht] at e; cases e), nb.2.1, nb.2.2.1, nb.2.2.2.1, nb.2.2.2.2⟩
      have en : ((dn.length : Nat) : Int) + 1 = ((dn ++ [va]).length : Nat) := by rw [List.length_append, List.length_singleton]; omega
      rw [en] at h3'
      have hL3 := LogE.snoc t3 rp (hL2.kp k3 soft3)
      have hr3 : LastR p H3 (dn ++ [va]) v := ⟨dn, va, rfl, rp⟩
      cases hR with
      | last ho2 =>
        exact ⟨tD, nt', v, _, _, tk', dn ++ [va], [], up p va, k03, ht, h3', hL3, hr3, by rw [List.append_nil]; exact ed, by show m + 1 + 0 ≤ 100; simp at hm; omega, by omega, .inl ⟨rfl, rfl, note_end hroad ho2⟩⟩
      | more ho2 r2 =>
        obtain ⟨n1, n2⟩ := note_more hroad ho2
        refine ⟨tD, nt', v, _, _, tk', dn ++ [va], _, up p va, k03, ht, h3', hL3, hr3, ?_, ?_, by omega, .inr ⟨r2, va, n1, n2⟩⟩
        · rw [List.append_assoc]; exact ed
        · rw [List.length_cons] at hm; omega
end
end My

set_option Elab.async false
set_option linter.all false
set_option maxRecDepth 100000
set_option maxHeartbeats 8000000
/-! E10: cells put at rest; the effect made. -/
namespace My
open PySem PySem.Spec PyProof.Rows L2 LamX NdefX
section
variable {P : Program} {w : World} {K : PySem.W.Frag} {mg : Str → Option Value} {base : Heap} {FC DC CC RC EC : Addr}
theorem St.setA {H H' : Hp} {p : Pl} {tD : Addr} {es : List V} {va vb v : Int} {nt : Addr} {rep : V} {n : Int} {kvs : List (Key × V)} {ls : List V} {tk tk' : List (Key × V)} (h : St FC DC CC EC H p tD es va vb nt rep n kvs ls tk) (k : Kp [p.a, tD] H H') (e1 : H' p.a = some (.ins CC p.ax (cellF "a" p.D.f v))) (e2 : H' tD = some (.dK tk')) (l : tk'.length < 400) : St FC DC CC EC H' p tD es v vb nt rep n kvs ls tk' := by
  have g : ∀ {q : Addr} {u : HO}, H q = some u → kindO u ≠ 13 → kindO u ≠ 1 → H' q = some u := fun e x y => k _ _ (by simp only [List.mem_cons, List.mem_nil_iff, or_false, not_or]; exact ⟨ne_kind e h.ca x, ne_kind e h.trn y⟩) e
  have g1 : ∀ {q : Addr} {u : HO}, H q = some u → kindO u ≠ 13 → q ≠ tD → H' q = some u := fun e x y => k _ _ (by simp only [List.mem_cons, List.mem_nil_iff, or_false, not_or]; exact ⟨ne_kind e h.ca x, y⟩) e
  refine ⟨g h.hd (by show ¬ (1 + 10 = 13); decide) (by show ¬ (1 + 10 = 1); decide), g h.hf (by show ¬ (9 + 10 = 13); decide) (by show ¬ (9 + 10 = 1); decide), e1, k _ _ ?_ h.cb, g1 h.srs (by show ¬ (1 = 13); decide) h.dk.2.2.symm, g h.eff (by show ¬ (2 = 13); decide) (by show ¬ (2 = 1); decide), g h.log (by show ¬ (2 = 13); decide) (by show ¬ (2 = 1); decide), e2, g h.me (by show ¬ (6 + 10 = 13); decide) (by show ¬ (6 + 10 = 1); decide), g1 h.nts (by show ¬ (1 = 13); decide) h.dk.1,
    tabs_kp' h.tab k (fun q hq o ho => ?_), g h.lam (by show ¬ (3 = 13); decide) (by show ¬ (3 = 1); decide), g h.code (by show ¬ (3 = 13); decide) (by show ¬ (3 = 1); decide), h.cap, fun c o e => g (h.gsT c o e) (by show ¬ (3 = 13); decide) (by show ¬ (3 = 1); decide), h.gsC, h.dk, h.dl, h.ab, h.ll, l⟩
  · simp only [List.mem_cons, List.mem_nil_iff, or_false, not_or]
    exact ⟨h.ab.symm, ne_kind h.cb h.trn (by show ¬ (3 + 10 = 1); decide)⟩
  · simp only [List.mem_cons, List.mem_nil_iff, or_false] at hq
    rcases hq with z | z
    · rw [z, h.ca] at ho; cases ho; exact ⟨(fun _ z => by cases z), fun _ z => by cases z⟩
    · rw [z, h.trn] at ho; cases ho; exact ⟨(fun _ z => by cases z), fun _ z => by cases z⟩
theorem St.setB {H H' : Hp} {p : Pl} {tD : Addr} {es : List V} {va vb v : Int} {nt : Addr} {rep : V} {n : Int} {kvs : List (Key × V)} {ls : List V} {tk tk' : List (Key × V)} (h : St FC DC CC EC H p tD es va vb nt rep n kvs ls tk) (k : Kp [p.b, tD] H H') (e1 : H' p.b = some (.ins CC p.bx (cellF "b" p.D.f v))) (e2 : H' tD = some (.dK tk')) (l : tk'.length < 400) : St FC DC CC EC H' p tD es va v nt rep n kvs ls tk' := by
  have g : ∀ {q : Addr} {u : HO}, H q = some u → kindO u ≠ 13 → kindO u ≠ 1 → H' q = some u := fun e x y => k _ _ (by simp only [List.mem_cons, List.mem_nil_iff, or_false, not_or]; exact ⟨ne_kind e h.cb x, ne_kind e h.trn y⟩) e
  have g1 : ∀ {q : Addr} {u : HO}, H q = some u → kindO u ≠ 13 → q ≠ tD → H' q = some u := fun e x y => k _ _ (by simp only [List.mem_cons, List.mem_nil_iff, or_false, not_or]; exact ⟨ne_kind e h.cb x, y⟩) e
  refine ⟨g h.hd (by show ¬ (1 + 10 = 13); decide) (by show ¬ (1 + 10 = 1); decide), g h.hf (by show ¬ (9 + 10 = 13); decide) (by show ¬ (9 + 10 = 1); decide), k _ _ ?_ h.ca, e1, g1 h.srs (by show ¬ (1 = 13); decide) h.dk.2.2.symm, g h.eff (by show ¬ (2 = 13); decide) (by show ¬ (2 = 1); decide), g h.log (by show ¬ (2 = 13); decide) (by show ¬ (2 = 1); decide), e2, g h.me (by show ¬ (6 + 10 = 13); decide) (by show ¬ (6 + 10 = 1); decide), g1 h.nts (by show ¬ (1 = 13); decide) h.dk.1,
    tabs_kp' h.tab k (fun q hq o ho => ?_), g h.lam (by show ¬ (3 = 13); decide) (by show ¬ (3 = 1); decide), g h.code (by show ¬ (3 = 13); decide) (by show ¬ (3 = 1); decide), h.cap, fun c o e => g (h.gsT c o e) (by show ¬ (3 = 13); decide) (by show ¬ (3 = 1); decide), h.gsC, h.dk, h.dl, h.ab, h.ll, l⟩
  · simp only [List.mem_cons, List.mem_nil_iff, or_false, not_or]
    exact ⟨h.ab, ne_kind h.ca h.trn (by show ¬ (3 + 10 = 1); decide)⟩
  · simp only [List.mem_cons, List.mem_nil_iff, or_false] at hq
    rcases hq with z | z
    · rw [z, h.cb] at ho; cases ho; exact ⟨(fun _ z => by cases z), fun _ z => by cases z⟩
    · rw [z, h.trn] at ho; cases ho; exact ⟨(fun _ z => by cases z), fun _ z => by cases z⟩
theorem there_nil {H : Hp} : ∀ x ∈ ([] : List Addr), ∃ o, H x = some o := fun _ h => nomatch h
theorem there_cons {H : Hp} {a : Addr} {o : HO} {l : List Addr} (e : H a = some o) (h : ∀ x ∈ l, ∃ o, H x = some o) : ∀ x ∈ a :: l, ∃ o, H x = some o := fun x hx => by
  rcases List.mem_cons.mp hx with z | z
  · rw [z]; exact ⟨o, e⟩
  · exact h x z
theorem fresh_back {S : List Addr} {H H1 : Hp} {q : Addr} (k : Kp S H H1) (t : ∀ x ∈ S, ∃ o, H1 x = some o) (n : H1 q = none) : H q = none := by
  cases e : H q with
  | none => rfl
  | some u =>
    by_cases c : q ∈ S
    · obtain ⟨o, ho⟩ := t q c
      rw [n] at ho; cases ho
    · rw [k q u c e] at n; cases n
theorem put_len {tk tk' : List (Key × V)} {z : Key} (e : tk' = tk ∨ tk' = putK tk z (.bl true)) : tk'.length ≤ tk.length + 1 := by
  rcases e with rfl | rfl
  · omega
  · exact putK_len _ _ _
/-- the cell is put at rest -/
theorem Rest.putA {fW : Addr} {dW : FuncData} {H : Hp} {p : Pl} {tD : Addr} {x vb v : Int} {nt : Addr} {rep : V} {ls : List V} {tk : List (Key × V)} {L rest : List Int} {xF : Int} {Q : VK} (W : LD P w K mg base "_law_work" 8 N5 (spWork FC DC CC RC p.PT) fW dW) (hroad : p.road < 5) (h : Rest FC DC CC EC H p tD x vb nt rep ls tk L) (lt : tk.length < 300)
    (hl : L.length + rest.length ≤ 800) (hb : rest.length ≤ 100) (hc : ((p.road = 2 ∨ p.road = 3 ∨ v = x) ∧ rest = [] ∧ xF = v) ∨ (¬ (p.road = 2 ∨ p.road = 3) ∧ v ≠ x ∧ Runs p v rest xF))
    (k : ∀ H' tD' nt rep ls tk, Kp [p.a, tD, p.e, p.D.f, p.D.lL, p.PT] H H' → H tD' = none → tk.length ≤ 100 → Rest FC DC CC EC H' p tD' xF vb nt rep ls tk (L ++ rest) → Q .non H') : spPutE FC CC RC (spS P w K mg base FC CC EC RC) [.ref p.a, .int v] H Q E0 := by
  have s := h.st
  refine ⟨p.a, p.ax, p.D.f, p.D.fx, tD, "a", x, v, _, .non, tk, rfl, s.ca, s.hf, rfl, .inl rfl, rfl, rfl, rfl, s.trn, by omega, ne_kind s.ca s.hf (by show ¬ (3 + 10 = 9 + 10); decide), fun H1 tk' k1 e1 e2 et => ?_⟩
  have lt' := put_len et
  have s1 := s.setA k1 e1 e2 (by omega)
  have soft : ∀ q ∈ [p.a, tD], ∀ ys, H q ≠ some (.tup ys) := fun q hq ys hy => by
    simp only [List.mem_cons, List.mem_nil_iff, or_false] at hq
    rcases hq with z | z
    · rw [z, s.ca] at hy; cases hy
    · rw [z, s.trn] at hy; cases hy
  have l1 := h.log.kp k1 soft
  have r1 : LastR p H1 L rep := let ⟨ys, x, e, hx⟩ := h.last; ⟨ys, x, e, hx.kp k1 soft⟩
  refine settle_all W hroad s1 l1 r1 hb hl ?_ fun H2 tD' nt rep ls tk k2 n2 l2 hR => k H2 tD' nt rep ls tk ((k1.mono (by simp)).trans (k2.mono (by simp))) (fresh_back k1 (there_cons e1 (there_cons e2 there_nil)) n2) l2 hR
  rcases hc with ⟨c, e, ex⟩ | ⟨c, ne, hR⟩
  · refine .inl ⟨e, ex.symm, ?_⟩
    rw [ex]
    unfold endN
    by_cases c2 : p.road = 2 ∨ p.road = 3
    · rw [if_pos c2, if_pos c2]
    · rw [if_neg c2, if_neg c2]
      rw [show v = x by omega]
  · refine .inr ⟨hR, x, ?_, ne⟩
    unfold endN
    rw [if_neg c]
/-- the cell beside is put at rest -/
theorem Rest.putB {fW : Addr} {dW : FuncData} {H : Hp} {p : Pl} {tD : Addr} {x vb v : Int} {nt : Addr} {rep : V} {ls : List V} {tk : List (Key × V)} {L : List Int} {Q : VK} (W : LD P w K mg base "_law_work" 8 N5 (spWork FC DC CC RC p.PT) fW dW) (hroad : p.road < 5) (h : Rest FC DC CC EC H p tD x vb nt rep ls tk L) (lt : tk.length < 300) (hl : L.length ≤ 800)
    (k : ∀ H' tD' nt rep ls tk, Kp [p.b, tD, p.a, p.e, p.D.f, p.D.lL, p.PT] H H' → H tD' = none → tk.length ≤ 100 → Rest FC DC CC EC H' p tD' x v nt rep ls tk L → Q .non H') : spPutE FC CC RC (spS P w K mg base FC CC EC RC) [.ref p.b, .int v] H Q E0 := by
  have s := h.st
  refine ⟨p.b, p.bx, p.D.f, p.D.fx, tD, "b", vb, v, _, .non, tk, rfl, s.cb, s.hf, rfl, .inl rfl, rfl, rfl, rfl, s.trn, by omega, ne_kind s.cb s.hf (by show ¬ (3 + 10 = 9 + 10); decide), fun H1 tk' k1 e1 e2 et => ?_⟩
  have lt' := put_len et
  have s1 := s.setB k1 e1 e2 (by omega)
  have soft : ∀ q ∈ [p.b, tD], ∀ ys, H q ≠ some (.tup ys) := fun q hq ys hy => by
    simp only [List.mem_cons, List.mem_nil_iff, or_false] at hq
    rcases hq with z | z
    · rw [z, s.cb] at hy; cases hy
    · rw [z, s.trn] at hy; cases hy
  have l1 := h.log.kp k1 soft
  have r1 : LastR p H1 L rep := let ⟨ys, x, e, hx⟩ := h.last; ⟨ys, x, e, hx.kp k1 soft⟩
  refine settle_all (rest := []) W hroad s1 l1 r1 (Nat.zero_le _) (by show L.length + 0 ≤ 800; omega) (.inl ⟨rfl, rfl, rfl⟩) fun H2 tD' nt rep ls tk k2 n2 l2 hR => ?_
  rw [List.append_nil] at hR
  exact k H2 tD' nt rep ls tk ((k1.mono (by simp)).trans (k2.mono (by simp))) (fresh_back k1 (there_cons e1 (there_cons e2 there_nil)) n2) l2 hR
/-- the effect is made: two cells stand on the desk -/
structure Two (FC DC CC : Addr) (H : Hp) (D : DA) (tD a ax b bx : Addr) (va vb : Int) : Prop where
  hd : H D.d = some (.ins DC D.dx [("_floor", .ref D.f)])
  hf : H D.f = some (.ins FC D.fx (floorG D.nD D.cD D.sD D.eL D.lL .non tD))
  ca : H a = some (.ins CC ax (cellF "a" D.f va))
  cb : H b = some (.ins CC bx (cellF "b" D.f vb))
  nms : H D.nD = some (.dK [(Sum.inr "a", .bl true), (Sum.inr "b", .bl true)])
  srs : H D.sD = some (.dK [(Sum.inr "a", .ref a), (Sum.inr "b", .ref b)])
  eff : H D.eL = some (.lst [])
  log : H D.lL = some (.lst [])
  trn : H tD = some (.dK [])
  ds : D.nD ≠ D.sD ∧ D.nD ≠ tD ∧ tD ≠ D.sD
  dl : D.eL ≠ D.lL
  ab : a ≠ b
theorem Two.kp {H H' : Hp} {D : DA} {tD a ax b bx : Addr} {va vb : Int} {S : List Addr} (h : Two FC DC CC H D tD a ax b bx va vb) (k : Kp S H H') (n : ∀ x ∈ [D.d, D.f, a, b, D.nD, D.sD, D.eL, D.lL, tD], x ∉ S) : Two FC DC CC H' D tD a ax b bx va vb :=
  ⟨k _ _ (n _ (by simp)) h.hd, k _ _ (n _ (by simp)) h.hf, k _ _ (n _ (by simp)) h.ca, k _ _ (n _ (by simp)) h.cb, k _ _ (n _ (by simp)) h.nms, k _ _ (n _ (by simp)) h.srs, k _ _ (n _ (by simp)) h.eff, k _ _ (n _ (by simp)) h.log, k _ _ (n _ (by simp)) h.trn, h.ds, h.dl, h.ab⟩
/-- what the lambda asks -/
structure LamS (H : Hp) (p : Pl) : Prop where
  tab : TabS H p.PT qY
  lam : H p.wk = some (LamO p.wk (lamXN p.q p.cl p.c) (lamBod lamX))
  code : H p.c = some (CodeO p.c p.q)
  cap : CsAt p.cl N5 (capV p.D.d p.a p.step p.limit p.road) p.gs
  gsT : ∀ c o, p.gs.lookup c = some o → H c = some (CO c o)
  gsC : ∀ c o, p.gs.lookup c = some o → ∃ x, o.data = .cell x
theorem make_eff {fW : Addr} {dW : FuncData} {H : Hp} {p0 : Pl} {tD : Addr} {va vb : Int} {L : List Int} {xF : Int} {Q : VK} (W : LD P w K mg base "_law_work" 8 N5 (spWork FC DC CC RC p0.PT) fW dW) (hroad : p0.road < 5) (h : Two FC DC CC H p0.D tD p0.a p0.ax p0.b p0.bx va vb) (hs : LamS H p0)
    (hR : ∀ e ex, Runs { p0 with e := e, ex := ex } va L xF) (hb : L.length ≤ 101)
    (k : ∀ H' e ex tD' nt rep ls tk, Kp [p0.D.nD, p0.D.eL, p0.a, tD, p0.D.f, p0.D.lL, p0.PT] H H' → H e = none → H tD' = none → tk.length ≤ 100 → Rest FC DC CC EC H' { p0 with e := e, ex := ex } tD' xF vb nt rep ls tk L → Q (.ref e) H') :
    spEffD FC DC EC RC (spRunE P w K mg base FC EC RC 9) (spS P w K mg base FC CC EC RC) [.ref p0.D.d, .str "e", .ref p0.wk] H Q E0 := by
  refine ⟨p0.D.d, p0.D.dx, p0.D.f, p0.D.fx, p0.D.nD, p0.wk, _, "e", .non, _, rfl, h.hd, h.hf, rfl, .inl rfl, rfl, rfl, rfl, h.nms, by decide +kernel, (by show 2 < 1000; decide), fun H1 e ex nt k1 n1 he hnt ne e1 nt1 => ?_⟩
  have g1 : ∀ {q : Addr} {u : HO}, H q = some u → q ≠ p0.D.nD → H1 q = some u := fun e n => k1 _ _ (by simpa using n) e
  have nk : ∀ {q : Addr} {u : HO}, H q = some u → kindO u ≠ 1 → q ≠ p0.D.nD := fun e x => ne_kind e h.nms x
  have fr : ∀ {q : Addr} {u : HO}, H q = some u → q ≠ nt := fun e z => by rw [z, hnt] at e; cases e
  have s1 : St FC DC CC EC H1 { p0 with e := e, ex := ex } tD [] va vb nt .non 0 [] [] [] :=
    ⟨g1 h.hd (nk h.hd (by show ¬ (1 + 10 = 1); decide)), g1 h.hf (nk h.hf (by show ¬ (9 + 10 = 1); decide)), g1 h.ca (nk h.ca (by show ¬ (3 + 10 = 1); decide)), g1 h.cb (nk h.cb (by show ¬ (3 + 10 = 1); decide)), g1 h.srs h.ds.1.symm, g1 h.eff (nk h.eff (by show ¬ (2 = 1); decide)), g1 h.log (nk h.log (by show ¬ (2 = 1); decide)), g1 h.trn h.ds.2.1.symm, e1, nt1,
      tabs_kp' hs.tab k1 (fun q hq o ho => by rw [List.mem_singleton.mp hq, h.nms] at ho; cases ho; exact ⟨(fun _ z => by cases z), fun _ z => by cases z⟩), g1 hs.lam (nk hs.lam (by show ¬ (3 = 1); decide)), g1 hs.code (nk hs.code (by show ¬ (3 = 1); decide)), hs.cap, fun c o e => g1 (hs.gsT c o e) (nk (hs.gsT c o e) (by show ¬ (3 = 1); decide)), hs.gsC, ⟨(fr h.trn).symm, (fr h.srs).symm, h.ds.2.2⟩, h.dl, h.ab, by show 0 < 900; decide, by show 0 < 400; decide⟩
  refine St.run (p := { p0 with e := e, ex := ex }) W hroad s1 fun H2 v nt' t tk' k2 ht2 l2 h2 t2 rp => ?_
  have l2' : tk'.length ≤ 1 := l2
  have s2 := h2 (by show 0 < 899; decide) (by omega)
  refine ⟨_, p0.D.eL, [], s2.hd, s2.hf, rfl, rfl, s2.eff, (by show 0 < 1000; decide), fun H3 k3 e3 => ?_⟩
  have g3 : ∀ {q : Addr} {u : HO}, H2 q = some u → q ≠ p0.D.eL → H3 q = some u := fun e n => k3 _ _ (by simpa using n) e
  have nk3 : ∀ {q : Addr} {u : HO}, H2 q = some u → kindO u ≠ 2 → q ≠ p0.D.eL := fun e x => ne_kind e s2.eff x
  have soft : ∀ q ∈ [p0.D.eL], ∀ ys, H2 q ≠ some (.tup ys) := fun q hq ys hy => by rw [List.mem_singleton.mp hq, s2.eff] at hy; cases hy
  have s3 : St FC DC CC EC H3 { p0 with e := e, ex := ex } tD [.ref e] (up { p0 with e := e, ex := ex } va) vb nt' v (([va] : List Int).length : Nat) (noteI p0.road va (up { p0 with e := e, ex := ex } va)) ([] ++ [.ref t]) tk' :=
    ⟨g3 s2.hd (nk3 s2.hd (by show ¬ (1 + 10 = 2); decide)), g3 s2.hf (nk3 s2.hf (by show ¬ (9 + 10 = 2); decide)), g3 s2.ca (nk3 s2.ca (by show ¬ (3 + 10 = 2); decide)), g3 s2.cb (nk3 s2.cb (by show ¬ (3 + 10 = 2); decide)), g3 s2.srs (nk3 s2.srs (by show ¬ (1 = 2); decide)), e3, g3 s2.log h.dl.symm, g3 s2.trn (nk3 s2.trn (by show ¬ (1 = 2); decide)), g3 s2.me (nk3 s2.me (by show ¬ (6 + 10 = 2); decide)), g3 s2.nts (nk3 s2.nts (by show ¬ (1 = 2); decide)),
      tabs_kp' s2.tab k3 (fun q hq o ho => by rw [List.mem_singleton.mp hq, s2.eff] at ho; cases ho; exact ⟨(fun _ z => by cases z), fun _ z => by cases z⟩), g3 s2.lam (nk3 s2.lam (by show ¬ (3 = 2); decide)), g3 s2.code (nk3 s2.code (by show ¬ (3 = 2); decide)), s2.cap, fun c o e => g3 (s2.gsT c o e) (nk3 (s2.gsT c o e) (by show ¬ (3 = 2); decide)), s2.gsC, s2.dk, s2.dl, s2.ab, s2.ll, s2.lt⟩
  have t3 := k3 _ _ (by simpa using ne_kind t2 s2.eff (by show ¬ (4 = 2); decide)) t2
  have rp3 := rp.kp k3 soft
  have l3 : LogE { p0 with e := e, ex := ex } H3 [va] ([] ++ [.ref t]) := ⟨t, v, [], rfl, t3, rp3, rfl⟩
  have kk : Kp [p0.D.nD, p0.D.eL, p0.a, tD, e, p0.D.f, p0.D.lL, p0.PT] H H3 := ((k1.mono (by simp)).trans (k2.mono fun x hx => List.mem_cons_of_mem _ (List.mem_cons_of_mem _ hx))).trans (k3.mono (by simp))
  have nn2 : H2 p0.D.nD = some (.dK [(Sum.inr "a", .bl true), (Sum.inr "b", .bl true), (Sum.inr "e", .bl true)]) := k2 _ _ (by
    obtain ⟨ps, q1, _⟩ := s1.tab
    simp only [List.mem_cons, List.mem_nil_iff, or_false, not_or]
    exact ⟨ne_kind h.nms h.ca (by show ¬ (1 = 3 + 10); decide), h.ds.2.1, (fun z => by have := h.nms; rw [z, he] at this; cases this), ne_kind h.nms h.hf (by show ¬ (1 = 9 + 10); decide), ne_kind h.nms h.log (by show ¬ (1 = 2); decide), ne_kind n1 q1 (by show ¬ (1 = 4); decide)⟩) n1
  have nn3 := k3 _ _ (by simpa using ne_kind nn2 s2.eff (by show ¬ (1 = 2); decide)) nn2
  have fin : ∀ (rest : List Int), [va] ++ rest = L → ∀ H' tD' nt rep ls tk, Kp [p0.a, e, p0.D.f, p0.D.lL, p0.PT] H3 H' → H3 tD' = none → tk.length ≤ 100 → Rest FC DC CC EC H' { p0 with e := e, ex := ex } tD' xF vb nt rep ls tk ([va] ++ rest) → Q (.ref e) H' := fun rest er H' tD' nt rep ls tk k4 n4 l4 hq => by
    rw [er] at hq
    obtain ⟨psX, ptX, _⟩ := s3.tab
    refine k H' e ex tD' nt rep ls tk (fun b u nb eb => ?_) he (fresh_back kk (there_cons nn3 (there_cons e3 (there_cons s3.ca (there_cons s3.trn (there_cons s3.me (there_cons s3.hf (there_cons s3.log (there_cons ptX there_nil)))))))) n4) l4 hq
    simp only [List.mem_cons, List.mem_nil_iff, or_false, not_or] at nb
    have nbe : b ≠ e := fun z => by rw [z, he] at eb; cases eb
    refine k4 b u ?_ (kk b u ?_ eb)
    · simp only [List.mem_cons, List.mem_nil_iff, or_false, not_or]; exact ⟨nb.2.2.1, nbe, nb.2.2.2.2.1, nb.2.2.2.2.2.1, nb.2.2.2.2.2.2⟩
    · simp only [List.mem_cons, List.mem_nil_iff, or_false, not_or]; exact ⟨nb.1, nb.2.1, nb.2.2.1, nb.2.2.2.1, nbe, nb.2.2.2.2.1, nb.2.2.2.2.2.1, nb.2.2.2.2.2.2⟩
  have hRun := hR e ex
  have lst : LastR { p0 with e := e, ex := ex } H3 [va] v := ⟨[], va, rfl, rp3⟩
  generalize hL : L = L0 at hRun
  cases hRun with
  | last ho =>
    exact settle_all (p := { p0 with e := e, ex := ex }) (rest := []) W hroad s3 l3 lst (Nat.zero_le _) (by show 1 + 0 ≤ 800; decide) (.inl ⟨rfl, rfl, note_end hroad ho⟩) (fin [] (by rw [hL]; rfl))
  | more ho r =>
    obtain ⟨m1, m2⟩ := note_more hroad ho
    rename_i rest
    have hlr : rest.length + 1 ≤ 101 := by rw [hL, List.length_cons] at hb; exact hb
    exact settle_all (p := { p0 with e := e, ex := ex }) (rest := rest) W hroad s3 l3 lst (by omega) (by show 1 + rest.length ≤ 800; omega) (.inr ⟨r, va, m1, m2⟩) (fin rest (by rw [hL]; rfl))
end
end My

set_option Elab.async false
set_option linter.all false
set_option maxRecDepth 100000
set_option maxHeartbeats 8000000
/-! E11: at rest, with the cells or without them. -/
namespace My
open PySem PySem.Spec PyProof.Rows L2 LamX NdefX
theorem Kp.via {S T : List Addr} {H H1 H2 : Hp} (k0 : Kp T H H1) (k : Kp S H1 H2) (h : ∀ x ∈ S, x ∈ T ∨ H x = none) : Kp T H H2 := fun q o nq e => k q o (fun hq => by
  rcases h q hq with h | h
  · exact nq h
  · rw [e] at h; cases h) (k0 q o nq e)
theorem made_back {H : Hp} {x dx y : Addr} {o : HO} (e : upd (upd H dx (.own x)) x o y = none) : H y = none := by
  have n1 : y ≠ x := fun z => by rw [z, upd_same] at e; cases e
  rw [upd_ne n1] at e
  have n2 : y ≠ dx := fun z => by rw [z, upd_same] at e; cases e
  rw [upd_ne n2] at e
  exact e
theorem made_kp {H H' : Hp} {x dx : Addr} {o : HO} (hx : H x = none) (hdx : H dx = none) (k : Kp [x] (upd (upd H dx (.own x)) x o) H') : Kp [] H H' := fun q u _ e =>
  k q u (by simpa using ne_of_none e hx) (by rw [upd_ne (ne_of_none e hx), upd_ne (ne_of_none e hdx)]; exact e)
theorem BagAt.there {H : Hp} {b : Addr} {n : Int} (h : BagAt H b n) : ∀ y ∈ [b], ∃ o, H y = some o := fun y hy => by
  obtain ⟨_, _, _, hb, _⟩ := h
  rw [List.mem_singleton.mp hy]; exact ⟨_, hb⟩
section
variable {P : Program} {w : World} {K : PySem.W.Frag} {mg : Str → Option Value} {base : Heap} {FC DC CC RC EC : Addr}
/-- a desk with its log -/
def LogAt (FC DC : Addr) (H : Hp) (d lL : Addr) (ls : List V) : Prop := ∃ (dx f fx : Addr) (fs : List (Str × V)), H d = some (.ins DC dx [("_floor", .ref f)]) ∧ H f = some (.ins FC fx fs) ∧ fs.lookup ("log" : Str) = some (V.ref lL) ∧ H lL = some (.lst ls)
theorem LogAt.kp {H H' : Hp} {d lL : Addr} {ls : List V} (h : LogAt FC DC H d lL ls) (k : Kp [] H H') : LogAt FC DC H' d lL ls := by
  obtain ⟨dx, f, fx, fs, h1, h2, h3, h4⟩ := h
  exact ⟨dx, f, fx, fs, k _ _ (by simp) h1, k _ _ (by simp) h2, h3, k _ _ (by simp) h4⟩
def spLenG (FC DC : Addr) : Sp := fun vs H Q _ => ∃ (d lL : Addr) (ls : List V), vs = [.ref d] ∧ LogAt FC DC H d lL ls ∧ Q (.int (ls.length : Nat)) H
theorem ok_lenG {f : Addr} {fd : FuncData} (F : Fun K "__len__" "Desk.__len__" sLenD f fd) (B : Bt mg) (T : DkT K DC) (TF : FlT K FC) : FnOk P w K mg base CX0 1 f fd ["self"] (spLenG FC DC) := by
  refine F.ok scLenD (fun vs H Q E h => ?_) (fun cdv A outer s H vs Q E hr h => ?_)
  · obtain ⟨d, lL, ls, rfl, _⟩ := h
    rfl
  · obtain ⟨d, lL, ls, rfl, ⟨dx, f, fx, fs, h1, h2, h3, h4⟩, q⟩ := h
    refine ⟨_, pss_one (ps_ret (pe_callB call_len (by rfl) B.len PySem.boot_len (pa_cons (pe_fld (pe_fld (pv 0) rfl) rfl) pa_nil))), ?_⟩
    exact ⟨_, rfl, d, DC, dx, _, _, rfl, h1, T.cl, T.no, rfl, f, FC, fx, _, _, rfl, h2, TF.cl, TF.no _ (by simp), h3, _, _, rfl, .inl ⟨_, SqL.of h4, rfl⟩, q⟩
def spIterG (FC DC : Addr) : Sp := fun vs H Q _ => ∃ (d lL : Addr) (ls : List V), vs = [.ref d] ∧ LogAt FC DC H d lL ls ∧ ∀ it, H it = none → Q (.ref it) (upd H it (ItO lL it 0))
theorem ok_iterG {f : Addr} {fd : FuncData} (F : Fun K "__iter__" "Desk.__iter__" sIterD f fd) (hit : mg "iter" = none) (T : DkT K DC) (TF : FlT K FC) : FnOk P w K mg base CX0 1 f fd ["self"] (spIterG FC DC) := by
  refine F.ok scIterD (fun vs H Q E h => ?_) (fun cdv A outer s H vs Q E hr h => ?_)
  · obtain ⟨d, lL, ls, rfl, _⟩ := h
    rfl
  · obtain ⟨d, lL, ls, rfl, ⟨dx, f, fx, fs, h1, h2, h3, h4⟩, q⟩ := h
    refine ⟨_, pss_one (ps_ret (pe_callB call_iterL (by rfl) hit boot_iter' (pa_cons (pe_fld (pe_fld (pv 0) rfl) rfl) pa_nil))), ?_⟩
    exact ⟨_, rfl, d, DC, dx, _, _, rfl, h1, T.cl, T.no, rfl, f, FC, fx, _, _, rfl, h2, TF.cl, TF.no _ (by simp), h3, lL, _, rfl, SqL.of h4, q⟩

/-- a cell's object is no lambda -/
theorem co_lam {c f : Addr} {o : Obj} {F : NF} {body : Expr} {v : Option Value} (hd : o.data = .cell v) : CO c o ≠ LamO f F body := fun e => by
  have e1 : (fun h : Heap => h.get? c = some o) = fun h => ∃ pm ctv : Value, h.get? f = some (PySem.W.kla_obj F.name F.qual F.params body F.scope F.cl pm F.c ctv) := HO.ext.inj e
  have e2 := congrFun e1 ⟨Array.replicate (c + f + 1) o, {}⟩
  have g : ∀ q, q < c + f + 1 → (Heap.mk (Array.replicate (c + f + 1) o) {}).get? q = some o := fun q hq => by
    obtain ⟨oc, od, d, sl⟩ := o
    cases hd
    unfold Heap.get?
    simp [hq]
  obtain ⟨pm, ctv, h1⟩ := e2.mp (g c (Nat.lt_succ_of_le (Nat.le_add_right c f)))
  rw [g f (Nat.lt_succ_of_le (Nat.le_add_left f c))] at h1
  cases h1
  cases hd
/-- at rest, the cells aside -/
structure Co (FC DC CC EC : Addr) (H : Hp) (p : Pl) (tD : Addr) (va vb : Int) (nt : Addr) (rep : V) (L : List Int) (ls : List V) (tk : List (Key × V)) : Prop where
  hd : H p.D.d = some (.ins DC p.D.dx [("_floor", .ref p.D.f)])
  hf : H p.D.f = some (.ins FC p.D.fx (floorG p.D.nD p.D.cD p.D.sD p.D.eL p.D.lL .non tD))
  ca : H p.a = some (.ins CC p.ax (cellF "a" p.D.f va))
  cb : H p.b = some (.ins CC p.bx (cellF "b" p.D.f vb))
  srs : H p.D.sD = some (.dK [(Sum.inr "a", .ref p.a), (Sum.inr "b", .ref p.b)])
  eff : H p.D.eL = some (.lst [.ref p.e])
  log : H p.D.lL = some (.lst ls)
  trn : H tD = some (.dK tk)
  me : H p.e = some (.ins EC p.ex (effF "e" rep (L.length : Nat) nt p.D.f p.wk))
  nts : H nt = some (.dK (endN p.road va))
  tab : TabS H p.PT qY
  lam : H p.wk = some (LamO p.wk (lamXN p.q p.cl p.c) (lamBod lamX))
  code : H p.c = some (CodeO p.c p.q)
  dk : nt ≠ tD ∧ nt ≠ p.D.sD ∧ tD ≠ p.D.sD
  dl : p.D.eL ≠ p.D.lL
  ab : p.a ≠ p.b
  ll : ls.length < 900
  lt : tk.length ≤ 100
  lg : LogE p H L ls
  la : LastR p H L rep
theorem LogE.imp {p : Pl} {H H' : Hp} (k : ∀ q ys, H q = some (.tup ys) → H' q = some (.tup ys)) : ∀ {xs : List Int} {ls : List V}, LogE p H xs ls → LogE p H' xs ls
  | [], _, h => h
  | x :: r, _, ⟨t, v, us, e, h1, h2, h3⟩ => ⟨t, v, us, e, k _ _ h1, by
    unfold RepAt at h2 ⊢
    by_cases c : p.road = 4
    · rw [if_pos c] at h2 ⊢
      obtain ⟨t, e, ht⟩ := h2
      exact ⟨t, e, k _ _ ht⟩
    · rw [if_neg c] at h2 ⊢
      exact h2, LogE.imp k h3⟩
theorem RepAt.imp {H H' : Hp} {road : Nat} {x y : Int} {v : V} (k : ∀ q ys, H q = some (.tup ys) → H' q = some (.tup ys)) (h2 : RepAt H road x y v) : RepAt H' road x y v := by
  unfold RepAt at h2 ⊢
  by_cases c : road = 4
  · rw [if_pos c] at h2 ⊢
    obtain ⟨t, e, ht⟩ := h2
    exact ⟨t, e, k _ _ ht⟩
  · rw [if_neg c] at h2 ⊢
    exact h2
theorem Co.to {H H' : Hp} {p : Pl} {tD : Addr} {va vb : Int} {nt : Addr} {rep : V} {L : List Int} {ls : List V} {tk : List (Key × V)} (h : Co FC DC CC EC H p tD va vb nt rep L ls tk) (k : ∀ q u, H q = some u → (∀ φ, u ≠ .ext φ) → H' q = some u) (t : TabS H' p.PT qY) (l : H' p.wk = some (LamO p.wk (lamXN p.q p.cl p.c) (lamBod lamX))) (c : H' p.c = some (CodeO p.c p.q)) : Co FC DC CC EC H' p tD va vb nt rep L ls tk :=
  ⟨k _ _ h.hd (fun _ z => by cases z), k _ _ h.hf (fun _ z => by cases z), k _ _ h.ca (fun _ z => by cases z), k _ _ h.cb (fun _ z => by cases z), k _ _ h.srs (fun _ z => by cases z), k _ _ h.eff (fun _ z => by cases z), k _ _ h.log (fun _ z => by cases z), k _ _ h.trn (fun _ z => by cases z), k _ _ h.me (fun _ z => by cases z), k _ _ h.nts (fun _ z => by cases z), t, l, c, h.dk, h.dl, h.ab, h.ll, h.lt,
    h.lg.imp fun q ys e => k q _ e (fun _ z => by cases z), let ⟨ys, x, e, hx⟩ := h.la; ⟨ys, x, e, hx.imp fun q ys e => k q _ e (fun _ z => by cases z)⟩⟩
theorem Co.kp {S : List Addr} {H H' : Hp} {p : Pl} {tD : Addr} {va vb : Int} {nt : Addr} {rep : V} {L : List Int} {ls : List V} {tk : List (Key × V)} (h : Co FC DC CC EC H p tD va vb nt rep L ls tk) (k : Kp S H H') (n : ∀ x ∈ S, ∀ o, H x = some o → (∀ φ, o ≠ .ext φ) ∧ (∀ ps, o ≠ .tbl ps) ∧ ∀ ys, o ≠ .tup ys) (nS : ∀ x ∈ [p.D.d, p.D.f, p.a, p.b, p.D.sD, p.D.eL, p.D.lL, tD, p.e, nt], x ∉ S) : Co FC DC CC EC H' p tD va vb nt rep L ls tk := by
  have tu : ∀ q ys, H q = some (.tup ys) → H' q = some (.tup ys) := fun q ys e => k _ _ (fun z => (n _ z _ e).2.2 _ rfl) e
  obtain ⟨ys, x, e, hx⟩ := h.la
  exact ⟨k _ _ (nS _ (by simp)) h.hd, k _ _ (nS _ (by simp)) h.hf, k _ _ (nS _ (by simp)) h.ca, k _ _ (nS _ (by simp)) h.cb, k _ _ (nS _ (by simp)) h.srs, k _ _ (nS _ (by simp)) h.eff, k _ _ (nS _ (by simp)) h.log, k _ _ (nS _ (by simp)) h.trn, k _ _ (nS _ (by simp)) h.me, k _ _ (nS _ (by simp)) h.nts, tabs_kp' h.tab k (fun x hx o ho => ⟨(n x hx o ho).1, (n x hx o ho).2.1⟩), k _ _ (fun z => (n _ z _ h.lam).1 _ rfl) h.lam, k _ _ (fun z => (n _ z _ h.code).1 _ rfl) h.code, h.dk, h.dl, h.ab, h.ll, h.lt, h.lg.imp tu, ⟨ys, x, e, hx.imp tu⟩⟩
theorem Rest.co {H : Hp} {p : Pl} {tD : Addr} {va vb : Int} {nt : Addr} {rep : V} {L : List Int} {ls : List V} {tk : List (Key × V)} (h : Rest FC DC CC EC H p tD va vb nt rep ls tk L) (l : tk.length ≤ 100) : Co FC DC CC EC H p tD va vb nt rep L ls tk :=
  ⟨h.st.hd, h.st.hf, h.st.ca, h.st.cb, h.st.srs, h.st.eff, h.st.log, h.st.trn, h.st.me, h.st.nts, h.st.tab, h.st.lam, h.st.code, h.st.dk, h.st.dl, h.st.ab, h.st.ll, l, h.log, h.last⟩
theorem tabs_dn {H : Hp} {PT : Addr} {q : Str} {gs : Cells} (t : TabS H PT q) (g : ∀ c o, gs.lookup c = some o → H c = some (CO c o)) (gc : ∀ c o, gs.lookup c = some o → ∃ x, o.data = .cell x) : TabS (dnC gs H) PT q := by
  obtain ⟨ps, q1, q2, q3⟩ := t
  refine ⟨ps, dn_get g (fun _ z => by cases z) q1, q2, fun pos cv hc => ?_⟩
  obtain ⟨c, e1, e2⟩ := q3 pos cv hc
  refine ⟨c, e1, ?_⟩
  have gl : gs.lookup c = none := by
    cases hl : gs.lookup c with
    | none => rfl
    | some o =>
      rw [g c o hl] at e2
      obtain ⟨x, hx⟩ := gc c o hl
      exact absurd (Option.some.inj e2) (co_code hx)
  rw [dnC_out gl]; exact e2
/-- without the cells -/
theorem Co.dn {H : Hp} {p : Pl} {gs : Cells} {tD : Addr} {va vb : Int} {nt : Addr} {rep : V} {L : List Int} {ls : List V} {tk : List (Key × V)} (h : Co FC DC CC EC H p tD va vb nt rep L ls tk) (g : ∀ c o, gs.lookup c = some o → H c = some (CO c o)) (gc : ∀ c o, gs.lookup c = some o → ∃ x, o.data = .cell x) : Co FC DC CC EC (dnC gs H) p tD va vb nt rep L ls tk := by
  refine h.to (fun q u e n => dn_get g n e) (tabs_dn h.tab g gc) ?_ ?_
  · have gl : gs.lookup p.wk = none := by
      cases hl : gs.lookup p.wk with
      | none => rfl
      | some o =>
        have e2 := h.lam
        rw [g _ o hl] at e2
        obtain ⟨x, hx⟩ := gc _ o hl
        exact absurd (Option.some.inj e2) (co_lam hx)
    rw [dnC_out gl]; exact h.lam
  · have gl : gs.lookup p.c = none := by
      cases hl : gs.lookup p.c with
      | none => rfl
      | some o =>
        have e2 := h.code
        rw [g _ o hl] at e2
        obtain ⟨x, hx⟩ := gc _ o hl
        exact absurd (Option.some.inj e2) (co_code hx)
    rw [dnC_out gl]; exact h.code
/-- with the cells -/
theorem Co.upR {H : Hp} {p : Pl} {gs : Cells} {tD : Addr} {va vb : Int} {nt : Addr} {rep : V} {L : List Int} {ls : List V} {tk : List (Key × V)} (h : Co FC DC CC EC H p tD va vb nt rep L ls tk) (cap : CsAt p.cl N5 (capV p.D.d p.a p.step p.limit p.road) gs) (g : ∀ c o, gs.lookup c = some o → H c = none ∧ ∃ x, o.data = .cell x) : Rest FC DC CC EC (upC gs H) { p with gs := gs } tD va vb nt rep ls tk L := by
  have k : Kp [] H (upC gs H) := fun b u _ e => up_get (fun c o e => (g c o e).1) e
  have tu : ∀ q ys, H q = some (.tup ys) → upC gs H q = some (.tup ys) := fun q ys e => k _ _ (by simp) e
  obtain ⟨ys, x, e, hx⟩ := h.la
  have lg : LogE { p with gs := gs } (upC gs H) L ls := by
    have : ∀ {xs : List Int} {ls : List V}, LogE p (upC gs H) xs ls → LogE { p with gs := gs } (upC gs H) xs ls := by
      intro xs
      induction xs with
      | nil => exact fun h => h
      | cons x r ih => exact fun ⟨t, v, us, e, h1, h2, h3⟩ => ⟨t, v, us, e, h1, h2, ih h3⟩
    exact this (h.lg.imp tu)
  exact ⟨⟨k _ _ (by simp) h.hd, k _ _ (by simp) h.hf, k _ _ (by simp) h.ca, k _ _ (by simp) h.cb, k _ _ (by simp) h.srs, k _ _ (by simp) h.eff, k _ _ (by simp) h.log, k _ _ (by simp) h.trn, k _ _ (by simp) h.me, k _ _ (by simp) h.nts, tabs_kp' h.tab k (fun _ h => nomatch h), k _ _ (by simp) h.lam, k _ _ (by simp) h.code, cap, fun c o e => upC_in e, fun c o e => (g c o e).2, h.dk, h.dl, h.ab, h.ll, by have := h.lt; omega⟩, lg, ys, x, e, hx.imp tu⟩
end
end My

set_option Elab.async false
set_option linter.all false
set_option maxRecDepth 100000
set_option maxHeartbeats 8000000
/-! E11b: the log as data. -/
namespace My
open PySem PySem.Spec PyProof.Rows L2 LamX NdefX
def repD (road : Nat) (x y : Int) : PyData := if road = 4 then .tuple [.int x, .int y] else .int (repI road x y)
theorem RepAt.dp {K : PySem.W.Frag} {H : Hp} {road : Nat} {x y : Int} {v : V} (h : RepAt H road x y v) : Dp K H v (repD road x y) := by
  unfold RepAt at h
  unfold repD
  by_cases c : road = 4
  · rw [if_pos c] at h ⊢
    obtain ⟨t, rfl, ht⟩ := h
    exact .tup (SqT.of ht) (.cons (.int x) (.cons (.int y) .nil))
  · rw [if_neg c] at h ⊢
    subst h
    exact .int _
theorem repD_ok (road : Nat) (x y : Int) : PyData.eqv (repD road x y) (repD road x y) = true ∧ (repD road x y).canLay0 = true ∧ (repD road x y).depth ≤ 1 := by
  unfold repD
  by_cases c : road = 4
  · rw [if_pos c]
    simp [PyData.eqv, PyData.eqvAll, PyData.canLay0, PyData.canLayAll0, PyData.depth, PyData.depthAll]
  · rw [if_neg c]
    simp [PyData.eqv, PyData.canLay0, PyData.depth]
theorem repD_sh (road : Nat) (x y : Int) : SeqAt.shaped (repD road x y) = true := by
  obtain ⟨_, a, b⟩ := repD_ok road x y
  unfold SeqAt.shaped
  rw [a]
  simp
  omega
def logD (p : Pl) (L : List Int) : List PyData := L.map fun x => .tuple [.str "e", repD p.road x (up p x)]
theorem LogE.dp {K : PySem.W.Frag} {p : Pl} {H : Hp} : ∀ {L : List Int} {ls : List V}, LogE p H L ls → DpAll K H ls (logD p L)
  | [], _, h => by obtain rfl : _ = [] := h; exact .nil
  | x :: r, _, ⟨t, v, us, e, h1, h2, h3⟩ => by
    subst e
    exact .cons (.tup (SqT.of h1) (.cons (.str "e") (.cons h2.dp .nil))) (LogE.dp h3)
theorem strE : PyData.strOk ("e" : Str) = true := by decide +kernel
theorem logD_ok (p : Pl) : ∀ L : List Int, PyData.eqvAll (logD p L) (logD p L) = true ∧ PyData.canLayAll0 (logD p L) = true ∧ PyData.depthAll (logD p L) ≤ 2
  | [] => ⟨by simp [logD, PyData.eqvAll], by simp [logD, PyData.canLayAll0], by simp [logD, PyData.depthAll]⟩
  | x :: r => by
    obtain ⟨a, b, c⟩ := logD_ok p r
    obtain ⟨d, e, f⟩ := repD_ok p.road x (up p x)
    have hl : logD p (x :: r) = .tuple [.str "e", repD p.road x (up p x)] :: logD p r := rfl
    rw [hl]
    refine ⟨?_, ?_, ?_⟩
    · simp [PyData.eqvAll, PyData.eqv, a, d]
    · simp [PyData.canLayAll0, PyData.canLay0, b, e, strE]
    · simp [PyData.depthAll, PyData.depth]
      omega
theorem logD_eq (p : Pl) (L : List Int) : PyData.eqv (.list (logD p L)) (.list (logD p L)) = true := by
  simp [PyData.eqv, (logD_ok p L).1]
theorem logD_sh (p : Pl) (L : List Int) : SeqAt.shaped (.list (logD p L)) = true := by
  obtain ⟨_, a, b⟩ := logD_ok p L
  unfold SeqAt.shaped
  simp [PyData.canLay0, PyData.depth, a]
  omega
theorem RepsAt.get {H : Hp} {road : Nat} {step limit : Int} : ∀ {xs : List Int} {vs : List V} {i : Nat} {v : V}, RepsAt H road step limit xs vs → vs[i]? = some v → ∃ x, xs[i]? = some x ∧ RepAt H road x (mn limit (x + step)) v
  | [], _, i, v, h, e => by
    obtain rfl : _ = [] := h
    cases e
  | x :: r, _, 0, v, ⟨u, us, eu, h1, h2⟩, e => by
    subst eu
    cases e
    exact ⟨x, rfl, h1⟩
  | x :: r, _, i + 1, v, ⟨u, us, eu, h1, h2⟩, e => by
    subst eu
    obtain ⟨y, e1, e2⟩ := RepsAt.get h2 (show us[i]? = some v from e)
    exact ⟨y, e1, e2⟩
end My

set_option Elab.async false
set_option linter.all false
set_option maxRecDepth 100000
set_option maxHeartbeats 8000000
/-! E11c: what stands through one number of the script. -/
namespace My
open PySem PySem.Spec PyProof.Rows L2 LamX NdefX
abbrev qX : Str := (envOfC "_law_right" (defScope sRight) 0 0 .none).qual ++ "<lambda>"
theorem Kp.vis {S T : List Addr} {H Ha Hb : Hp} (k : Kp S H Ha) (k1 : Kp T Ha Hb) (fr : ∀ x ∈ T, x ∈ S ∨ H x = none) : Kp S H Hb := fun q u nq e =>
  k1 q u (fun hq => (fr q hq).elim nq (fun z => by rw [z] at e; cases e)) (k q u nq e)
theorem tabs_kpO {H H' : Hp} {S : List Addr} {PT : Addr} {q : Str} (t : TabS H PT q) (k : Kp S H H') (n : PT ∉ S) (m : ∀ x ∈ S, ∀ φ, H x ≠ some (.ext φ)) : TabS H' PT q := by
  obtain ⟨ps, h1, h2, h3⟩ := t
  refine ⟨ps, k _ _ n h1, h2, fun pos cv hc => ?_⟩
  obtain ⟨c, e1, e2⟩ := h3 pos cv hc
  exact ⟨c, e1, k _ _ (fun e => m _ e _ e2) e2⟩
theorem nx_nil {H : Hp} : ∀ x ∈ ([] : List Addr), ∀ φ, H x ≠ some (.ext φ) := fun _ h => nomatch h
theorem nx_cons {H : Hp} {a : Addr} {o : HO} {l : List Addr} (e : H a = some o) (n : ∀ φ, o ≠ .ext φ) (h : ∀ x ∈ l, ∀ φ, H x ≠ some (.ext φ)) : ∀ x ∈ a :: l, ∀ φ, H x ≠ some (.ext φ) := fun x hx φ z => by
  rcases List.mem_cons.mp hx with y | y
  · rw [y, e] at z; exact n φ (Option.some.inj z)
  · exact h x y φ z
theorem BagAt.dn {H : Hp} {gs : Cells} {b : Addr} {n : Int} (h : BagAt H b n) (g : ∀ c o, gs.lookup c = some o → H c = some (CO c o)) : BagAt (dnC gs H) b n := by
  obtain ⟨d, x, c, h1, h2⟩ := h
  exact ⟨d, x, c, dn_get g (fun _ z => by cases z) h1, h2⟩
section
variable {P : Program} {w : World} {K : PySem.W.Frag} {mg : Str → Option Value} {base : Heap} {FC DC CC RC EC : Addr}
theorem DeskAt.two {H : Hp} {D : DA} {tD a ax b bx : Addr} {va vb : Int} (h : DeskAt FC DC CC H D tD [⟨"a", a, ax, va⟩, ⟨"b", b, bx, vb⟩]) : Two FC DC CC H D tD a ax b bx va vb := by
  have hn := h.nd
  have ha := h.as
  simp only [List.map_cons, List.map_nil, List.nodup_cons, List.mem_cons, List.mem_nil_iff, or_false, not_or, List.nodup_nil, and_true, not_false_eq_true] at hn ha
  exact ⟨h.desk, h.floor, (h.cell ⟨"a", a, ax, va⟩ (by simp)).1, (h.cell ⟨"b", b, bx, vb⟩ (by simp)).1, h.names, h.sources, h.eff, h.log, h.turned, ⟨hn.2.2.1.2.1, hn.2.2.1.2.2.2.2, fun e => hn.2.2.2.2.1.2.2 e.symm⟩, hn.2.2.2.2.2.1.1, ha⟩
/-- all that stands -/
structure Acc (FC DC CC EC : Addr) (H Hx : Hp) (b PX : Addr) (p : Pl) (tD : Addr) (va vb : Int) (nt : Addr) (rep : V) (L : List Int) (ls : List V) (tk : List (Key × V)) (n : Int) : Prop where
  kp : Kp [b, p.PT, PX] H Hx
  bag : BagAt Hx b n
  tX : TabS Hx PX qX
  nX : p.PT ≠ PX
  nb : b ≠ p.PT
  hb : ∃ o, H b = some o
  co : Co FC DC CC EC Hx p tD va vb nt rep L ls tk
  fr : ∀ x ∈ [p.D.d, p.D.f, p.D.nD, p.D.sD, p.D.eL, p.D.lL, p.a, p.b, p.e, tD], H x = none
theorem Acc.back {H Hx H' : Hp} {b PX : Addr} {p : Pl} {cs : Cells} {S : List Addr} {tD : Addr} {va vb : Int} {nt : Addr} {rep : V} {L : List Int} {ls : List V} {tk : List (Key × V)} {n : Int} (kp : Kp [b, p.PT, PX] H Hx) (bag : BagAt Hx b n) (tX : TabS Hx PX qX) (nX : p.PT ≠ PX) (nb : b ≠ p.PT) (hb : ∃ o, H b = some o)
    (N : ∀ c o, cs.lookup c = some o → Hx c = none) (k : Kp S (upC cs Hx) H') (R : Rest FC DC CC EC H' p tD va vb nt rep ls tk L) (hg : p.gs = cs) (lt : tk.length ≤ 100) (fr : ∀ x ∈ [p.D.d, p.D.f, p.D.nD, p.D.sD, p.D.eL, p.D.lL, p.a, p.b, p.e, tD], H x = none)
    (hS : ∀ x ∈ S, x = p.PT ∨ H x = none) (hX : PX ∉ S) (hE : ∀ x ∈ S, ∀ φ, upC cs Hx x ≠ some (.ext φ)) : Acc FC DC CC EC H (dnC cs H') b PX p tD va vb nt rep L ls tk n := by
  subst hg
  have up : Kp [] Hx (upC p.gs Hx) := fun b u _ e => up_get N e
  have hbS : b ∉ S := fun hm => by
    obtain ⟨o, ho⟩ := hb
    rcases hS b hm with z | z
    · exact nb z
    · rw [z] at ho; cases ho
  refine ⟨fun q u nq e => ?_, ((bag.kp up (by simp)).kp k hbS).dn R.st.gsT, tabs_dn (tabs_kpO (tabs_kp' tX up fun _ h => nomatch h) k hX hE) R.st.gsT R.st.gsC, nX, nb, hb, (R.co lt).dn R.st.gsT R.st.gsC, fr⟩
  have e1 := kp q u nq e
  have hl : p.gs.lookup q = none := by
    cases hl : p.gs.lookup q with
    | none => rfl
    | some o => rw [N q o hl] at e1; cases e1
  rw [dnC_out hl]
  refine k q u (fun hm => ?_) (up q u (by simp) e1)
  rcases hS q hm with z | z
  · exact nq (by rw [z]; simp)
  · rw [z] at e; cases e
theorem Acc.low {H Hx : Hp} {b PX : Addr} {p : Pl} {tD : Addr} {va vb : Int} {nt : Addr} {rep : V} {L : List Int} {ls : List V} {tk : List (Key × V)} {n : Int} (h : Acc FC DC CC EC H Hx b PX p tD va vb nt rep L ls tk n) {q : Addr} (e : Hx q = none) : H q = none := by
  obtain ⟨_, _, _, hb, _⟩ := h.bag
  obtain ⟨_, h1, _⟩ := h.co.tab
  obtain ⟨_, h2, _⟩ := h.tX
  exact fresh_back h.kp (there_cons hb (there_cons h1 (there_cons h2 there_nil))) e
theorem Acc.new {H Hx Hy : Hp} {b PX : Addr} {p : Pl} {tD : Addr} {va vb : Int} {nt : Addr} {rep : V} {L : List Int} {ls : List V} {tk : List (Key × V)} {n : Int} (h : Acc FC DC CC EC H Hx b PX p tD va vb nt rep L ls tk n) (k : Kp [] Hx Hy) : Acc FC DC CC EC H Hy b PX p tD va vb nt rep L ls tk n :=
  ⟨h.kp.trans (k.mono (by simp)), h.bag.kp k (by simp), tabs_kp' h.tX k (fun _ h => nomatch h), h.nX, h.nb, h.hb, h.co.kp k (fun _ h => nomatch h) (fun _ _ => by simp), h.fr⟩
theorem Acc.bagS {H Hx Hy : Hp} {b PX : Addr} {p : Pl} {tD : Addr} {va vb : Int} {nt : Addr} {rep : V} {L : List Int} {ls : List V} {tk : List (Key × V)} {n m : Int} (h : Acc FC DC CC EC H Hx b PX p tD va vb nt rep L ls tk n) (k : Kp [b] Hx Hy) (hB : BagAt Hy b m) : Acc FC DC CC EC H Hy b PX p tD va vb nt rep L ls tk m := by
  obtain ⟨_, _, _, hb, _⟩ := h.bag
  obtain ⟨o, ho⟩ := h.hb
  have nf : ∀ x ∈ [p.D.d, p.D.f, p.D.nD, p.D.sD, p.D.eL, p.D.lL, p.a, p.b, p.e, tD], x ∉ [b] := fun x hx e => by
    have := h.fr x hx
    rw [List.mem_singleton.mp e, ho] at this; cases this
  have soft : ∀ x ∈ [b], ∀ o, Hx x = some o → (∀ φ, o ≠ .ext φ) ∧ (∀ ps, o ≠ .tbl ps) ∧ ∀ ys, o ≠ .tup ys := fun x hx o ho => by
    rw [List.mem_singleton.mp hx, hb] at ho
    cases ho
    exact ⟨(fun _ z => by cases z), (fun _ z => by cases z), fun _ z => by cases z⟩
  refine ⟨h.kp.trans (k.mono (by simp)), hB, tabs_kp' h.tX k (fun x hx o ho => ⟨(soft x hx o ho).1, (soft x hx o ho).2.1⟩), h.nX, h.nb, h.hb, h.co.kp k soft (fun x hx => ?_), h.fr⟩
  have hn : nt ∉ [b] := by simpa using ne_kind h.co.nts hb (by show ¬ (1 = 2); decide)
  simp only [List.mem_cons, List.mem_nil_iff, or_false] at hx
  rcases hx with z | z | z | z | z | z | z | z | z | z <;> rw [z] <;> first | exact hn | exact nf _ (by simp)
theorem Acc.pfr {H Hx : Hp} {b PX : Addr} {p : Pl} {cs : Cells} {tD tD' : Addr} {va vb : Int} {nt : Addr} {rep : V} {L : List Int} {ls : List V} {tk : List (Key × V)} {n : Int} (h : Acc FC DC CC EC H Hx b PX p tD va vb nt rep L ls tk n) (N : ∀ c o, cs.lookup c = some o → Hx c = none) (e : upC cs Hx tD' = none) :
    ∀ x ∈ [p.D.d, p.D.f, p.D.nD, p.D.sD, p.D.eL, p.D.lL, p.a, p.b, p.e, tD'], H x = none := fun x hx => by
  have up : Kp [] Hx (upC cs Hx) := fun b u _ e => up_get N e
  have e1 : H tD' = none := h.low (fresh_back up there_nil e)
  have fr := h.fr
  simp only [List.mem_cons, List.mem_nil_iff, or_false] at hx
  rcases hx with z | z | z | z | z | z | z | z | z | z <;> rw [z] <;> first | exact e1 | exact fr _ (by simp)
theorem kp_ud {S : List Addr} {cs : Cells} {Hx H' : Hp} (N : ∀ c o, cs.lookup c = some o → Hx c = none) (k : Kp S (upC cs Hx) H') : Kp S Hx (dnC cs H') := fun q u nq e => by
  have hl : cs.lookup q = none := by
    cases hl : cs.lookup q with
    | none => rfl
    | some o => rw [N q o hl] at e; cases e
  rw [dnC_out hl]
  exact k q u nq (by rw [upC_out hl]; exact e)
theorem Co.soft {Hx : Hp} {p : Pl} {tD : Addr} {va vb : Int} {nt : Addr} {rep : V} {L : List Int} {ls : List V} {tk : List (Key × V)} (h : Co FC DC CC EC Hx p tD va vb nt rep L ls tk) : ∀ q ∈ [p.b, tD, p.a, p.e, p.D.f, p.D.lL, p.PT], ∀ ys, Hx q ≠ some (.tup ys) := fun q hq ys hy => by
  obtain ⟨ps, q1, _⟩ := h.tab
  simp only [List.mem_cons, List.mem_nil_iff, or_false] at hq
  rcases hq with z | z | z | z | z | z | z
  · rw [z, h.cb] at hy; cases hy
  · rw [z, h.trn] at hy; cases hy
  · rw [z, h.ca] at hy; cases hy
  · rw [z, h.me] at hy; cases hy
  · rw [z, h.hf] at hy; cases hy
  · rw [z, h.log] at hy; cases hy
  · rw [z, q1] at hy; cases hy
theorem Co.out {Hx : Hp} {p : Pl} {tD : Addr} {va vb : Int} {nt : Addr} {rep : V} {L : List Int} {ls us : List V} {tk : List (Key × V)} {l : Addr} (h : Co FC DC CC EC Hx p tD va vb nt rep L ls tk) (hl : Hx l = some (.lst us)) (n : l ≠ p.D.lL) : l ∉ [p.b, tD, p.a, p.e, p.D.f, p.D.lL, p.PT] := by
  obtain ⟨ps, q1, _⟩ := h.tab
  simp only [List.mem_cons, List.mem_nil_iff, or_false, not_or]
  exact ⟨ne_kind hl h.cb (by show ¬ (2 = 3 + 10); decide), ne_kind hl h.trn (by show ¬ (2 = 1); decide), ne_kind hl h.ca (by show ¬ (2 = 3 + 10); decide), ne_kind hl h.me (by show ¬ (2 = 6 + 10); decide), ne_kind hl h.hf (by show ¬ (2 = 9 + 10); decide), n, ne_kind hl q1 (by show ¬ (2 = 4); decide)⟩
/-- the cell is put -/
theorem Acc.putA {fW : Addr} {dW : FuncData} {H Hx : Hp} {b PX : Addr} {p : Pl} {cs : Cells} {tD : Addr} {x vb v : Int} {nt : Addr} {rep : V} {L rest : List Int} {xF : Int} {ls : List V} {tk : List (Key × V)} {n : Int} {Q : VK} (W : LD P w K mg base "_law_work" 8 N5 (spWork FC DC CC RC p.PT) fW dW) (hroad : p.road < 5) (h : Acc FC DC CC EC H Hx b PX p tD x vb nt rep L ls tk n)
    (C : CsAt p.cl N5 (capV p.D.d p.a p.step p.limit p.road) cs) (N : ∀ c o, cs.lookup c = some o → Hx c = none ∧ ∃ x, o.data = .cell x) (hl : L.length + rest.length ≤ 800) (hb : rest.length ≤ 100) (hc : ((p.road = 2 ∨ p.road = 3 ∨ v = x) ∧ rest = [] ∧ xF = v) ∨ (¬ (p.road = 2 ∨ p.road = 3) ∧ v ≠ x ∧ Runs { p with gs := cs } v rest xF))
    (k : ∀ Hy tD' nt rep ls tk, Kp [p.b, tD, p.a, p.e, p.D.f, p.D.lL, p.PT] Hx Hy → Acc FC DC CC EC H Hy b PX { p with gs := cs } tD' xF vb nt rep (L ++ rest) ls tk n → Q .non Hy) : spPutE FC CC RC (spS P w K mg base FC CC EC RC) [.ref p.a, .int v] (upC cs Hx) (UpQ cs Q) E0 := by
  have R := h.co.upR C N
  have N1 : ∀ c o, cs.lookup c = some o → Hx c = none := fun c o e => (N c o e).1
  have up : Kp [] Hx (upC cs Hx) := fun b u _ e => up_get N1 e
  obtain ⟨psX, tx, _⟩ := h.tX
  have tx := up _ _ (by simp) tx
  obtain ⟨psT, tt, _⟩ := R.st.tab
  refine Rest.putA (p := { p with gs := cs }) W hroad R (by have := h.co.lt; omega) hl hb hc fun H' tD' nt rep ls tk kk nT lt R' => ⟨R'.st.gsT, k _ tD' nt rep ls tk ((kp_ud N1 kk).mono (by simp)) (Acc.back h.kp h.bag h.tX h.nX h.nb h.hb N1 kk R' rfl lt (h.pfr N1 nT) (fun x hx => ?_) ?_ ?_)⟩
  · have fr := h.fr
    simp only [List.mem_cons, List.mem_nil_iff, or_false] at hx
    rcases hx with z | z | z | z | z | z <;> rw [z] <;> first | exact .inl rfl | exact .inr (fr _ (by simp))
  · simp only [List.mem_cons, List.mem_nil_iff, or_false, not_or]
    exact ⟨ne_kind tx R.st.ca (by show ¬ (4 = 3 + 10); decide), ne_kind tx R.st.trn (by show ¬ (4 = 1); decide), ne_kind tx R.st.me (by show ¬ (4 = 6 + 10); decide), ne_kind tx R.st.hf (by show ¬ (4 = 9 + 10); decide), ne_kind tx R.st.log (by show ¬ (4 = 2); decide), h.nX.symm⟩
  · exact nx_cons R.st.ca (fun _ z => by cases z) (nx_cons R.st.trn (fun _ z => by cases z) (nx_cons R.st.me (fun _ z => by cases z) (nx_cons R.st.hf (fun _ z => by cases z) (nx_cons R.st.log (fun _ z => by cases z) (nx_cons tt (fun _ z => by cases z) nx_nil)))))
/-- the cell beside is put -/
theorem Acc.putB {fW : Addr} {dW : FuncData} {H Hx : Hp} {b PX : Addr} {p : Pl} {cs : Cells} {tD : Addr} {x vb v : Int} {nt : Addr} {rep : V} {L : List Int} {ls : List V} {tk : List (Key × V)} {n : Int} {Q : VK} (W : LD P w K mg base "_law_work" 8 N5 (spWork FC DC CC RC p.PT) fW dW) (hroad : p.road < 5) (h : Acc FC DC CC EC H Hx b PX p tD x vb nt rep L ls tk n)
    (C : CsAt p.cl N5 (capV p.D.d p.a p.step p.limit p.road) cs) (N : ∀ c o, cs.lookup c = some o → Hx c = none ∧ ∃ x, o.data = .cell x) (hl : L.length ≤ 800)
    (k : ∀ Hy tD' nt rep ls tk, Kp [p.b, tD, p.a, p.e, p.D.f, p.D.lL, p.PT] Hx Hy → Acc FC DC CC EC H Hy b PX { p with gs := cs } tD' x v nt rep L ls tk n → Q .non Hy) : spPutE FC CC RC (spS P w K mg base FC CC EC RC) [.ref p.b, .int v] (upC cs Hx) (UpQ cs Q) E0 := by
  have R := h.co.upR C N
  have N1 : ∀ c o, cs.lookup c = some o → Hx c = none := fun c o e => (N c o e).1
  have up : Kp [] Hx (upC cs Hx) := fun b u _ e => up_get N1 e
  obtain ⟨psX, tx, _⟩ := h.tX
  have tx := up _ _ (by simp) tx
  obtain ⟨psT, tt, _⟩ := R.st.tab
  refine Rest.putB (p := { p with gs := cs }) W hroad R (by have := h.co.lt; omega) hl fun H' tD' nt rep ls tk kk nT lt R' => ⟨R'.st.gsT, k _ tD' nt rep ls tk ((kp_ud N1 kk).mono (by simp)) (Acc.back h.kp h.bag h.tX h.nX h.nb h.hb N1 kk R' rfl lt (h.pfr N1 nT) (fun x hx => ?_) ?_ ?_)⟩
  · have fr := h.fr
    simp only [List.mem_cons, List.mem_nil_iff, or_false] at hx
    rcases hx with z | z | z | z | z | z | z <;> rw [z] <;> first | exact .inl rfl | exact .inr (fr _ (by simp))
  · simp only [List.mem_cons, List.mem_nil_iff, or_false, not_or]
    exact ⟨ne_kind tx R.st.cb (by show ¬ (4 = 3 + 10); decide), ne_kind tx R.st.trn (by show ¬ (4 = 1); decide), ne_kind tx R.st.ca (by show ¬ (4 = 3 + 10); decide), ne_kind tx R.st.me (by show ¬ (4 = 6 + 10); decide), ne_kind tx R.st.hf (by show ¬ (4 = 9 + 10); decide), ne_kind tx R.st.log (by show ¬ (4 = 2); decide), h.nX.symm⟩
  · exact nx_cons R.st.cb (fun _ z => by cases z) (nx_cons R.st.trn (fun _ z => by cases z) (nx_cons R.st.ca (fun _ z => by cases z) (nx_cons R.st.me (fun _ z => by cases z) (nx_cons R.st.hf (fun _ z => by cases z) (nx_cons R.st.log (fun _ z => by cases z) (nx_cons tt (fun _ z => by cases z) nx_nil))))))
/-- the effect is made -/
theorem make_acc {fW : Addr} {dW : FuncData} {H Hx : Hp} {b PX : Addr} {p : Pl} {cs : Cells} {tD : Addr} {va vb : Int} {L : List Int} {xF : Int} {n : Int} {Q : VK} (W : LD P w K mg base "_law_work" 8 N5 (spWork FC DC CC RC p.PT) fW dW) (hroad : p.road < 5)
    (kp : Kp [b, p.PT, PX] H Hx) (bag : BagAt Hx b n) (tX : TabS Hx PX qX) (nX : p.PT ≠ PX) (nb : b ≠ p.PT) (hb : ∃ o, H b = some o) (tY : TabS Hx p.PT qY) (two : Two FC DC CC Hx p.D tD p.a p.ax p.b p.bx va vb) (lam : Hx p.wk = some (LamO p.wk (lamXN p.q p.cl p.c) (lamBod lamX))) (code : Hx p.c = some (CodeO p.c p.q))
    (fr : ∀ x ∈ [p.D.d, p.D.f, p.D.nD, p.D.sD, p.D.eL, p.D.lL, p.a, p.b, tD], H x = none) (C : CsAt p.cl N5 (capV p.D.d p.a p.step p.limit p.road) cs) (N : ∀ c o, cs.lookup c = some o → Hx c = none ∧ ∃ x, o.data = .cell x) (hR : ∀ e ex gs, Runs { p with e := e, ex := ex, gs := gs } va L xF) (hl : L.length ≤ 101)
    (k : ∀ Hy e ex tD' nt rep ls tk, Acc FC DC CC EC H Hy b PX { p with gs := cs, e := e, ex := ex } tD' xF vb nt rep L ls tk n → Q (.ref e) Hy) :
    spEffD FC DC EC RC (spRunE P w K mg base FC EC RC 9) (spS P w K mg base FC CC EC RC) [.ref p.D.d, .str "e", .ref p.wk] (upC cs Hx) (UpQ cs Q) E0 := by
  have N1 : ∀ c o, cs.lookup c = some o → Hx c = none := fun c o e => (N c o e).1
  have up : Kp [] Hx (upC cs Hx) := fun b u _ e => up_get N1 e
  have T2 := two.kp up (fun _ _ => by simp)
  have tY2 := tabs_kp' tY up fun _ h => nomatch h
  obtain ⟨psX, tx, _⟩ := id tX
  have tx0 := tx
  have tx := up _ _ (by simp) tx
  obtain ⟨psT, tt, _⟩ := id tY2
  obtain ⟨psT0, tt0, _⟩ := id tY
  obtain ⟨_, _, _, hbx, _⟩ := id bag
  have low : ∀ {q : Addr}, upC cs Hx q = none → H q = none := fun e => fresh_back kp (there_cons hbx (there_cons tt0 (there_cons tx0 there_nil))) (fresh_back up there_nil e)
  refine make_eff (p0 := { p with gs := cs }) W hroad T2 ⟨tY2, up _ _ (by simp) lam, up _ _ (by simp) code, C, fun c o e => upC_in e, fun c o e => (N c o e).2⟩ (fun e ex => hR e ex cs) hl fun H' e ex tD' nt rep ls tk kk he nT lt R' => ⟨R'.st.gsT, k _ e ex tD' nt rep ls tk (Acc.back (p := { p with gs := cs, e := e, ex := ex }) kp bag tX nX nb hb N1 kk R' rfl lt (fun x hx => ?_) (fun x hx => ?_) ?_ ?_)⟩
  · have e1 := low he
    have e2 := low nT
    simp only [List.mem_cons, List.mem_nil_iff, or_false] at hx
    rcases hx with z | z | z | z | z | z | z | z | z | z <;> rw [z] <;> first | exact e1 | exact e2 | exact fr _ (by simp)
  · simp only [List.mem_cons, List.mem_nil_iff, or_false] at hx
    rcases hx with z | z | z | z | z | z | z <;> rw [z] <;> first | exact .inl rfl | exact .inr (fr _ (by simp))
  · simp only [List.mem_cons, List.mem_nil_iff, or_false, not_or]
    exact ⟨ne_kind tx T2.nms (by show ¬ (4 = 1); decide), ne_kind tx T2.eff (by show ¬ (4 = 2); decide), ne_kind tx T2.ca (by show ¬ (4 = 3 + 10); decide), ne_kind tx T2.trn (by show ¬ (4 = 1); decide), ne_kind tx T2.hf (by show ¬ (4 = 9 + 10); decide), ne_kind tx T2.log (by show ¬ (4 = 2); decide), nX.symm⟩
  · exact nx_cons T2.nms (fun _ z => by cases z) (nx_cons T2.eff (fun _ z => by cases z) (nx_cons T2.ca (fun _ z => by cases z) (nx_cons T2.trn (fun _ z => by cases z) (nx_cons T2.hf (fun _ z => by cases z) (nx_cons T2.log (fun _ z => by cases z) (nx_cons tt (fun _ z => by cases z) nx_nil))))))
end
end My

set_option Elab.async false
set_option linter.all false
set_option maxRecDepth 100000
set_option maxHeartbeats 8000000
/-! E11d: lists of reports. -/
namespace My
open PySem PySem.Spec PyProof.Rows L2 LamX NdefX
theorem LogE.gs {p : Pl} {gs : Cells} {H : Hp} : ∀ {L : List Int} {ls : List V}, LogE { p with gs := gs } H L ls → LogE p H L ls
  | [], _, h => h
  | x :: r, _, ⟨t, v, us, e, h1, h2, h3⟩ => ⟨t, v, us, e, h1, h2, LogE.gs h3⟩
theorem atI_last {xs : List V} {v : V} {n : Nat} (hn : xs.length = n + 1) (h : xs[n]? = some v) : atI xs (-1) = some v := by
  unfold atI ixN
  rw [if_neg (by decide), hn, if_pos (by omega)]
  show xs[(-1 + ((n + 1 : Nat) : Int)).toNat]? = some v
  rw [show (-1 + ((n + 1 : Nat) : Int)).toNat = n by omega]
  exact h
/-- the last of the reports -/
theorem RepsAt.last {H : Hp} {road : Nat} {step limit : Int} {xs : List Int} {us : List V} {ys : List Int} {x : Int} (h : RepsAt H road step limit xs us) (e : xs = ys ++ [x]) : ∃ v, atI us (-1) = some v ∧ RepAt H road x (mn limit (x + step)) v := by
  have hl := h.len
  subst e
  rw [List.length_append, List.length_singleton] at hl
  have hlt : ys.length < us.length := by omega
  obtain ⟨x', h1, h2⟩ := h.get (List.getElem?_eq_getElem hlt)
  rw [List.getElem?_append_right (Nat.le_refl _), Nat.sub_self] at h1
  obtain rfl : x = x' := Option.some.inj h1
  exact ⟨_, atI_last hl (List.getElem?_eq_getElem hlt), h2⟩
theorem log_go {K : PySem.W.Frag} {p : Pl} {H H' : Hp} {L : List Int} {ls us' : List V} {a b : Addr} (h1 : LogE p H L ls) (h2 : LogE p H L us') (ha : H a = some (.lst ls)) (hb : H b = some (.lst us')) :
    ∃ d e, Dp K H (.ref a) d ∧ Dp K H (.ref b) e ∧ SeqAt.shaped d = true ∧ SeqAt.shaped e = true ∧ PyData.eqv d e = true :=
  ⟨_, _, .lst (SqL.of ha) h1.dp, .lst (SqL.of hb) h2.dp, logD_sh p L, logD_sh p L, logD_eq p L⟩
end My

set_option Elab.async false
set_option linter.all false
set_option maxRecDepth 100000
set_option maxHeartbeats 8000000
/-! E12: one number of the script. -/
namespace My
open PySem PySem.Spec PyProof.Rows L2 LamX NdefX
theorem in014 : ∀ road < 5, inV (.int ((road : Nat) : Int)) [.int 0, .int 1, .int 4] = decide (¬ (road = 2 ∨ road = 3)) := by decide +kernel
theorem neF {a b : Int} (h : a ≠ b) : (!decide (V.int a = V.int b)) = true := by rw [decide_eq_false (fun e => h (V.int.inj e))]; rfl
theorem neT {a b : Int} (h : a = b) : (!decide (V.int a = V.int b)) = false := by rw [h, decide_eq_true rfl]; rfl
section
variable {P : Program} {w : World} {K : PySem.W.Frag} {mg : Str → Option Value} {base : Heap} {FC DC CC RC EC : Addr}
abbrev NRight : List Str := ["_law_bag_here", "_law_desk", "_law_road", "_law_step", "_law_start", "_law_many", "_law_limit", "_law_cell", "_law_beside", "_law_effect", "_law_log", "_law_worth", "_law_again", "_law_more", "_law_report"]
theorem scRight : FnScope NRight ["_law_bag_here"] (defScope sRight) := ⟨rfl, rfl, rfl, by decide +kernel, rfl, by decide +kernel, by decide +kernel⟩
/-- all that the law uses of the desk -/
structure LawE (P : Program) (w : World) (K : PySem.W.Frag) (mg : Str → Option Value) (base : Heap) (FC DC CC RC EC : Addr) (fI fC fE fP pA gA fCC fL fIt : Addr) (dI dC dV dCC dL dIt : FuncData) : Prop where
  B : Bt mg
  TD : DkT K DC
  TC : CeT K CC
  TE : EfT K EC
  new : Mk K DC fI
  gD : mg "Desk" = some (.ref DC)
  oD : FnOk P w K mg base CX0 3 fI dI ["self"] (spInitD FC DC CC)
  bD : Binds K dI ["self"] []
  cell : MO P w K mg base DC "cell" 3 ["self", "name", "value"] (spCellD FC DC CC) fC dC
  mE : Meth K DC "effect" fE
  oE : FnR P w K mg base CX0 13 fE (spEffD FC DC EC RC (spRunE P w K mg base FC EC RC 9) (spS P w K mg base FC CC EC RC))
  mP : Meth K CC "put" fP
  oP : FnR P w K mg base CX0 13 fP (spPutE FC CC RC (spS P w K mg base FC CC EC RC))
  val : PO P w K mg base CC pA gA dV
  call : SO P w K mg base CX0 CC "__call__" 2 ["self"] (spCall FC CC) fCC dCC
  len : SO P w K mg base CX0 DC "__len__" 1 ["self"] (spLenG FC DC) fL dL
  iter : SO P w K mg base CX0 DC "__iter__" 1 ["self"] (spIterG FC DC) fIt dIt
def spRight (PT PX : Addr) : Sp := fun vs H Q _ => ∃ b : Addr, vs = [.ref b] ∧ BagAt H b 0 ∧ TabS H PT qY ∧ TabS H PX qX ∧ ∀ H', Kp [b, PT, PX] H H' → TabS H' PT qY → TabS H' PX qX → Q (.bl true) H'
theorem ok_right {f c PT PX fI fC fE fP pA gA fCC fL fIt fT fO fW fDu : Addr} {fd dI dC dV dCC dL dIt dT dO dW dDu : FuncData} (F : FunC K "_law_right" "_law_right" sRight f fd c) (TB : TabB base mg c PX) (nP : PT ≠ PX) (L : LawE P w K mg base FC DC CC RC EC fI fC fE fP pA gA fCC fL fIt dI dC dV dCC dL dIt)
    (T : LD P w K mg base "_law_take" 1 ["_law_bag_here", "_law_many"] spTake fT dT) (O : LD P w K mg base "_law_of" 2 ["_law_bag_here", "_law_some"] (spOf K) fO dO) (Wk : LD P w K mg base "_law_work" 8 N5 (spWork FC DC CC RC PT) fW dW) (Du : LD P w K mg base "_law_due" 1 ["_law_start", "_law_step", "_law_limit", "_law_road"] spDueL fDu dDu) : FnOk P w K mg base CX0 14 f fd ["_law_bag_here"] (spRight PT PX) := by
  refine F.ok scRight (fun vs H Q E h => ?_) (fun A outer s H vs Q E hr h => ?_)
  · obtain ⟨b, rfl, _⟩ := h
    rfl
  · obtain ⟨b, rfl, hB, hTY, hTX, k⟩ := h
    have nd := scRight.nd
    have hu := hu_of hr
    have h1 := hr.mono (by decide : 1 ≤ 13)
    have h2 := hr.mono (by decide : 2 ≤ 13)
    have h3 := hr.mono (by decide : 3 ≤ 13)
    have h4 := hr.mono (by decide : 4 ≤ 13)
    have hsl := sizeLine_eq
    have B := L.B
    refine ⟨_, C8.pss_cut (ps_asg (pe_tup (pa_cons (pe_make0 L.new L.oD h4 (by rfl) L.gD L.bD .nil pass0) (pa_cons (pe_call T.o h1 (by rfl) T.a.g T.a.k T.b .nil pass0 (pa_cons (pv 0) (pa_cons pe_int pa_nil))) (pa_cons (pe_op op_add pe_int (pe_call O.o h2 (by rfl) O.a.g O.a.k O.b .nil pass0 (pa_cons (pv 0) (pa_cons (pe_lst (pa_cons pe_int (pa_cons pe_int (pa_cons pe_int (pa_cons (pe_call T.o h1 (by rfl) T.a.g T.a.k T.b .nil pass0 (pa_cons (pv 0) (pa_cons (pe_op op_pow pe_int pe_int) pa_nil))) pa_nil))))) pa_nil)))) pa_nil))))
        (pg_tup rfl (pgs_cons (pg_name (i := 1) nd rfl (Or.inr rfl)) (pgs_cons (pg_name (i := 2) nd rfl (Or.inr rfl)) (pgs_cons (pg_name (i := 3) nd rfl (Or.inr rfl)) pgs_nil)))))
      (pss_cons (ps_set (i := 4) nd rfl (Or.inl rfl) (pe_op op_sub (pe_call T.o h1 (by rfl) T.a.g T.a.k T.b .nil pass0 (pa_cons (pv 0) (pa_cons (pe_op op_pow pe_int pe_int) pa_nil))) (pe_op op_mul pe_int (pe_op op_pow pe_int pe_int))))
      (pss_cons (ps_set (i := 5) nd rfl (Or.inl rfl) (pe_call O.o h2 (by rfl) O.a.g O.a.k O.b .nil pass0 (pa_cons (pv 0) (pa_cons (pe_lst (pa_cons (pe_call T.o h1 (by rfl) T.a.g T.a.k T.b .nil pass0 (pa_cons (pv 0) (pa_cons pe_int pa_nil))) (pa_cons (pe_call T.o h1 (by rfl) T.a.g T.a.k T.b .nil pass0 (pa_cons (pv 0) (pa_cons pe_int pa_nil))) (pa_cons pe_int pa_nil)))) pa_nil))))
      (C8.pss_cut (ps_set (i := 6) nd rfl (Or.inr rfl) (pe_op op_sub (pe_op op_add (pv 4) (pe_op op_mul (pv 3) (pv 5))) (pe_op op_mul (pe_call T.o h1 (by rfl) T.a.g T.a.k T.b .nil pass0 (pa_cons (pv 0) (pa_cons (pv 3) pa_nil))) (pe_callTy call_int1 (by rfl) B.int str_int_none (pa_cons (pe_cmpR op_gt (pv 5) pe_int (nomark _)) pa_nil)))))
      (C8.pss_cut (ps_asg (pe_tup (pa_cons (pe_meth (pv 1) L.TD.cl L.cell.m L.cell.o h3 L.cell.b .nil pass0 (pa_cons pe_str (pa_cons (pv 4) pa_nil))) (pa_cons (pe_meth (pv 1) L.TD.cl L.cell.m L.cell.o h3 L.cell.b .nil pass0 (pa_cons pe_str (pa_cons pe_int pa_nil))) pa_nil))) (pg_tup rfl (pgs_cons (pg_name (i := 7) nd rfl (Or.inr rfl)) (pgs_cons (pg_name (i := 8) nd rfl (Or.inl rfl)) pgs_nil))))
      (C8.pss_cut (ps_set (i := 9) nd rfl (Or.inl rfl) (pe_methUp (cl := cloFrom (envOfC "_law_right" (defScope sRight) s.heap.objs.size f (.ref c)).cells (lamScp lamX).names []) (fr := N5) (js := [1, 7, 3, 6, 2]) rfl (fun _ => rfl) (fun ok => ?_) (pv 1) L.TD.cl L.mE L.oE hr (pa_cons pe_str (pa_cons (pe_lamE TB rfl rfl (fun ok y hy e => ?_)) pa_nil))))
      (C8.pss_cut (ps_asg (pe_call Du.o h1 (by rfl) Du.a.g Du.a.k Du.b .nil pass0 (pa_cons (pv 4) (pa_cons (pv 3) (pa_cons (pv 6) (pa_cons (pv 2) pa_nil))))) (pg_tup rfl (pgs_cons (pg_name (i := 10) nd rfl (Or.inl rfl)) (pgs_cons (pg_name (i := 11) nd rfl (Or.inl rfl)) pgs_nil))))
      (C8.pss_cut (ps_if (pw_or (pt_cmpR (op_neD hr.units) (pe_callTy (call_listIt (EI := E0) (EL := E0) rfl L.iter.m L.len.m L.iter.o L.iter.b pass0 L.len.o L.len.b h4) (by rfl) B.list boot_list' (pa_cons (pv 1) pa_nil)) (pe_lc (own := [("_law_report", 14)]) (g := gName 14) (tt := tYes) rfl nd (pi_list (pv 10)) (blkOk_by (own := [("_law_report", 14)]) (N := NRight) (sc := defScope sRight) (by decide +kernel)) (fun _ _ _ _ _ => pg_name (i := 14) nd rfl (Or.inl rfl)) (fun _ _ _ _ _ => pts_nil) (fun _ _ _ _ _ => pe_tup (pa_cons pe_str (pa_cons (pv 14) pa_nil)))) (nomark _))
          (pw_or (pt_cmpR op_ne (pe_prop (pv 7) L.TC.cl L.val.p L.val.o h2 L.val.b .nil pass0 rfl) (pv 11) (nomark _)) (pw_or1 (pt_cmpR op_ne (pe_fld (pv 9) rfl) (pe_callB call_len (by rfl) B.len PySem.boot_len (pa_cons (pv 10) pa_nil)) (nomark _))))).pt (pss_one (ps_ret pe_bl)) pss_nil)
      (C8.pss_cut (ps_expr (pe_methUp (cl := cloFrom (envOfC "_law_right" (defScope sRight) s.heap.objs.size f (.ref c)).cells (lamScp lamX).names []) (fr := N5) (js := [1, 7, 3, 6, 2]) rfl (fun _ => rfl) (fun ok => ?_) (pv 8) L.TC.cl L.mP L.oP hr (pa_cons pe_int pa_nil)))
      (pss_cons (ps_if (pt_cmpR op_ne (pe_callB (len_own (E := E0) L.len.m L.len.o h2 L.len.b (fun _ _ _ _ _ _ _ h => (show False from h).elim)) (by rfl) B.len PySem.boot_len (pa_cons (pv 1) pa_nil)) (pe_callB call_len (by rfl) B.len PySem.boot_len (pa_cons (pv 10) pa_nil)) (nomark _)) (pss_one (ps_ret pe_bl)) pss_nil)
      (C8.pss_cut (ps_set (i := 12) nd rfl (Or.inl rfl) (pe_op op_sub (pv 6) (pe_op op_mul (pv 3) (pe_call O.o h2 (by rfl) O.a.g O.a.k O.b .nil pass0 (pa_cons (pv 0) (pa_cons (pe_lst (pa_cons (pe_call T.o h1 (by rfl) T.a.g T.a.k T.b .nil pass0 (pa_cons (pv 0) (pa_cons pe_int pa_nil))) (pa_cons pe_int pa_nil))) pa_nil))))))
      (C8.pss_cut (ps_expr (pe_methUp (cl := cloFrom (envOfC "_law_right" (defScope sRight) s.heap.objs.size f (.ref c)).cells (lamScp lamX).names []) (fr := N5) (js := [1, 7, 3, 6, 2]) rfl (fun _ => rfl) (fun ok => ?_) (pv 7) L.TC.cl L.mP L.oP hr (pa_cons (pv 12) pa_nil)))
      (pss_cons (ps_set (i := 13) nd rfl (Or.inl rfl) (pe_lst pa_nil))
      (C8.pss_cut (ps_if (pw_and (pt_cmpR op_in_seq (pv 2) (pe_tup (pa_cons pe_int (pa_cons pe_int (pa_cons pe_int pa_nil)))) (by rfl)) (pw_and1 (pt_cmpR op_ne (pv 12) (pv 11) (nomark _)))).pt (pss_one (ps_asg (pe_call Du.o h1 (by rfl) Du.a.g Du.a.k Du.b .nil pass0 (pa_cons (pv 12) (pa_cons (pv 3) (pa_cons (pv 6) (pa_cons (pv 2) pa_nil))))) (pg_tup rfl (pgs_cons (pg_name (i := 13) nd rfl (Or.inl rfl)) (pgs_cons (pg_name (i := 11) nd rfl (Or.inl rfl)) pgs_nil))))) (pss_one (ps_set (i := 11) nd rfl (Or.inl rfl) (pv 12))))
      (pss_one (ps_ret (pe_and (pe_cmpR (op_eqD hr.units) (pe_callTy (call_listIt (EI := E0) (EL := E0) rfl L.iter.m L.len.m L.iter.o L.iter.b pass0 L.len.o L.len.b h4) (by rfl) B.list boot_list' (pa_cons (pv 1) pa_nil)) (pe_lc (own := [("_law_report", 14)]) (g := gName 14) (tt := tYes) rfl nd (pi_list (pe_op op_cat (pv 10) (pv 13))) (blkOk_by (own := [("_law_report", 14)]) (N := NRight) (sc := defScope sRight) (by decide +kernel)) (fun _ _ _ _ _ => pg_name (i := 14) nd rfl (Or.inl rfl)) (fun _ _ _ _ _ => pts_nil) (fun _ _ _ _ _ => pe_tup (pa_cons pe_str (pa_cons (pv 14) pa_nil)))) (nomark _))
        (pe_and (pe_cmpR op_eq (pe_callO0 (pv 7) L.call.m L.call.i L.call.o h2 L.call.b pass0) (pv 11) (nomark _)) (pe_one (pe_cmpR (op_eqD hr.units) (pe_fld (pv 9) rfl) (ixl (pe_op op_cat (pv 10) (pv 13)) (pe_un un_neg pe_int)) (nomark _)))))))))))))))))))), ?_⟩
    · exact Caps.made ok (ndef_free (sc := defScope sRight) (nsc := lamScp lamX) (fr := N5) (by decide +kernel)) (ndef_fr (sc := defScope sRight) (nsc := lamScp lamX) (fr := N5) (by decide +kernel)) rfl
    · exact ok.has _ (ndef_free (sc := defScope sRight) (nsc := lamScp lamX) (fr := N5) (by decide +kernel) y hy e)
    · exact Caps.made ok (ndef_free (sc := defScope sRight) (nsc := lamScp lamX) (fr := N5) (by decide +kernel)) (ndef_fr (sc := defScope sRight) (nsc := lamScp lamX) (fr := N5) (by decide +kernel)) rfl
    · exact Caps.made ok (ndef_free (sc := defScope sRight) (nsc := lamScp lamX) (fr := N5) (by decide +kernel)) (ndef_fr (sc := defScope sRight) (nsc := lamScp lamX) (fr := N5) (by decide +kernel)) rfl
    obtain ⟨w1, w2, w3, hbH, _⟩ := id hB
    have b_ne : ∀ {x : Addr}, H x = none → x ∉ [b] := fun h hm => by rw [List.mem_singleton.mp hm, hbH] at h; cases h
    have big : (10 : Int) ^ (26 : Int).toNat < 2 ^ 200 - 10 := by decide
    have big2 : (10 : Int) ^ (28 : Int).toNat < 2 ^ 200 := by decide
    refine ⟨fun σ' Ha => ∃ (D : DA) (tD : Addr) (road : Nat) (step : Int), σ' = [some (.ref b), some (.ref D.d), some (.int (road : Int)), some (.int step), none, none, none, none, none, none, none, none, none, none, none] ∧ Kp [b] H Ha ∧ BagAt Ha b 3 ∧ DeskAt FC DC CC Ha D tD [] ∧ (∀ x ∈ foot D tD [], H x = none) ∧ 1 ≤ step ∧ step < 2 ^ 200 ∧ road < 5, ?_, ?_⟩
    · refine fun x dx hx hdx ne1 => ⟨x, dx, rfl, upd_same, fun H1 D tD eD k1 fr1 D1 => ?_⟩
      subst eD
      have K1 : Kp [] H H1 := made_kp hx hdx k1
      have B1 := hB.kp K1 (by simp)
      have foot0 : ∀ x ∈ foot D tD [], H x = none := fun x hx' => by
        by_cases e : x = D.d
        · rw [e]; exact hx
        · exact made_back (fr1 x hx' e)
      refine ⟨rfl, _, rfl, b, 5, 0, rfl, B1, by decide, by decide, by decide, fun H2 r k2 hB2 r0 r1 => ?_⟩
      obtain ⟨road, rfl⟩ := Int.eq_ofNat_of_zero_le r0
      refine ⟨_, rfl, _, rfl, _, _, rfl, rfl, ⟨by decide, by decide, by decide⟩, b, _, _, rfl, hB2, by decide, by decide, by omega, fun H3 r3 k3 hB3 s0 s1 => ⟨(by show 4 ≤ sizeLine; omega), fun l hl => ?_⟩⟩
      have nlb : l ≠ b := fun e => by obtain ⟨_, _, _, h, _⟩ := hB3; rw [e, h] at hl; cases hl
      refine ⟨b, l, _, _, rfl, hB3.kp (Kp.new (S := []) hl) (by simp), by decide, upd_same, (by show 0 < 4; decide), (by show 4 < 1000; decide), nlb, fun H5 t x5 k5 hB5 hx5 => ?_⟩
      obtain ⟨y, rfl, y0, y1⟩ : ∃ y : Int, x5 = .int y ∧ 0 ≤ y ∧ y < 10 ^ (26 : Int).toNat + 5 := by
        have hm := List.mem_of_getElem? hx5
        simp only [List.mem_cons, List.mem_nil_iff, or_false] at hm
        have p0 : (0 : Int) ≤ 10 ^ (26 : Int).toNat := by decide
        rcases hm with z | z | z | z
        · exact ⟨0, z, by decide, by omega⟩
        · exact ⟨0, z, by decide, by omega⟩
        · exact ⟨4, z, by decide, by omega⟩
        · exact ⟨r3, z, s0, by omega⟩
      refine ⟨_, _, rfl, rfl, (by show 3 ≤ sizeLine; omega), fun tt htt => ⟨tt, _, rfl, SqT.of upd_same, rfl, _, _, rfl, _, _, rfl, _, _, rfl, rfl, D, tD, road, 1 + y, rfl, ?_, ?_, ?_, foot0, by omega, by omega, by omega⟩⟩
      · exact ((((K1.mono (by simp)).trans k2).trans k3).trans (Kp.new hl)).trans k5 |>.trans (Kp.new htt)
      · exact (hB5.kp (Kp.new (S := []) htt) (by simp)).up (by decide)
      · have nf : ∀ x ∈ foot D tD [], x ∉ [b] := fun x hx' => b_ne (foot0 x hx')
        exact ((((D1.kp k2 nf).kp k3 nf).kp (Kp.new (S := []) hl) (fun _ _ => by simp)).kp k5 nf).kp (Kp.new (S := []) htt) (fun _ _ => by simp)
    rintro σ' Ha ⟨D, tD, road, step, rfl, Ka, Ba, Da, fa, st1, st2, hroad⟩
    have nfb : ∀ x ∈ foot D tD [], x ∉ [b] := fun x hx' => b_ne (fa x hx')
    refine ⟨_, rfl, _, _, rfl, rfl, ⟨by decide, by decide, by decide⟩, b, _, _, rfl, Ba, by decide, by decide, by omega, fun H1 r1 k1 hB1 u0 u1 => ⟨_, _, rfl, rfl, ⟨by decide, by decide, by decide⟩, _, _, rfl, rfl, .inl ⟨by decide, by decide⟩, _, _, rfl, rfl, ?_⟩⟩
    refine ⟨_, rfl, _, rfl, b, 6, _, rfl, hB1, by decide, by decide, by decide, fun H2 r2 k2 hB2 a0 a1 => ⟨_, rfl, b, 101, _, rfl, hB2, by decide, by decide, by decide, fun H3 r3 k3 hB3 b0 b1 => ⟨(by show 3 ≤ sizeLine; omega), fun l hl => ?_⟩⟩⟩
    have nlb : l ≠ b := fun e => by obtain ⟨_, _, _, h, _⟩ := hB3; rw [e, h] at hl; cases hl
    refine ⟨b, l, _, _, rfl, hB3.kp (Kp.new (S := []) hl) (by simp), by decide, upd_same, (by show 0 < 3; decide), (by show 3 < 1000; decide), nlb, fun H5 t x5 k5 hB5 hx5 => ?_⟩
    obtain ⟨many, rfl, m0, m1⟩ : ∃ y : Int, x5 = .int y ∧ 0 ≤ y ∧ y ≤ 100 := by
      have hm := List.mem_of_getElem? hx5
      simp only [List.mem_cons, List.mem_nil_iff, or_false] at hm
      rcases hm with z | z | z
      · exact ⟨r2, z, a0, by omega⟩
      · exact ⟨r3, z, b0, by omega⟩
      · exact ⟨100, z, by decide, by decide⟩
    have K5 : Kp [b] H H5 := ((((Ka.trans k1).trans k2).trans k3).trans (Kp.new hl)).trans k5
    have D5 : DeskAt FC DC CC H5 D tD [] := ((((Da.kp k1 nfb).kp k2 nfb).kp k3 nfb).kp (Kp.new (S := []) hl) (fun _ _ => by simp)).kp k5 nfb
    clear hl hx5
    have b64 : (2 : Int) ^ 64 = 18446744073709551616 := by decide
    refine ⟨fun σ' Hb => ∃ start limit : Int, σ' = [some (.ref b), some (.ref D.d), some (.int (road : Int)), some (.int step), some (.int start), some (.int many), some (.int limit), none, none, none, none, none, none, none, none] ∧ Kp [b] H Hb ∧ BagAt Hb b 8 ∧ DeskAt FC DC CC Hb D tD [] ∧ start ≤ limit ∧ limit ≤ start + many.toNat * step, ?_, ?_⟩
    · refine ⟨_, rfl, _, rfl, _, rfl, _, _, rfl, rfl, .inr ⟨by omega, by omega⟩, _, _, rfl, rfl, _, rfl, _, rfl, b, step, _, rfl, hB5, by decide, by omega, st2, fun H6 r6 k6 hB6 c0 c1 => ?_⟩
      refine ⟨_, rfl, _, _, rfl, rfl, .inr ⟨_, rfl, _, _, rfl, rfl, .inr ?_, _, _, rfl, rfl, _, _, rfl, K5.trans k6, hB6.up (by decide), D5.kp k6 nfb, ?_⟩⟩
      · split <;> exact ⟨by omega, by omega⟩
      · have hm : ((many.toNat : Nat) : Int) = many := by omega
        rw [hm, Int.mul_comm many step]
        by_cases c : many > 0
        · rw [decide_eq_true c, if_pos rfl, Int.mul_one]
          have : step * 1 ≤ step * many := Int.mul_le_mul_of_nonneg_left (by omega) (by omega)
          exact ⟨by omega, by omega⟩
        · have : many = 0 := by omega
          subst this
          simp
    rintro σ' Hb ⟨start, limit, rfl, Kb, Bb, Db, lim1, lim2⟩
    have Fb : ∀ x ∈ foot D tD [], H x = none := fa
    refine ⟨fun σ' Hc => ∃ a ax b2 bx : Addr, σ' = [some (.ref b), some (.ref D.d), some (.int (road : Int)), some (.int step), some (.int start), some (.int many), some (.int limit), some (.ref a), some (.ref b2), none, none, none, none, none, none] ∧ Kp [b] H Hc ∧ BagAt Hc b 8 ∧ DeskAt FC DC CC Hc D tD [⟨"a", a, ax, start⟩, ⟨"b", b2, bx, 0⟩] ∧ H a = none ∧ H b2 = none, ?_, ?_⟩
    · have f3 : ∀ x ∈ [D.nD, D.cD, D.sD], H x = none := fun x hx => Fb x (by
        simp only [List.mem_cons, List.mem_nil_iff, or_false] at hx
        rcases hx with z | z | z <;> rw [z] <;> exact List.mem_append_left _ (by simp))
      have nb3 : b ∉ [D.nD, D.cD, D.sD] := fun hm => by have := f3 b hm; rw [hbH] at this; cases this
      refine ⟨_, rfl, D.d, D.dx, _, rfl, Db.desk, rfl, _, rfl, D, tD, [], "a", start, rfl, Db, by simp, by decide, fun H6 a ax k6 ha D6 => ?_⟩
      have K6 := Kb.via k6 fun x hx => .inr (f3 x hx)
      have B6 := Bb.kp k6 nb3
      refine ⟨_, rfl, D.d, D.dx, _, rfl, D6.desk, rfl, D, tD, _, "b", 0, rfl, D6, (by show ("b" : Str) ∉ (["a"] : List Str); decide +kernel), (by show 1 < 100; decide), fun H7 b2 bx k7 hb2 D7 => ?_⟩
      have K7 := K6.via k7 fun x hx => .inr (f3 x hx)
      have B7 := B6.kp k7 nb3
      refine ⟨(by show 2 ≤ sizeLine; omega), fun tt htt => ⟨tt, _, rfl, SqT.of upd_same, rfl, _, _, rfl, _, _, rfl, rfl, a, ax, b2, bx, rfl, K7.trans (Kp.new htt), B7.kp (Kp.new (S := []) htt) (by simp), D7.kp (Kp.new (S := []) htt) (fun _ _ => by simp), fresh_back Kb Bb.there ha, fresh_back K6 B6.there hb2⟩⟩
    rintro σ' Hc ⟨a, ax, b2, bx, rfl, Kc, Bc, Dc, fna, fnb⟩
    have softb : ∀ x ∈ [b], ∀ o, H x = some o → (∀ φ, o ≠ .ext φ) ∧ ∀ ps, o ≠ .tbl ps := fun x hx o ho => by
      rw [List.mem_singleton.mp hx, hbH] at ho
      cases ho
      exact ⟨(fun _ z => by cases z), fun _ z => by cases z⟩
    have tXc := tabs_kp' hTX Kc softb
    have tYc := tabs_kp' hTY Kc softb
    have nbY : b ≠ PT := fun e => by obtain ⟨ps, h1, _⟩ := hTY; rw [← e, hbH] at h1; cases h1
    have nbX : b ≠ PX := fun e => by obtain ⟨ps, h1, _⟩ := hTX; rw [← e, hbH] at h1; cases h1
    have T0 := Dc.two
    obtain ⟨L0, xF, hrun⟩ : ∃ L0 xF, runsX step limit road 102 start = (L0, xF) := ⟨_, _, (Prod.eta _).symm⟩
    have rr : ∀ p' : Pl, p'.step = step → p'.limit = limit → p'.road = road → Runs p' start L0 xF ∧ L0.length ≤ 101 := fun p' e1 e2 e3 => by
      obtain ⟨l, y, q1, q2, q3⟩ := runs_of p' (by omega) many.toNat start (by rw [e2]; exact lim1) (by rw [e1, e2]; exact lim2) 102 (by omega)
      rw [e1, e2, e3, hrun] at q1
      obtain ⟨z1, z2⟩ := Prod.mk.inj q1
      rw [z1, z2]
      exact ⟨q2, by omega⟩
    refine ⟨fun σ' Hx => ∃ (p : Pl) (tD nt : Addr) (rep : V) (ls : List V) (tk : List (Key × V)) (xF : Int) (L0 : List Int), σ' = [some (.ref b), some (.ref p.D.d), some (.int (p.road : Int)), some (.int p.step), some (.int start), some (.int many), some (.int p.limit), some (.ref p.a), some (.ref p.b), some (.ref p.e), none, none, none, none, none] ∧ p.PT = PT ∧ p.road < 5 ∧ 1 ≤ p.step ∧ p.cl = cloFrom (envOfC "_law_right" (defScope sRight) s.heap.objs.size f (.ref c)).cells (lamScp lamX).names [] ∧ runsX p.step p.limit p.road 102 start = (L0, xF) ∧ L0.length ≤ 101 ∧ Acc FC DC CC EC H Hx b PX p tD xF 0 nt rep L0 ls tk 8, ?_, ?_⟩
    · refine ⟨_, rfl, D.d, D.dx, _, rfl, Dc.desk, rfl, tXc, fun wk c' H1 kl nl tX1 hwk lam code cs C N => ?_⟩
      have kX : Kp [PX] Hc H1 := fun q u nq e => kl q u (by simpa using nq) e
      obtain ⟨psX, tx0, _⟩ := id tXc
      have T1 := T0.kp kX fun x hx hm => by
        rw [List.mem_singleton.mp hm] at hx
        simp only [List.mem_cons, List.mem_nil_iff, or_false] at hx
        rcases hx with z | z | z | z | z | z | z | z | z
        · exact ne_kind tx0 T0.hd (by show ¬ (4 = 1 + 10); decide) z
        · exact ne_kind tx0 T0.hf (by show ¬ (4 = 9 + 10); decide) z
        · exact ne_kind tx0 T0.ca (by show ¬ (4 = 3 + 10); decide) z
        · exact ne_kind tx0 T0.cb (by show ¬ (4 = 3 + 10); decide) z
        · exact ne_kind tx0 T0.nms (by show ¬ (4 = 1); decide) z
        · exact ne_kind tx0 T0.srs (by show ¬ (4 = 1); decide) z
        · exact ne_kind tx0 T0.eff (by show ¬ (4 = 2); decide) z
        · exact ne_kind tx0 T0.log (by show ¬ (4 = 2); decide) z
        · exact ne_kind tx0 T0.trn (by show ¬ (4 = 1); decide) z
      have tY1 : TabS H1 PT qY := tabs_kpO tYc kX (by simpa using nP) fun x hx φ hz => by rw [List.mem_singleton.mp hx, tx0] at hz; cases hz
      refine make_acc (p := ⟨D, a, ax, b2, bx, 0, 0, wk, PT, step, limit, road, qX, cloFrom (envOfC "_law_right" (defScope sRight) s.heap.objs.size f (.ref c)).cells (lamScp lamX).names [], c', []⟩) (tD := tD) (va := start) (vb := 0) (L := L0) (xF := xF) (n := 8) (PX := PX) (b := b) (H := H) Wk hroad ?_ (Bc.kp kX (by simpa using nbX)) tX1 nP nbY ⟨_, hbH⟩ tY1 T1 lam code ?_ C N (fun e ex gs => (rr _ rfl rfl rfl).1) (rr ⟨D, a, ax, b2, bx, 0, 0, wk, PT, step, limit, road, qX, [], c', []⟩ rfl rfl rfl).2 ?_
      · exact (Kc.mono (by simp)).trans (kX.mono (by simp))
      · intro x hx
        have fd : ∀ y ∈ foot D tD [], H y = none := fa
        simp only [List.mem_cons, List.mem_nil_iff, or_false] at hx
        rcases hx with z | z | z | z | z | z | z | z | z <;> rw [z] <;> first | exact fna | exact fnb | exact fd _ (List.mem_append_left _ (by simp))
      · exact fun Hy e ex tD' nt rep ls tk A => ⟨_, tD', nt, rep, ls, tk, xF, L0, rfl, rfl, hroad, st1, rfl, hrun, (rr ⟨D, a, ax, b2, bx, 0, 0, wk, PT, step, limit, road, qX, [], c', []⟩ rfl rfl rfl).2, A⟩
    clear tXc tYc T0 rr hrun
    rintro σ' Hx ⟨p, tD, nt, rep, ls, tk, xF, L0, rfl, rfl, hroad, st1, hcl, hrun, hL0, A0⟩
    refine ⟨fun σ' Hy => ∃ (l : Addr) (us : List V), σ' = [some (.ref b), some (.ref p.D.d), some (.int (p.road : Int)), some (.int p.step), some (.int start), some (.int many), some (.int p.limit), some (.ref p.a), some (.ref p.b), some (.ref p.e), some (.ref l), some (.int xF), none, none, none] ∧ Hy l = some (.lst us) ∧ (l ≠ p.D.lL ∧ l ≠ b) ∧ RepsAt Hy p.road p.step p.limit L0 us ∧ Acc FC DC CC EC H Hy b PX p tD xF 0 nt rep L0 ls tk 8, ?_, ?_⟩
    · refine ⟨_, rfl, _, rfl, _, rfl, _, rfl, start, p.step, p.limit, p.road, rfl, hroad, fun Hy t l us ky ht hl tH lH R => ?_⟩
      rw [hrun] at tH R
      exact ⟨t, _, rfl, SqT.of tH, rfl, _, _, rfl, _, _, rfl, rfl, l, us, rfl, lH, ⟨(fun e => by have := A0.co.log; rw [← e, hl] at this; cases this), (fun e => by obtain ⟨_, _, _, h, _⟩ := A0.bag; rw [← e, hl] at h; cases h)⟩, R, A0.new ky⟩
    rintro σ' Hy ⟨l, us, rfl, hl, hlL, hus, A1⟩
    refine ⟨fun σ' Hz => σ' = [some (.ref b), some (.ref p.D.d), some (.int (p.road : Int)), some (.int p.step), some (.int start), some (.int many), some (.int p.limit), some (.ref p.a), some (.ref p.b), some (.ref p.e), some (.ref l), some (.int xF), none, none, none] ∧ Hz l = some (.lst us) ∧ (l ≠ p.D.lL ∧ l ≠ b) ∧ RepsAt Hz p.road p.step p.limit L0 us ∧ Acc FC DC CC EC H Hz b PX p tD xF 0 nt rep L0 ls tk 8, ?_, ?_⟩
    · refine ⟨_, rfl, p.D.d, p.D.dx, _, rfl, A1.co.hd, fun q hq => ?_⟩
      have kq : Kp [] Hy (upd Hy q (.lst [])) := Kp.new hq
      have lAt : LogAt FC DC Hy p.D.d p.D.lL ls := ⟨p.D.dx, p.D.f, p.D.fx, _, A1.co.hd, A1.co.hf, rfl, A1.co.log⟩
      refine ⟨p.D.d, p.D.lL, ls, rfl, lAt.kp kq, fun it hit => ?_⟩
      have kit : Kp [] (upd Hy q (.lst [])) (upd (upd Hy q (.lst [])) it (ItO p.D.lL it 0)) := Kp.new hit
      have kk := kq.trans kit
      have nql : p.D.lL ≠ q := fun e => by have := A1.co.log; rw [e, hq] at this; cases this
      have nqi : it ≠ q := fun e => by rw [e, upd_same] at hit; cases hit
      refine ⟨it, p.D.lL, p.D.dx, _, ls, rfl, upd_same, kk _ _ (by simp) A1.co.log, by have := A1.co.ll; omega, nql, kit _ _ (by simp) upd_same, kk _ _ (by simp) A1.co.hd, p.D.d, p.D.lL, ls, rfl, lAt.kp kk, rfl, rfl, fun H3 q3 oth => ?_⟩
      have k3 : Kp [] Hy H3 := fun z u _ e => by
        have n1 := ne_of_none e hq
        have n2 : z ≠ it := fun y => by rw [y] at e; rw [upd_ne nqi] at hit; rw [hit] at e; cases e
        rw [oth z n1 n2, upd_ne n2, upd_ne n1]; exact e
      have l3 := k3 _ _ (by simp) hl
      have A3 := A1.new k3
      have R3 := hus.kp k3 fun _ h => nomatch h
      have len0 := hus.len
      refine ⟨_, rfl, l, rfl, ⟨us, SqL.of l3⟩, fun q2 hq2 => ?_⟩
      refine lc_it walk_list (fun i H' => ∃ acc : List V, H' q2 = some (.lst acc) ∧ Kp [] H3 H' ∧ LogE p H' (L0.take i) acc) ⟨[], upd_same, Kp.new hq2, rfl⟩ (fun i H' _ ⟨_, _, kk, _⟩ => SqL.of (kk _ _ (by simp) l3)) ?_ ?_
      · rintro i x H4 H5 hi ⟨acc, ha, k4, hL⟩ ⟨rfl, hx⟩
        obtain ⟨y, hy, hr⟩ := R3.get hx
        have hr := hr.kp k4 fun _ h => nomatch h
        have kt : ∀ t, H5 t = none → Kp [] H5 (upd H5 t (.tup [.str "e", x])) := fun t ht => Kp.new ht
        refine ⟨rfl, ?_⟩
        refine ⟨_, rfl, (by show 2 ≤ sizeLine; omega), fun t ht => ⟨acc, kt t ht _ _ (by simp) ha, ?_, acc ++ [.ref t], upd_same, (k4.trans (kt t ht)).wr hq2, ?_⟩⟩
        · have := hL.len
          rw [List.length_take] at this
          omega
        · have e1 : L0.take (i + 1) = L0.take i ++ [y] := by rw [List.take_succ, hy]; rfl
          rw [e1]
          have k5 : Kp [q2] H5 (upd (upd H5 t (.tup [.str "e", x])) q2 (.lst (acc ++ [V.ref t]))) := fun z u nz e => by
            rw [upd_ne (by simpa using nz)]; exact kt t ht z u (by simp) e
          have s5 : ∀ q ∈ [q2], ∀ ys, H5 q ≠ some (.tup ys) := fun q hq ys hy => by rw [List.mem_singleton.mp hq, ha] at hy; cases hy
          exact LogE.snoc (v := x) (by rw [upd_ne (ne_of_none ha ht).symm]; exact upd_same) (hr.kp k5 s5) (hL.kp k5 s5)
      · rintro H4 ⟨acc, ha, k4, hL⟩
        rw [len0, List.take_length] at hL
        have A4 := A3.new k4
        obtain ⟨dd, ee, g1, g2, g3, g4, g5⟩ := log_go (K := K) (H' := H4) A4.co.lg hL (k4 _ _ (by simp) q3) ha
        refine ⟨dd, ee, g1, g2, g3, g4, ?_⟩
        rw [g5]
        refine ⟨_, rfl, iteF ?_⟩
        refine ⟨_, rfl, p.a, p.ax, _, rfl, A4.co.ca, p.a, p.ax, p.D.f, "a", xF, rfl, A4.co.ca, _, rfl, rfl, ?_⟩
        rw [neT (rfl : xF = xF)]
        refine ⟨_, rfl, iteF ?_⟩
        refine ⟨_, rfl, p.e, EC, p.ex, _, _, rfl, A4.co.me, L.TE.cl, L.TE.no _ (by simp), rfl, _, rfl, _, _, rfl, .inl ⟨_, SqL.of (k4 _ _ (by simp) l3), rfl⟩, rfl, ?_⟩
        rw [neT (show ((L0.length : Nat) : Int) = ((us.length : Nat) : Int) by rw [len0])]
        exact ⟨_, rfl, iteF ⟨rfl, k4 _ _ (by simp) l3, hlL, R3.kp k4 (fun _ h => nomatch h), A4⟩⟩
    rintro σ' Hz ⟨rfl, hl, hlL, hus, A2⟩
    clear A1 A0
    refine ⟨fun σ' Hx => ∃ (gs : Cells) (tD nt : Addr) (rep : V) (ls : List V) (tk : List (Key × V)), σ' = [some (.ref b), some (.ref p.D.d), some (.int (p.road : Int)), some (.int p.step), some (.int start), some (.int many), some (.int p.limit), some (.ref p.a), some (.ref p.b), some (.ref p.e), some (.ref l), some (.int xF), none, none, none] ∧ Hx l = some (.lst us) ∧ RepsAt Hx p.road p.step p.limit L0 us ∧ Acc FC DC CC EC H Hx b PX { p with gs := gs } tD xF 7 nt rep L0 ls tk 8, ?_, ?_⟩
    · refine ⟨_, rfl, p.b, p.bx, _, rfl, A2.co.cb, rfl, fun cs C N => ?_⟩
      refine Acc.putB (p := p) Wk hroad A2 (by rw [hcl]; exact C) N (by omega) fun Hy tD' nt rep ls tk ky A => ⟨cs, tD', nt, rep, ls, tk, rfl, ky _ _ (A2.co.out hl hlL.1) hl, hus.kp ky A2.co.soft, A⟩
    clear A2 hus hl
    rintro σ' Hx ⟨gs, tD, nt, rep, ls, tk, rfl, hl, hus, A3⟩
    have len0 := hus.len
    refine ⟨_, rfl, p.D.d, p.D.dx, _, rfl, A3.co.hd, p.D.d, p.D.lL, ls, rfl, ⟨p.D.dx, p.D.f, p.D.fx, _, A3.co.hd, A3.co.hf, rfl, A3.co.log⟩, _, rfl, by omega, by have := A3.co.ll; omega, _, rfl, _, _, rfl, .inl ⟨_, SqL.of hl, rfl⟩, rfl, ?_⟩
    rw [neT (show ((ls.length : Nat) : Int) = ((us.length : Nat) : Int) by rw [len0, A3.co.lg.len])]
    refine ⟨_, rfl, iteF ?_⟩
    refine ⟨fun σ' Hy => ∃ again : Int, σ' = [some (.ref b), some (.ref p.D.d), some (.int (p.road : Int)), some (.int p.step), some (.int start), some (.int many), some (.int p.limit), some (.ref p.a), some (.ref p.b), some (.ref p.e), some (.ref l), some (.int xF), some (.int again), none, none] ∧ again ≤ p.limit ∧ p.limit ≤ again + (99 : Nat) * p.step ∧ Hy l = some (.lst us) ∧ RepsAt Hy p.road p.step p.limit L0 us ∧ Acc FC DC CC EC H Hy b PX { p with gs := gs } tD xF 7 nt rep L0 ls tk 10, ?_, ?_⟩
    · refine ⟨_, rfl, _, rfl, _, rfl, _, rfl, b, 100, _, rfl, A3.bag, by decide, by decide, by decide, fun H3 r3 k3 hB3 b0 b1 => ⟨(by show 2 ≤ sizeLine; omega), fun l2 hl2 => ?_⟩⟩
      have nlb : l2 ≠ b := fun e => by obtain ⟨_, _, _, h, _⟩ := hB3; rw [e, h] at hl2; cases hl2
      refine ⟨b, l2, _, _, rfl, hB3.kp (Kp.new (S := []) hl2) (by simp), by decide, upd_same, (by show 0 < 2; decide), (by show 2 < 1000; decide), nlb, fun H5 t x5 k5 hB5 hx5 => ?_⟩
      obtain ⟨t, rfl, m0, m1⟩ : ∃ y : Int, x5 = .int y ∧ 0 ≤ y ∧ y ≤ 99 := by
        have hm := List.mem_of_getElem? hx5
        simp only [List.mem_cons, List.mem_nil_iff, or_false] at hm
        rcases hm with z | z
        · exact ⟨r3, z, b0, by omega⟩
        · exact ⟨99, z, by decide, by decide⟩
      have K5 : Kp [b] Hx H5 := (k3.trans (Kp.new hl2)).trans k5
      refine ⟨_, _, rfl, rfl, .inr ⟨by omega, by omega⟩, _, _, rfl, rfl, _, rfl, ?_, ?_, K5 _ _ (by simpa using hlL.2) hl, hus.kp K5 ?_, A3.bagS K5 (hB5.up (by decide))⟩
      · have : (0 : Int) ≤ p.step * t := Int.mul_nonneg (by omega) m0
        omega
      · have : p.step * t ≤ p.step * 99 := Int.mul_le_mul_of_nonneg_left m1 (by omega)
        show p.limit ≤ p.limit - p.step * t + (99 : Int) * p.step
        omega
      · intro q hq ys hy
        obtain ⟨_, _, _, h, _⟩ := A3.bag
        rw [List.mem_singleton.mp hq, h] at hy; cases hy
    clear A3 hus hl
    rintro σ' Hy ⟨again, rfl, ag1, ag2, hl, hus, A4⟩
    obtain ⟨L1, xF1, hrun1⟩ : ∃ L1 xF1, runsX p.step p.limit p.road 102 again = (L1, xF1) := ⟨_, _, (Prod.eta _).symm⟩
    have rr : ∀ gs', Runs { p with gs := gs' } again L1 xF1 ∧ L1.length ≤ 100 := fun gs' => by
      obtain ⟨l, y, q1, q2, q3⟩ := runs_of { p with gs := gs' } st1 99 again ag1 ag2 102 (by omega)
      rw [show runsX ({ p with gs := gs' } : Pl).step ({ p with gs := gs' } : Pl).limit ({ p with gs := gs' } : Pl).road 102 again = runsX p.step p.limit p.road 102 again from rfl, hrun1] at q1
      obtain ⟨z1, z2⟩ := Prod.mk.inj q1
      rw [z1, z2]
      exact ⟨q2, by omega⟩
    obtain ⟨rest, xF2, hcase, hrl⟩ : ∃ (rest : List Int) (xF2 : Int), (((p.road = 2 ∨ p.road = 3 ∨ again = xF) ∧ rest = [] ∧ xF2 = again) ∨ (¬ (p.road = 2 ∨ p.road = 3) ∧ again ≠ xF ∧ (rest, xF2) = (L1, xF1))) ∧ rest.length ≤ 100 := by
      by_cases c : p.road = 2 ∨ p.road = 3 ∨ again = xF
      · exact ⟨[], again, .inl ⟨c, rfl, rfl⟩, Nat.zero_le _⟩
      · exact ⟨L1, xF1, .inr ⟨(fun z => c (by omega)), (fun z => c (.inr (.inr z))), rfl⟩, (rr []).2⟩
    refine ⟨fun σ' Hx => ∃ (gs : Cells) (tD nt : Addr) (rep : V) (ls : List V) (tk : List (Key × V)), σ' = [some (.ref b), some (.ref p.D.d), some (.int (p.road : Int)), some (.int p.step), some (.int start), some (.int many), some (.int p.limit), some (.ref p.a), some (.ref p.b), some (.ref p.e), some (.ref l), some (.int xF), some (.int again), none, none] ∧ Hx l = some (.lst us) ∧ RepsAt Hx p.road p.step p.limit L0 us ∧ Acc FC DC CC EC H Hx b PX { p with gs := gs } tD xF2 7 nt rep (L0 ++ rest) ls tk 10, ?_, ?_⟩
    · refine ⟨_, rfl, p.a, p.ax, _, rfl, A4.co.ca, rfl, _, rfl, fun cs C N => ?_⟩
      refine Acc.putA (p := { p with gs := gs }) (rest := rest) (xF := xF2) Wk hroad A4 (by show CsAt p.cl _ _ _; rw [hcl]; exact C) N (by omega) hrl ?_ fun Hy tD' nt rep ls tk ky A => ⟨cs, tD', nt, rep, ls, tk, rfl, ky _ _ (A4.co.out hl hlL.1) hl, hus.kp ky A4.co.soft, A⟩
      rcases hcase with h | ⟨h1, h2, h3⟩
      · exact .inl h
      · obtain ⟨z1, z2⟩ := Prod.mk.inj h3
        subst z1 z2
        exact .inr ⟨h1, h2, (rr cs).1⟩
    clear A4 hus hl
    rintro σ' Hx ⟨gs, tD, nt, rep, ls, tk, rfl, hl, hus, A5⟩
    refine ⟨(by show 0 ≤ sizeLine; omega), fun m hm => ?_⟩
    have km : Kp [] Hx (upd Hx m (.lst [])) := Kp.new hm
    obtain ⟨Hm, em⟩ : ∃ Hm, upd Hx m (.lst []) = Hm := ⟨_, rfl⟩
    have mm : Hm m = some (.lst []) := by rw [← em]; exact upd_same
    rw [em] at km
    have A6 := A5.new km
    have l6 := km _ _ (by simp) hl
    have us6 := hus.kp km fun _ h => nomatch h
    clear A5 hl hus
    rw [em]
    refine ⟨fun σ' Hy => ∃ (m : Addr) (us2 : List V), σ' = [some (.ref b), some (.ref p.D.d), some (.int (p.road : Int)), some (.int p.step), some (.int start), some (.int many), some (.int p.limit), some (.ref p.a), some (.ref p.b), some (.ref p.e), some (.ref l), some (.int xF2), some (.int again), some (.ref m), none] ∧ Hy m = some (.lst us2) ∧ RepsAt Hy p.road p.step p.limit rest us2 ∧ Hy l = some (.lst us) ∧ RepsAt Hy p.road p.step p.limit L0 us ∧ Acc FC DC CC EC H Hy b PX { p with gs := gs } tD xF2 7 nt rep (L0 ++ rest) ls tk 10, ?_, ?_⟩
    · refine ⟨_, rfl, (by show 3 ≤ sizeLine; omega), fun t3 ht3 => ⟨t3, _, rfl, .inr (SqT.of upd_same), rfl, ?_⟩⟩
      have k3 : Kp [] Hm (upd Hm t3 (.tup [.int 0, .int 1, .int 4])) := Kp.new ht3
      have A8 := A6.new k3
      have l8 := k3 _ _ (by simp) l6
      have us8 := us6.kp k3 fun _ h => nomatch h
      have m8 := k3 _ _ (by simp) mm
      refine ⟨rfl, _, rfl, ?_⟩
      rw [in014 p.road hroad]
      by_cases c : p.road = 2 ∨ p.road = 3
      · rw [decide_eq_false (fun h => h c)]
        refine iteF ⟨_, rfl, m, [], ?_⟩
        rcases hcase with ⟨_, h2, h3⟩ | ⟨h1, _⟩
        · subst h2 h3
          exact ⟨rfl, m8, rfl, l8, us8, A8⟩
        · exact absurd c h1
      · rw [decide_eq_true c]
        refine iteT ⟨_, rfl, _, rfl, rfl, ?_⟩
        by_cases c2 : again = xF
        · rw [neT c2]
          refine ⟨_, rfl, iteF ⟨_, rfl, m, [], ?_⟩⟩
          rcases hcase with ⟨_, h2, h3⟩ | ⟨_, h1, _⟩
          · subst h2 h3
            exact ⟨rfl, m8, rfl, l8, us8, A8⟩
          · exact absurd c2 h1
        · rw [neF c2]
          have h3 : (rest, xF2) = (L1, xF1) := by
            rcases hcase with ⟨h1, _⟩ | ⟨_, _, h3⟩
            · exact absurd h1 (fun h => h.elim (fun h => c (.inl h)) fun h => h.elim (fun h => c (.inr h)) c2)
            · exact h3
          refine ⟨_, rfl, iteT ⟨_, rfl, _, rfl, _, rfl, _, rfl, again, p.step, p.limit, p.road, rfl, hroad, fun Hy t l2 us2 ky ht hl2 tH lH R => ?_⟩⟩
          rw [hrun1, ← h3] at tH R
          exact ⟨t, _, rfl, SqT.of tH, rfl, _, _, rfl, _, _, rfl, rfl, l2, us2, rfl, lH, R, ky _ _ (by simp) l8, us8.kp ky (fun _ h => nomatch h), A8.new ky⟩
    rintro σ' Hy ⟨m, us2, rfl, hm, hus2, hl, hus, A7⟩
    refine ⟨_, rfl, p.D.d, p.D.dx, _, rfl, A7.co.hd, fun q hq => ?_⟩
    have kq : Kp [] Hy (upd Hy q (.lst [])) := Kp.new hq
    have lAt : LogAt FC DC Hy p.D.d p.D.lL ls := ⟨p.D.dx, p.D.f, p.D.fx, _, A7.co.hd, A7.co.hf, rfl, A7.co.log⟩
    refine ⟨p.D.d, p.D.lL, ls, rfl, lAt.kp kq, fun it hit => ?_⟩
    have kit : Kp [] (upd Hy q (.lst [])) (upd (upd Hy q (.lst [])) it (ItO p.D.lL it 0)) := Kp.new hit
    have kk := kq.trans kit
    have nql : p.D.lL ≠ q := fun e => by have := A7.co.log; rw [e, hq] at this; cases this
    have nqi : it ≠ q := fun e => by rw [e, upd_same] at hit; cases hit
    refine ⟨it, p.D.lL, p.D.dx, _, ls, rfl, upd_same, kk _ _ (by simp) A7.co.log, by have := A7.co.ll; omega, nql, kit _ _ (by simp) upd_same, kk _ _ (by simp) A7.co.hd, p.D.d, p.D.lL, ls, rfl, lAt.kp kk, rfl, rfl, fun H3 q3 oth => ?_⟩
    have k3 : Kp [] Hy H3 := fun z u _ e => by
      have n1 := ne_of_none e hq
      have n2 : z ≠ it := fun y => by rw [y] at e; rw [upd_ne nqi] at hit; rw [hit] at e; cases e
      rw [oth z n1 n2, upd_ne n2, upd_ne n1]; exact e
    have A3 := A7.new k3
    have l3 := k3 _ _ (by simp) hl
    have m3 := k3 _ _ (by simp) hm
    have nt3 : ∀ q ∈ ([] : List Addr), ∀ ys, Hy q ≠ some (.tup ys) := fun _ h => nomatch h
    have R3 : RepsAt H3 p.road p.step p.limit (L0 ++ rest) (us ++ us2) := RepsAt.app (hus2.kp k3 nt3) (hus.kp k3 nt3)
    have len0 := R3.len
    have lenU : (us ++ us2).length ≤ 201 := by rw [len0, List.length_append]; omega
    refine ⟨_, rfl, _, rfl, l, m, us, us2, rfl, rfl, l3, m3, by rw [← List.length_append]; omega, fun ct hct => ?_⟩
    have kc : Kp [] H3 (upd H3 ct (.lst (us ++ us2))) := Kp.new hct
    obtain ⟨Hc, ec⟩ : ∃ Hc, upd H3 ct (.lst (us ++ us2)) = Hc := ⟨_, rfl⟩
    have c5 : Hc ct = some (.lst (us ++ us2)) := by rw [← ec]; exact upd_same
    rw [ec] at kc
    have Rc := R3.kp kc fun _ h => nomatch h
    rw [ec]
    refine ⟨ct, rfl, ⟨us ++ us2, SqL.of c5⟩, fun q2 hq2 => ?_⟩
    refine lc_it walk_list (fun i H' => ∃ acc : List V, H' q2 = some (.lst acc) ∧ Kp [] Hc H' ∧ LogE p H' ((L0 ++ rest).take i) acc) ⟨[], upd_same, Kp.new hq2, rfl⟩ (fun i H' _ ⟨_, _, kk, _⟩ => SqL.of (kk _ _ (by simp) c5)) ?_ ?_
    · rintro i x H4 H5 hi ⟨acc, ha, k4, hL⟩ ⟨rfl, hx⟩
      obtain ⟨y, hy, hr⟩ := Rc.get hx
      have hr := hr.kp k4 fun _ h => nomatch h
      have kt : ∀ t, H5 t = none → Kp [] H5 (upd H5 t (.tup [.str "e", x])) := fun t ht => Kp.new ht
      refine ⟨rfl, ?_⟩
      refine ⟨_, rfl, (by show 2 ≤ sizeLine; omega), fun t ht => ⟨acc, kt t ht _ _ (by simp) ha, ?_, acc ++ [.ref t], upd_same, (k4.trans (kt t ht)).wr hq2, ?_⟩⟩
      · have := hL.len
        rw [List.length_take] at this
        omega
      · have e1 : (L0 ++ rest).take (i + 1) = (L0 ++ rest).take i ++ [y] := by rw [List.take_succ, hy]; rfl
        rw [e1]
        have k5 : Kp [q2] H5 (upd (upd H5 t (.tup [.str "e", x])) q2 (.lst (acc ++ [V.ref t]))) := fun z u nz e => by
          rw [upd_ne (by simpa using nz)]; exact kt t ht z u (by simp) e
        have s5 : ∀ q ∈ [q2], ∀ ys, H5 q ≠ some (.tup ys) := fun q hq ys hy => by rw [List.mem_singleton.mp hq, ha] at hy; cases hy
        exact LogE.snoc (v := x) (by rw [upd_ne (ne_of_none ha ht).symm]; exact upd_same) (hr.kp k5 s5) (hL.kp k5 s5)
    · rintro H4 ⟨acc, ha, k4, hL⟩
      rw [len0, List.take_length] at hL
      have k34 := kc.trans k4
      have A4 := A3.new k34
      have l4 := k34 _ _ (by simp) l3
      have m4 := k34 _ _ (by simp) m3
      have R4 := R3.kp k34 fun _ h => nomatch h
      obtain ⟨dd, ee, g1, g2, g3, g4, g5⟩ := log_go (K := K) (H' := H4) A4.co.lg.gs hL (k34 _ _ (by simp) q3) ha
      refine ⟨dd, ee, g1, g2, g3, g4, ?_⟩
      rw [g5]
      refine ⟨true, rfl, iteT ?_⟩
      refine ⟨_, rfl, p.a, p.ax, _, rfl, A4.co.ca, p.a, p.ax, p.D.f, p.D.fx, "a", xF2, _, rfl, A4.co.ca, A4.co.hf, rfl, rfl, _, rfl, rfl, ?_⟩
      rw [decide_eq_true (rfl : V.int xF2 = V.int xF2)]
      refine ⟨true, rfl, iteT ?_⟩
      refine ⟨_, rfl, p.e, EC, p.ex, _, _, rfl, A4.co.me, L.TE.cl, L.TE.no _ (by simp), rfl, _, rfl, _, rfl, l, m, us, us2, rfl, rfl, l4, m4, by rw [← List.length_append]; omega, fun cu hcu => ?_⟩
      have k5 : Kp [] H4 (upd H4 cu (.lst (us ++ us2))) := Kp.new hcu
      obtain ⟨ys, x, ex, hx⟩ := A4.co.la
      obtain ⟨v, hv, hr⟩ := R4.last ex
      have A5 := A4.new k5
      have d1 : Dp K _ rep (repD p.road x (mn p.limit (x + p.step))) := (hx.kp k5 fun _ h => nomatch h).dp (K := K)
      have d2 := (hr.kp k5 fun _ h => nomatch h).dp (K := K)
      refine ⟨_, rfl, cu, us ++ us2, -1, v, rfl, rfl, SqL.of upd_same, hv, _, _, d1, d2, repD_sh _ _ _, repD_sh _ _ _, ?_⟩
      rw [(repD_ok p.road x (mn p.limit (x + p.step))).1]
      exact k _ A5.kp A5.co.tab A5.tX
end
end My

set_option Elab.async false
set_option linter.all false
set_option maxRecDepth 100000
set_option maxHeartbeats 8000000
/-! E13: the law; promises carry on. -/
namespace My
open PySem PySem.Spec PyProof.Rows L2 LamX NdefX
def spLaw (K : PySem.W.Frag) (PT PX : Addr) : Sp := fun vs H Q _ => ∃ (a : Addr) (ns : List Int), vs = [.ref a] ∧ SqL K H a (ns.map V.int) ∧ ns.length ≤ 63 ∧ TabS H PT qY ∧ TabS H PX qX ∧ ∀ H', Q (.bl true) H'
section
variable {P : Program} {w : World} {K : PySem.W.Frag} {mg : Str → Option Value} {base : Heap}
abbrev sLaw : Stmt := (top 26)
theorem scLaw : FnScope ["_law_script", "_law_at"] ["_law_script"] (defScope sLaw) := ⟨rfl, rfl, rfl, by decide +kernel, rfl, by decide +kernel, by decide +kernel⟩
theorem sqL_kp {H H' : Hp} {a PT PX : Addr} {xs : List V} (h : SqL K H a xs) (k : Kp [PT, PX] H H') (ht : ∃ ps, H PT = some (.tbl ps)) (hx : ∃ ps, H PX = some (.tbl ps)) : SqL K H' a xs := by
  obtain ⟨ps, hp⟩ := ht
  obtain ⟨px, hq⟩ := hx
  have no : ∀ {o : HO}, (∀ ps, o ≠ .tbl ps) → H a = some o → a ∉ [PT, PX] := fun n h e => by
    simp only [List.mem_cons, List.mem_nil_iff, or_false] at e
    rcases e with e | e
    · rw [e, hp] at h; cases h; exact n _ rfl
    · rw [e, hq] at h; cases h; exact n _ rfl
  rcases h with (h | ⟨od, h⟩) | h
  · exact .inl (.inl (k _ _ (no (fun _ z => by cases z) h) h))
  · exact .inl (.inr ⟨od, k _ _ (no (fun _ z => by cases z) h) h⟩)
  · exact .inr h
theorem ok_law {f fG fR PT PX : Addr} {fd dG dR : FuncData} (F : Fun K "law" "law" sLaw f fd) (B : Bt mg) (G : LD P w K mg base "_law_bag" 1 ["_law_script", "_law_at"] (spBag K) fG dG) (R : LD P w K mg base "_law_right" 14 ["_law_bag_here"] (spRight PT PX) fR dR) : FnOk P w K mg base CX0 15 f fd ["_law_script"] (spLaw K PT PX) := by
  refine F.ok scLaw (fun vs H Q E h => ?_) (fun cdv A outer s H vs Q E hr h => ?_)
  · obtain ⟨a, ns, rfl, _⟩ := h
    rfl
  · obtain ⟨a, ns, rfl, hS, hl, hT, hX, k⟩ := h
    have nd := scLaw.nd
    have h1 := hr.mono (by decide : 1 ≤ 14)
    have tP : ∃ ps, H PT = some (.tbl ps) := let ⟨ps, h, _⟩ := hT; ⟨ps, h⟩
    have tQ : ∃ ps, H PX = some (.tbl ps) := let ⟨ps, h, _⟩ := hX; ⟨ps, h⟩
    refine ⟨_, pss_cons (ps_for PassesOwn.never rfl (pi_range1 rfl B.range (pa_cons (pe_callB (call_max2 rfl) (by rfl) B.max boot_max (pa_cons pe_int (pa_cons (pe_callB (call_min2 rfl) (by rfl) B.min boot_min (pa_cons pe_int (pa_cons (pe_callB call_len (by rfl) B.len PySem.boot_len (pa_cons (pv 0) pa_nil)) pa_nil))) pa_nil))) pa_nil)) (pg_name (i := 1) nd rfl (Or.inl rfl))
        (pss_one (ps_if (pt_not (pt_val (pe_call R.o hr (by rfl) R.a.g R.a.k R.b .nil pass0 (pa_cons (pe_call G.o h1 (by rfl) G.a.g G.a.k G.b .nil pass0 (pa_cons (pv 0) (pa_cons (pv 1) pa_nil))) pa_nil)))) (pss_one (ps_ret pe_bl)) pss_nil)))
      (pss_one (ps_ret pe_bl)), ?_⟩
    obtain ⟨n, hn, n0, n4⟩ : ∃ n : Int, (if (if ((ns.map V.int).length : Int) < 4 then ((ns.map V.int).length : Int) else 4) > 1 then (if ((ns.map V.int).length : Int) < 4 then ((ns.map V.int).length : Int) else 4) else 1) = n ∧ 0 ≤ n ∧ n ≤ 4 := ⟨_, rfl, by split <;> (try split) <;> omega, by split <;> (try split) <;> omega⟩
    refine ⟨_, rfl, _, _, rfl, .inl ⟨_, hS, rfl⟩, _, _, rfl, _, _, rfl, n, by rw [← hn], by omega, by omega, for_range (lo := 0) (n := n.toNat) (fun i σ H' => ∃ v1, σ = [some (.ref a), v1] ∧ Kp [PT, PX] H H' ∧ TabS H' PT qY ∧ TabS H' PX qX) ⟨none, rfl, Kp.refl H, hT, hX⟩ ?_ ?_⟩
    · rintro i σ H1 hi ⟨v1, rfl, k1, t1, x1⟩
      refine ⟨_, rfl, _, rfl, a, ns, _, rfl, sqL_kp hS k1 tP tQ, by omega, by omega, fun H2 b k2 hb hB => ⟨b, rfl, hB, tabs_kp t1 k2 (fun _ h => nomatch h), tabs_kp x1 k2 (fun _ h => nomatch h), fun H3 k3 t3 x3 => ⟨_, rfl, iteF ⟨_, rfl, ?_, t3, x3⟩⟩⟩⟩
      refine k1.trans (fun q o nq e => k3 q o (fun hm => ?_) (k2 q o (by simp) e))
      simp only [List.mem_cons, List.mem_nil_iff, or_false] at hm
      rcases hm with z | z | z
      · rw [z, hb] at e; cases e
      · exact nq (by rw [z]; simp)
      · exact nq (by rw [z]; simp)
    · rintro σ H1 ⟨v1, rfl, k1, t1, x1⟩
      exact k H1
variable {FC DC CC RC EC : Addr}
theorem upD_dueE (H : Hp) (f : Addr) (Q Q' : VK) (h : spDueE FC EC CC [.ref f] H Q E0) (i : ∀ v H', Q v H' → Q' v H') : spDueE FC EC CC [.ref f] H Q' E0 := by
  obtain ⟨f, fx, sD, eL, fs, src, cs, es, e, h1, h2, h3, h4, h5, k⟩ := h
  exact ⟨f, fx, sD, eL, fs, src, cs, es, e, h1, h2, h3, h4, h5, fun H' p a b c => i _ _ (k H' p a b c)⟩
theorem upR_runE {n : Nat} (H : Hp) (f : Addr) (Q Q' : VK) (h : spRunE P w K mg base FC EC RC n [.ref f] H Q E0) (i : ∀ v H', Q v H' → Q' v H') : spRunE P w K mg base FC EC RC n [.ref f] H Q' E0 := by
  obtain ⟨a, ax, f, fx, nt, wk, lL, fs, z, rep, n, o, e, ha, hf, hl, hb, hc, hlog0, hlog, hlen, naf, nla, nlf, hw, W⟩ := h
  refine ⟨a, ax, f, fx, nt, wk, lL, fs, z, rep, n, o, e, ha, hf, hl, hb, hc, hlog0, hlog, hlen, naf, nla, nlf, hw, fun H1 r rx nt' a1 a2 a3 a4 a5 a6 a7 a8 => workCall_mono (W H1 r rx nt' a1 a2 a3 a4 a5 a6 a7 a8) ?_⟩
  rintro v H2 ⟨b1, b2, b3, ls, b4, b5, k⟩
  exact ⟨b1, b2, b3, ls, b4, b5, fun H3 t c1 c2 c3 c4 c5 c6 => i _ _ (k H3 t c1 c2 c3 c4 c5 c6)⟩
theorem upS_settle {spD spR : Sp} (upD : ∀ H f (Q Q' : VK), spD [.ref f] H Q E0 → (∀ v H', Q v H' → Q' v H') → spD [.ref f] H Q' E0) (H : Hp) (f : Addr) (Q Q' : VK) (h : spSettleE FC EC spD spR [.ref f] H Q E0) (i : ∀ v H', Q v H' → Q' v H') : spSettleE FC EC spD spR [.ref f] H Q' E0 := by
  obtain ⟨f, fx, e, h⟩ := h
  refine ⟨f, fx, e, h.imp (fun ⟨fs, r, h1, h2, q⟩ => ⟨fs, r, h1, h2, i _ _ q⟩) ?_⟩
  rintro ⟨nD, cD, sD, eL, lL, t0, hf, I, h0, hI⟩
  refine ⟨nD, cD, sD, eL, lL, t0, hf, I, h0, fun m H1 hm => ⟨(hI m H1 hm).1, upD _ _ _ _ (hI m H1 hm).2 ?_⟩⟩
  rintro v H2 ⟨p, ds, ev, hp, q⟩
  refine ⟨p, ds, ev, hp, ?_⟩
  cases ds with
  | nil => exact i _ _ q
  | cons a r => exact q
theorem upS_SR (H : Hp) (f : Addr) (Q Q' : VK) (h : spSR FC [.ref f] H Q E0) (i : ∀ v H', Q v H' → Q' v H') : spSR FC [.ref f] H Q' E0 := by
  obtain ⟨f, fx, fs, r, e, h1, h2, q⟩ := h
  exact ⟨f, fx, fs, r, e, h1, h2, i _ _ q⟩
theorem upP_PR (H : Hp) (vs : List V) (Q Q' : VK) (h : spPR FC CC RC vs H Q E0) (i : ∀ v H', Q v H' → Q' v H') : spPR FC CC RC vs H Q' E0 := by
  obtain ⟨a, ax, f, fx, tD, z, v0, v, fs, o, tk, e, h1, h2, h3, h4, h5, h6, h7, h8, h9, h10, k⟩ := h
  exact ⟨a, ax, f, fx, tD, z, v0, v, fs, o, tk, e, h1, h2, h3, h4, h5, h6, h7, h8, h9, h10, fun H' tk' b1 b2 b3 b4 => upS_SR _ _ _ _ (k H' tk' b1 b2 b3 b4) fun _ _ q => i _ _ q⟩
end
end My

set_option Elab.async false
set_option linter.all false
set_option maxRecDepth 100000
set_option maxHeartbeats 8000000
/-! E14: from the written part to the promise. -/
namespace My
open PySem PySem.Spec PyProof.Rows L2 LamX NdefX
def noB (K : PySem.W.Frag) (C : Addr) (f : Str) : Bool := decide (PySem.W.findIn K (.ref C) f = some none)
theorem no_of {K : PySem.W.Frag} {C : Addr} {f : Str} (h : noB K C f = true) : PySem.W.findIn K (.ref C) f = some none := of_decide_eq_true h
def btB (K : PySem.W.Frag) : Bool := [("int" : Str), ("len" : Str), ("abs" : Str), ("list" : Str), ("str" : Str), ("range" : Str), ("enumerate" : Str), ("isinstance" : Str), ("tuple" : Str), ("set" : Str), ("all" : Str), ("any" : Str), ("max" : Str), ("min" : Str), ("sorted" : Str), ("bool" : Str), ("iter" : Str)].all fun x => decide (PySem.W.nsIn K mainGlobals x = some none)
theorem bt_of {K : PySem.W.Frag} {h : Heap} {mg : Str → Option Value} (X : K.In h) (G : h.Ns mainGlobals mg) (b : btB K = true) : Bt mg ∧ mg "iter" = none := by
  have go : ∀ x ∈ [("int" : Str), ("len" : Str), ("abs" : Str), ("list" : Str), ("str" : Str), ("range" : Str), ("enumerate" : Str), ("isinstance" : Str), ("tuple" : Str), ("set" : Str), ("all" : Str), ("any" : Str), ("max" : Str), ("min" : Str), ("sorted" : Str), ("bool" : Str), ("iter" : Str)], mg x = none := fun x hx => PySem.W.mg_none_of X G (of_decide_eq_true (List.all_eq_true.mp b x hx))
  exact ⟨⟨go _ (by simp), go _ (by simp), go _ (by simp), go _ (by simp), go _ (by simp), go _ (by simp), go _ (by simp), go _ (by simp), go _ (by simp), go _ (by simp), go _ (by simp), go _ (by simp), go _ (by simp), go _ (by simp), go _ (by simp), go _ (by simp)⟩, go _ (by simp)⟩
/-- a look at an own class -/
def clsB (K : PySem.W.Frag) (C : Addr) (fs : List Str) : Bool := PySem.W.plainGet K C Str.empty && (PySem.W.hasDictIn K C && (PySem.W.plainOver K C && (decide (PySem.W.findIn K (.ref C) "__setattr__" = some (some (.builtin "object.__setattr__"))) && fs.all fun f => noB K C f)))
theorem cls_of {K : PySem.W.Frag} {C : Addr} {fs : List Str} (h : clsB K C fs = true) : Cls K C ∧ ∀ f ∈ fs, NoAttr K C f := by
  unfold clsB at h
  simp only [Bool.and_eq_true, decide_eq_true_eq] at h
  obtain ⟨h1, h2, h3, h4, h5⟩ := h
  exact ⟨⟨h1, h2, h3, h4⟩, fun f hf => no_of (List.all_eq_true.mp h5 f hf)⟩
theorem all_mk {l : PySem.W.OpenLaw} {w : World} {K : PySem.W.Frag} {h : Heap} {mg : Str → Option Value} {fa : Addr} (X : K.In h) (G : h.Ns mainGlobals mg) (hfa : mg "law" = some (.ref fa)) {cW PT cR PX : Addr} {f_bag : Addr} {od_bag an_bag : Option Addr} {sl_bag : Array (Option Value)} {oc_bag kV_bag dc_bag pm_bag cd_bag ct_bag : Value} {f_take : Addr} {od_take an_take : Option Addr} {sl_take : Array (Option Value)} {oc_take kV_take dc_take pm_take cd_take ct_take : Value} {f_of : Addr} {od_of an_of : Option Addr} {sl_of : Array (Option Value)} {oc_of kV_of dc_of pm_of cd_of ct_of : Value} {f_up : Addr} {od_up an_up : Option Addr} {sl_up : Array (Option Value)} {oc_up kV_up dc_up pm_up cd_up ct_up : Value} {f_work : Addr} {od_work an_work : Option Addr} {sl_work : Array (Option Value)} {oc_work kV_work dc_work pm_work ct_work : Value} {f_due : Addr} {od_due an_due : Option Addr} {sl_due : Array (Option Value)} {oc_due kV_due dc_due pm_due cd_due ct_due : Value} {f_right : Addr} {od_right an_right : Option Addr} {sl_right : Array (Option Value)} {oc_right kV_right dc_right pm_right ct_right : Value} {f_law : Addr} {od_law an_law : Option Addr} {sl_law : Array (Option Value)} {oc_law kV_law dc_law pm_law cd_law ct_law : Value} {FC : Addr} {DC : Addr} {CC : Addr} {RC : Addr} {EC : Addr} {f_fI : Addr} {od_fI an_fI : Option Addr} {sl_fI : Array (Option Value)} {oc_fI kV_fI dc_fI pm_fI cd_fI ct_fI : Value} {f_fP : Addr} {od_fP an_fP : Option Addr} {sl_fP : Array (Option Value)} {oc_fP kV_fP dc_fP pm_fP cd_fP ct_fP : Value} {f_fN : Addr} {od_fN an_fN : Option Addr} {sl_fN : Array (Option Value)} {oc_fN kV_fN dc_fN pm_fN cd_fN ct_fN : Value} {f_fT : Addr} {od_fT an_fT : Option Addr} {sl_fT : Array (Option Value)} {oc_fT kV_fT dc_fT pm_fT cd_fT ct_fT : Value} {f_fU : Addr} {od_fU an_fU : Option Addr} {sl_fU : Array (Option Value)} {oc_fU kV_fU dc_fU pm_fU cd_fU ct_fU : Value} {f_fS : Addr} {od_fS an_fS : Option Addr} {sl_fS : Array (Option Value)} {oc_fS kV_fS dc_fS pm_fS cd_fS ct_fS : Value} {f_fB : Addr} {od_fB an_fB : Option Addr} {sl_fB : Array (Option Value)} {oc_fB kV_fB dc_fB pm_fB cd_fB ct_fB : Value} {f_fC : Addr} {od_fC an_fC : Option Addr} {sl_fC : Array (Option Value)} {oc_fC kV_fC dc_fC pm_fC cd_fC ct_fC : Value} {f_fO : Addr} {od_fO an_fO : Option Addr} {sl_fO : Array (Option Value)} {oc_fO kV_fO dc_fO pm_fO cd_fO ct_fO : Value} {f_fQ : Addr} {od_fQ an_fQ : Option Addr} {sl_fQ : Array (Option Value)} {oc_fQ kV_fQ dc_fQ pm_fQ cd_fQ ct_fQ : Value} {f_dI : Addr} {od_dI an_dI : Option Addr} {sl_dI : Array (Option Value)} {oc_dI kV_dI dc_dI pm_dI cd_dI ct_dI : Value} {f_dC : Addr} {od_dC an_dC : Option Addr} {sl_dC : Array (Option Value)} {oc_dC kV_dC dc_dC pm_dC cd_dC ct_dC : Value} {f_dE : Addr} {od_dE an_dE : Option Addr} {sl_dE : Array (Option Value)} {oc_dE kV_dE dc_dE pm_dE cd_dE ct_dE : Value} {f_dQ : Addr} {od_dQ an_dQ : Option Addr} {sl_dQ : Array (Option Value)} {oc_dQ kV_dQ dc_dQ pm_dQ cd_dQ ct_dQ : Value} {f_dL : Addr} {od_dL an_dL : Option Addr} {sl_dL : Array (Option Value)} {oc_dL kV_dL dc_dL pm_dL cd_dL ct_dL : Value} {f_dT : Addr} {od_dT an_dT : Option Addr} {sl_dT : Array (Option Value)} {oc_dT kV_dT dc_dT pm_dT cd_dT ct_dT : Value} {f_cI : Addr} {od_cI an_cI : Option Addr} {sl_cI : Array (Option Value)} {oc_cI kV_cI dc_cI pm_cI cd_cI ct_cI : Value} {f_cC : Addr} {od_cC an_cC : Option Addr} {sl_cC : Array (Option Value)} {oc_cC kV_cC dc_cC pm_cC cd_cC ct_cC : Value} {f_cP : Addr} {od_cP an_cP : Option Addr} {sl_cP : Array (Option Value)} {oc_cP kV_cP dc_cP pm_cP cd_cP ct_cP : Value} {f_cU : Addr} {od_cU an_cU : Option Addr} {sl_cU : Array (Option Value)} {oc_cU kV_cU dc_cU pm_cU cd_cU ct_cU : Value} {f_rI : Addr} {od_rI an_rI : Option Addr} {sl_rI : Array (Option Value)} {oc_rI kV_rI dc_rI pm_rI cd_rI ct_rI : Value} {f_eI : Addr} {od_eI an_eI : Option Addr} {sl_eI : Array (Option Value)} {oc_eI kV_eI dc_eI pm_eI cd_eI ct_eI : Value} {f_eR : Addr} {od_eR an_eR : Option Addr} {sl_eR : Array (Option Value)} {oc_eR kV_eR dc_eR pm_eR cd_eR ct_eR : Value} {pV : Addr} {rest_pV : List Value} {f_cV : Addr} {od_cV an_cV : Option Addr} {sl_cV : Array (Option Value)} {oc_cV kV_cV dc_cV pm_cV cd_cV ct_cV : Value} {tM : Tok}
    (a_bag : PySem.W.nsIn K mainGlobals "_law_bag" = some (some (.ref f_bag)))
    (l_bag : K.lookup f_bag = some ⟨oc_bag, od_bag, .func (PySem.W.fnOf "_law_bag" "_law_bag" (defArgs sBag) (defBody sBag) (defScope sBag) .none kV_bag dc_bag pm_bag an_bag cd_bag ct_bag), sl_bag⟩)
    (c_bag : PySem.W.codeIn K cd_bag "_law_bag" = true)
    (k_bag : PySem.W.keepIn K (.ref f_bag) = true)
    (a_take : PySem.W.nsIn K mainGlobals "_law_take" = some (some (.ref f_take)))
    (l_take : K.lookup f_take = some ⟨oc_take, od_take, .func (PySem.W.fnOf "_law_take" "_law_take" (defArgs sTake) (defBody sTake) (defScope sTake) .none kV_take dc_take pm_take an_take cd_take ct_take), sl_take⟩)
    (c_take : PySem.W.codeIn K cd_take "_law_take" = true)
    (k_take : PySem.W.keepIn K (.ref f_take) = true)
    (a_of : PySem.W.nsIn K mainGlobals "_law_of" = some (some (.ref f_of)))
    (l_of : K.lookup f_of = some ⟨oc_of, od_of, .func (PySem.W.fnOf "_law_of" "_law_of" (defArgs sOf) (defBody sOf) (defScope sOf) .none kV_of dc_of pm_of an_of cd_of ct_of), sl_of⟩)
    (c_of : PySem.W.codeIn K cd_of "_law_of" = true)
    (k_of : PySem.W.keepIn K (.ref f_of) = true)
    (a_up : PySem.W.nsIn K mainGlobals "_law_up" = some (some (.ref f_up)))
    (l_up : K.lookup f_up = some ⟨oc_up, od_up, .func (PySem.W.fnOf "_law_up" "_law_up" (defArgs sUp) (defBody sUp) (defScope sUp) .none kV_up dc_up pm_up an_up cd_up ct_up), sl_up⟩)
    (c_up : PySem.W.codeIn K cd_up "_law_up" = true)
    (k_up : PySem.W.keepIn K (.ref f_up) = true)
    (a_work : PySem.W.nsIn K mainGlobals "_law_work" = some (some (.ref f_work)))
    (l_work : K.lookup f_work = some ⟨oc_work, od_work, .func (PySem.W.fnOf "_law_work" "_law_work" (defArgs sWork) (defBody sWork) (defScope sWork) .none kV_work dc_work pm_work an_work (.ref cW) ct_work), sl_work⟩)
    (c_work : PySem.W.codeIn K (.ref cW) "_law_work" = true)
    (k_work : PySem.W.keepIn K (.ref f_work) = true)
    (a_due : PySem.W.nsIn K mainGlobals "_law_due" = some (some (.ref f_due)))
    (l_due : K.lookup f_due = some ⟨oc_due, od_due, .func (PySem.W.fnOf "_law_due" "_law_due" (defArgs sDueL) (defBody sDueL) (defScope sDueL) .none kV_due dc_due pm_due an_due cd_due ct_due), sl_due⟩)
    (c_due : PySem.W.codeIn K cd_due "_law_due" = true)
    (k_due : PySem.W.keepIn K (.ref f_due) = true)
    (a_right : PySem.W.nsIn K mainGlobals "_law_right" = some (some (.ref f_right)))
    (l_right : K.lookup f_right = some ⟨oc_right, od_right, .func (PySem.W.fnOf "_law_right" "_law_right" (defArgs sRight) (defBody sRight) (defScope sRight) .none kV_right dc_right pm_right an_right (.ref cR) ct_right), sl_right⟩)
    (c_right : PySem.W.codeIn K (.ref cR) "_law_right" = true)
    (k_right : PySem.W.keepIn K (.ref f_right) = true)
    (a_law : PySem.W.nsIn K mainGlobals "law" = some (some (.ref f_law)))
    (l_law : K.lookup f_law = some ⟨oc_law, od_law, .func (PySem.W.fnOf "law" "law" (defArgs sLaw) (defBody sLaw) (defScope sLaw) .none kV_law dc_law pm_law an_law cd_law ct_law), sl_law⟩)
    (c_law : PySem.W.codeIn K cd_law "law" = true)
    (k_law : PySem.W.keepIn K (.ref f_law) = true)
    (hTab1 : h.get? PT = some { cls := .none, data := .fields #[] })
    (nTab1 : K.lookup PT = none)
    (cTab1 : PySem.W.codeHdIn K cW PT = true)
    (hTab2 : h.get? PX = some { cls := .none, data := .fields #[] })
    (nTab2 : K.lookup PX = none)
    (cTab2 : PySem.W.codeHdIn K cR PX = true)
    (nTabs : (PT == PX) = false)
    (g_FC : PySem.W.nsIn K mainGlobals "Floor" = some (some (.ref FC)))
    (kc_FC : PySem.W.keepIn K (.ref FC) = true)
    (mk_FC : PySem.W.makesIn K FC = true)
    (z_FC : clsB K FC ["most_runs", "names", "cells", "sources", "effects", "log", "inmost", "batches", "turned"] = true)
    (g_DC : PySem.W.nsIn K mainGlobals "Desk" = some (some (.ref DC)))
    (kc_DC : PySem.W.keepIn K (.ref DC) = true)
    (mk_DC : PySem.W.makesIn K DC = true)
    (z_DC : clsB K DC ["_floor"] = true)
    (g_CC : PySem.W.nsIn K mainGlobals "Cell" = some (some (.ref CC)))
    (kc_CC : PySem.W.keepIn K (.ref CC) = true)
    (mk_CC : PySem.W.makesIn K CC = true)
    (z_CC : clsB K CC ["name", "_floor", "_now"] = true)
    (g_RC : PySem.W.nsIn K mainGlobals "Run" = some (some (.ref RC)))
    (kc_RC : PySem.W.keepIn K (.ref RC) = true)
    (mk_RC : PySem.W.makesIn K RC = true)
    (z_RC : clsB K RC ["name", "is_of_answer", "outer", "notes", "quiet"] = true)
    (g_EC : PySem.W.nsIn K mainGlobals "Effect" = some (some (.ref EC)))
    (kc_EC : PySem.W.keepIn K (.ref EC) = true)
    (mk_EC : PySem.W.makesIn K EC = true)
    (z_EC : clsB K EC ["name", "report", "runs", "notes", "_floor", "_work"] = true)
    (at_fI : PySem.W.findIn K (.ref FC) "__init__" = some (some (.ref f_fI)))
    (fn_fI : PySem.W.isFn K (.ref f_fI) = true)
    (fi_fI : PySem.W.fnIn K f_fI = true)
    (l_fI : K.lookup f_fI = some ⟨oc_fI, od_fI, .func (PySem.W.fnOf "__init__" "Floor.__init__" (defArgs sInitF) (defBody sInitF) (defScope sInitF) .none kV_fI dc_fI pm_fI an_fI cd_fI ct_fI), sl_fI⟩)
    (c_fI : PySem.W.codeIn K cd_fI "Floor.__init__" = true)
    (k_fI : PySem.W.keepIn K (.ref f_fI) = true)
    (at_fP : PySem.W.findIn K (.ref FC) "check_place" = some (some (.ref f_fP)))
    (fn_fP : PySem.W.isFn K (.ref f_fP) = true)
    (fi_fP : PySem.W.fnIn K f_fP = true)
    (l_fP : K.lookup f_fP = some ⟨oc_fP, od_fP, .func (PySem.W.fnOf "check_place" "Floor.check_place" (defArgs sPlace) (defBody sPlace) (defScope sPlace) .none kV_fP dc_fP pm_fP an_fP cd_fP ct_fP), sl_fP⟩)
    (c_fP : PySem.W.codeIn K cd_fP "Floor.check_place" = true)
    (k_fP : PySem.W.keepIn K (.ref f_fP) = true)
    (at_fN : PySem.W.findIn K (.ref FC) "note" = some (some (.ref f_fN)))
    (fn_fN : PySem.W.isFn K (.ref f_fN) = true)
    (fi_fN : PySem.W.fnIn K f_fN = true)
    (l_fN : K.lookup f_fN = some ⟨oc_fN, od_fN, .func (PySem.W.fnOf "note" "Floor.note" (defArgs sNote) (defBody sNote) (defScope sNote) .none kV_fN dc_fN pm_fN an_fN cd_fN ct_fN), sl_fN⟩)
    (c_fN : PySem.W.codeIn K cd_fN "Floor.note" = true)
    (k_fN : PySem.W.keepIn K (.ref f_fN) = true)
    (at_fT : PySem.W.findIn K (.ref FC) "take_name" = some (some (.ref f_fT)))
    (fn_fT : PySem.W.isFn K (.ref f_fT) = true)
    (fi_fT : PySem.W.fnIn K f_fT = true)
    (l_fT : K.lookup f_fT = some ⟨oc_fT, od_fT, .func (PySem.W.fnOf "take_name" "Floor.take_name" (defArgs sTakeN) (defBody sTakeN) (defScope sTakeN) .none kV_fT dc_fT pm_fT an_fT cd_fT ct_fT), sl_fT⟩)
    (c_fT : PySem.W.codeIn K cd_fT "Floor.take_name" = true)
    (k_fT : PySem.W.keepIn K (.ref f_fT) = true)
    (at_fU : PySem.W.findIn K (.ref FC) "_due" = some (some (.ref f_fU)))
    (fn_fU : PySem.W.isFn K (.ref f_fU) = true)
    (fi_fU : PySem.W.fnIn K f_fU = true)
    (l_fU : K.lookup f_fU = some ⟨oc_fU, od_fU, .func (PySem.W.fnOf "_due" "Floor._due" (defArgs sDue) (defBody sDue) (defScope sDue) .none kV_fU dc_fU pm_fU an_fU cd_fU ct_fU), sl_fU⟩)
    (c_fU : PySem.W.codeIn K cd_fU "Floor._due" = true)
    (k_fU : PySem.W.keepIn K (.ref f_fU) = true)
    (at_fS : PySem.W.findIn K (.ref FC) "settle" = some (some (.ref f_fS)))
    (fn_fS : PySem.W.isFn K (.ref f_fS) = true)
    (fi_fS : PySem.W.fnIn K f_fS = true)
    (l_fS : K.lookup f_fS = some ⟨oc_fS, od_fS, .func (PySem.W.fnOf "settle" "Floor.settle" (defArgs sSettle) (defBody sSettle) (defScope sSettle) .none kV_fS dc_fS pm_fS an_fS cd_fS ct_fS), sl_fS⟩)
    (c_fS : PySem.W.codeIn K cd_fS "Floor.settle" = true)
    (k_fS : PySem.W.keepIn K (.ref f_fS) = true)
    (at_fB : PySem.W.findIn K (.ref FC) "begun" = some (some (.ref f_fB)))
    (fn_fB : PySem.W.isFn K (.ref f_fB) = true)
    (fi_fB : PySem.W.fnIn K f_fB = true)
    (l_fB : K.lookup f_fB = some ⟨oc_fB, od_fB, .func (PySem.W.fnOf "begun" "Floor.begun" (defArgs sBegun) (defBody sBegun) (defScope sBegun) .none kV_fB dc_fB pm_fB an_fB cd_fB ct_fB), sl_fB⟩)
    (c_fB : PySem.W.codeIn K cd_fB "Floor.begun" = true)
    (k_fB : PySem.W.keepIn K (.ref f_fB) = true)
    (at_fC : PySem.W.findIn K (.ref FC) "carry_out" = some (some (.ref f_fC)))
    (fn_fC : PySem.W.isFn K (.ref f_fC) = true)
    (fi_fC : PySem.W.fnIn K f_fC = true)
    (l_fC : K.lookup f_fC = some ⟨oc_fC, od_fC, .func (PySem.W.fnOf "carry_out" "Floor.carry_out" (defArgs sCarry) (defBody sCarry) (defScope sCarry) .none kV_fC dc_fC pm_fC an_fC cd_fC ct_fC), sl_fC⟩)
    (c_fC : PySem.W.codeIn K cd_fC "Floor.carry_out" = true)
    (k_fC : PySem.W.keepIn K (.ref f_fC) = true)
    (at_fO : PySem.W.findIn K (.ref FC) "are_in_order" = some (some (.ref f_fO)))
    (fn_fO : PySem.W.isFn K (.ref f_fO) = true)
    (fi_fO : PySem.W.fnIn K f_fO = true)
    (l_fO : K.lookup f_fO = some ⟨oc_fO, od_fO, .func (PySem.W.fnOf "are_in_order" "Floor.are_in_order" (defArgs sOrd) (defBody sOrd) (defScope sOrd) .none kV_fO dc_fO pm_fO an_fO cd_fO ct_fO), sl_fO⟩)
    (c_fO : PySem.W.codeIn K cd_fO "Floor.are_in_order" = true)
    (k_fO : PySem.W.keepIn K (.ref f_fO) = true)
    (at_fQ : PySem.W.findIn K (.ref FC) "in_quiet" = some (some (.ref f_fQ)))
    (fn_fQ : PySem.W.isFn K (.ref f_fQ) = true)
    (fi_fQ : PySem.W.fnIn K f_fQ = true)
    (l_fQ : K.lookup f_fQ = some ⟨oc_fQ, od_fQ, .func (PySem.W.fnOf "in_quiet" "Floor.in_quiet" (defArgs sInQ) (defBody sInQ) (defScope sInQ) .none kV_fQ dc_fQ pm_fQ an_fQ cd_fQ ct_fQ), sl_fQ⟩)
    (c_fQ : PySem.W.codeIn K cd_fQ "Floor.in_quiet" = true)
    (k_fQ : PySem.W.keepIn K (.ref f_fQ) = true)
    (at_dI : PySem.W.findIn K (.ref DC) "__init__" = some (some (.ref f_dI)))
    (fn_dI : PySem.W.isFn K (.ref f_dI) = true)
    (fi_dI : PySem.W.fnIn K f_dI = true)
    (l_dI : K.lookup f_dI = some ⟨oc_dI, od_dI, .func (PySem.W.fnOf "__init__" "Desk.__init__" (defArgs sInitD) (defBody sInitD) (defScope sInitD) .none kV_dI dc_dI pm_dI an_dI cd_dI ct_dI), sl_dI⟩)
    (c_dI : PySem.W.codeIn K cd_dI "Desk.__init__" = true)
    (k_dI : PySem.W.keepIn K (.ref f_dI) = true)
    (at_dC : PySem.W.findIn K (.ref DC) "cell" = some (some (.ref f_dC)))
    (fn_dC : PySem.W.isFn K (.ref f_dC) = true)
    (fi_dC : PySem.W.fnIn K f_dC = true)
    (l_dC : K.lookup f_dC = some ⟨oc_dC, od_dC, .func (PySem.W.fnOf "cell" "Desk.cell" (defArgs sCellD) (defBody sCellD) (defScope sCellD) .none kV_dC dc_dC pm_dC an_dC cd_dC ct_dC), sl_dC⟩)
    (c_dC : PySem.W.codeIn K cd_dC "Desk.cell" = true)
    (k_dC : PySem.W.keepIn K (.ref f_dC) = true)
    (at_dE : PySem.W.findIn K (.ref DC) "effect" = some (some (.ref f_dE)))
    (fn_dE : PySem.W.isFn K (.ref f_dE) = true)
    (fi_dE : PySem.W.fnIn K f_dE = true)
    (l_dE : K.lookup f_dE = some ⟨oc_dE, od_dE, .func (PySem.W.fnOf "effect" "Desk.effect" (defArgs sEffD) (defBody sEffD) (defScope sEffD) .none kV_dE dc_dE pm_dE an_dE cd_dE ct_dE), sl_dE⟩)
    (c_dE : PySem.W.codeIn K cd_dE "Desk.effect" = true)
    (k_dE : PySem.W.keepIn K (.ref f_dE) = true)
    (at_dQ : PySem.W.findIn K (.ref DC) "quietly" = some (some (.ref f_dQ)))
    (fn_dQ : PySem.W.isFn K (.ref f_dQ) = true)
    (fi_dQ : PySem.W.fnIn K f_dQ = true)
    (l_dQ : K.lookup f_dQ = some ⟨oc_dQ, od_dQ, .func (PySem.W.fnOf "quietly" "Desk.quietly" (defArgs sQuietly) (defBody sQuietly) (defScope sQuietly) .none kV_dQ dc_dQ pm_dQ an_dQ cd_dQ ct_dQ), sl_dQ⟩)
    (c_dQ : PySem.W.codeIn K cd_dQ "Desk.quietly" = true)
    (k_dQ : PySem.W.keepIn K (.ref f_dQ) = true)
    (at_dL : PySem.W.findIn K (.ref DC) "__len__" = some (some (.ref f_dL)))
    (fn_dL : PySem.W.isFn K (.ref f_dL) = true)
    (fi_dL : PySem.W.fnIn K f_dL = true)
    (l_dL : K.lookup f_dL = some ⟨oc_dL, od_dL, .func (PySem.W.fnOf "__len__" "Desk.__len__" (defArgs sLenD) (defBody sLenD) (defScope sLenD) .none kV_dL dc_dL pm_dL an_dL cd_dL ct_dL), sl_dL⟩)
    (c_dL : PySem.W.codeIn K cd_dL "Desk.__len__" = true)
    (k_dL : PySem.W.keepIn K (.ref f_dL) = true)
    (at_dT : PySem.W.findIn K (.ref DC) "__iter__" = some (some (.ref f_dT)))
    (fn_dT : PySem.W.isFn K (.ref f_dT) = true)
    (fi_dT : PySem.W.fnIn K f_dT = true)
    (l_dT : K.lookup f_dT = some ⟨oc_dT, od_dT, .func (PySem.W.fnOf "__iter__" "Desk.__iter__" (defArgs sIterD) (defBody sIterD) (defScope sIterD) .none kV_dT dc_dT pm_dT an_dT cd_dT ct_dT), sl_dT⟩)
    (c_dT : PySem.W.codeIn K cd_dT "Desk.__iter__" = true)
    (k_dT : PySem.W.keepIn K (.ref f_dT) = true)
    (at_cI : PySem.W.findIn K (.ref CC) "__init__" = some (some (.ref f_cI)))
    (fn_cI : PySem.W.isFn K (.ref f_cI) = true)
    (fi_cI : PySem.W.fnIn K f_cI = true)
    (l_cI : K.lookup f_cI = some ⟨oc_cI, od_cI, .func (PySem.W.fnOf "__init__" "Cell.__init__" (defArgs sInitC) (defBody sInitC) (defScope sInitC) .none kV_cI dc_cI pm_cI an_cI cd_cI ct_cI), sl_cI⟩)
    (c_cI : PySem.W.codeIn K cd_cI "Cell.__init__" = true)
    (k_cI : PySem.W.keepIn K (.ref f_cI) = true)
    (at_cC : PySem.W.findIn K (.ref CC) "__call__" = some (some (.ref f_cC)))
    (fn_cC : PySem.W.isFn K (.ref f_cC) = true)
    (fi_cC : PySem.W.fnIn K f_cC = true)
    (l_cC : K.lookup f_cC = some ⟨oc_cC, od_cC, .func (PySem.W.fnOf "__call__" "Cell.__call__" (defArgs sCall) (defBody sCall) (defScope sCall) .none kV_cC dc_cC pm_cC an_cC cd_cC ct_cC), sl_cC⟩)
    (c_cC : PySem.W.codeIn K cd_cC "Cell.__call__" = true)
    (k_cC : PySem.W.keepIn K (.ref f_cC) = true)
    (at_cP : PySem.W.findIn K (.ref CC) "put" = some (some (.ref f_cP)))
    (fn_cP : PySem.W.isFn K (.ref f_cP) = true)
    (fi_cP : PySem.W.fnIn K f_cP = true)
    (l_cP : K.lookup f_cP = some ⟨oc_cP, od_cP, .func (PySem.W.fnOf "put" "Cell.put" (defArgs sPut) (defBody sPut) (defScope sPut) .none kV_cP dc_cP pm_cP an_cP cd_cP ct_cP), sl_cP⟩)
    (c_cP : PySem.W.codeIn K cd_cP "Cell.put" = true)
    (k_cP : PySem.W.keepIn K (.ref f_cP) = true)
    (at_cU : PySem.W.findIn K (.ref CC) "current" = some (some (.ref f_cU)))
    (fn_cU : PySem.W.isFn K (.ref f_cU) = true)
    (fi_cU : PySem.W.fnIn K f_cU = true)
    (l_cU : K.lookup f_cU = some ⟨oc_cU, od_cU, .func (PySem.W.fnOf "current" "Cell.current" (defArgs sCurC) (defBody sCurC) (defScope sCurC) .none kV_cU dc_cU pm_cU an_cU cd_cU ct_cU), sl_cU⟩)
    (c_cU : PySem.W.codeIn K cd_cU "Cell.current" = true)
    (k_cU : PySem.W.keepIn K (.ref f_cU) = true)
    (at_rI : PySem.W.findIn K (.ref RC) "__init__" = some (some (.ref f_rI)))
    (fn_rI : PySem.W.isFn K (.ref f_rI) = true)
    (fi_rI : PySem.W.fnIn K f_rI = true)
    (l_rI : K.lookup f_rI = some ⟨oc_rI, od_rI, .func (PySem.W.fnOf "__init__" "Run.__init__" (defArgs sInitR) (defBody sInitR) (defScope sInitR) .none kV_rI dc_rI pm_rI an_rI cd_rI ct_rI), sl_rI⟩)
    (c_rI : PySem.W.codeIn K cd_rI "Run.__init__" = true)
    (k_rI : PySem.W.keepIn K (.ref f_rI) = true)
    (at_eI : PySem.W.findIn K (.ref EC) "__init__" = some (some (.ref f_eI)))
    (fn_eI : PySem.W.isFn K (.ref f_eI) = true)
    (fi_eI : PySem.W.fnIn K f_eI = true)
    (l_eI : K.lookup f_eI = some ⟨oc_eI, od_eI, .func (PySem.W.fnOf "__init__" "Effect.__init__" (defArgs sInitE) (defBody sInitE) (defScope sInitE) .none kV_eI dc_eI pm_eI an_eI cd_eI ct_eI), sl_eI⟩)
    (c_eI : PySem.W.codeIn K cd_eI "Effect.__init__" = true)
    (k_eI : PySem.W.keepIn K (.ref f_eI) = true)
    (at_eR : PySem.W.findIn K (.ref EC) "run" = some (some (.ref f_eR)))
    (fn_eR : PySem.W.isFn K (.ref f_eR) = true)
    (fi_eR : PySem.W.fnIn K f_eR = true)
    (l_eR : K.lookup f_eR = some ⟨oc_eR, od_eR, .func (PySem.W.fnOf "run" "Effect.run" (defArgs sRunE) (defBody sRunE) (defScope sRunE) .none kV_eR dc_eR pm_eR an_eR cd_eR ct_eR), sl_eR⟩)
    (c_eR : PySem.W.codeIn K cd_eR "Effect.run" = true)
    (k_eR : PySem.W.keepIn K (.ref f_eR) = true)
    (at_pV : PySem.W.findIn K (.ref CC) "value" = some (some (.ref pV)))
    (ge_pV : PySem.W.specialIn K (.ref pV) "__get__" = some (some (.builtin "property.__get__")))
    (tk_pV : PySem.W.takesIn K (.ref pV) = some true)
    (rc_pV : PySem.W.recIn K pV "property" = some (.ref f_cV :: rest_pV))
    (l_cV : K.lookup f_cV = some ⟨oc_cV, od_cV, .func (PySem.W.fnOf "value" "Cell.value" (defArgs sVal) (defBody sVal) (defScope sVal) .none kV_cV dc_cV pm_cV an_cV cd_cV ct_cV), sl_cV⟩)
    (c_cV : PySem.W.codeIn K cd_cV "Cell.value" = true)
    (k_cV : PySem.W.keepIn K (.ref f_cV) = true)
    (co_at : PySem.W.findIn K (.ref DC) "MOST_RUNS" = some (some (.int 100 tM)))
    (co_get : PySem.W.specialIn K (.int 100 tM) "__get__" = some none)
    (z_b : btB K = true) :
    LawAtS l w K CX0 15 63 "_law_script" mg fa h := by
  have e := hfa.symm.trans (PySem.W.mg_of X G a_law)
  cases e
  obtain ⟨B, nI⟩ := bt_of X G z_b
  have F_bag := fun_mk (st := sBag) l_bag c_bag k_bag
  have A_bag : At K mg "_law_bag" f_bag := ⟨PySem.W.mg_of X G a_bag, k_bag⟩
  have b_bag := F_bag.binds (ps := ["_law_script", "_law_at"]) fun _ _ _ _ _ _ us hl => match us, hl with | [_, _], _ => rfl
  have F_take := fun_mk (st := sTake) l_take c_take k_take
  have A_take : At K mg "_law_take" f_take := ⟨PySem.W.mg_of X G a_take, k_take⟩
  have b_take := F_take.binds (ps := ["_law_bag_here", "_law_many"]) fun _ _ _ _ _ _ us hl => match us, hl with | [_, _], _ => rfl
  have F_of := fun_mk (st := sOf) l_of c_of k_of
  have A_of : At K mg "_law_of" f_of := ⟨PySem.W.mg_of X G a_of, k_of⟩
  have b_of := F_of.binds (ps := ["_law_bag_here", "_law_some"]) fun _ _ _ _ _ _ us hl => match us, hl with | [_, _], _ => rfl
  have F_up := fun_mk (st := sUp) l_up c_up k_up
  have A_up : At K mg "_law_up" f_up := ⟨PySem.W.mg_of X G a_up, k_up⟩
  have b_up := F_up.binds (ps := ["_law_cell", "_law_step", "_law_limit"]) fun _ _ _ _ _ _ us hl => match us, hl with | [_, _, _], _ => rfl
  have F_work := fun_mk (st := sWork) l_work c_work k_work
  have A_work : At K mg "_law_work" f_work := ⟨PySem.W.mg_of X G a_work, k_work⟩
  have b_work := F_work.binds (ps := ["_law_desk", "_law_cell", "_law_step", "_law_limit", "_law_road"]) fun _ _ _ _ _ _ us hl => match us, hl with | [_, _, _, _, _], _ => rfl
  have F_due := fun_mk (st := sDueL) l_due c_due k_due
  have A_due : At K mg "_law_due" f_due := ⟨PySem.W.mg_of X G a_due, k_due⟩
  have b_due := F_due.binds (ps := ["_law_start", "_law_step", "_law_limit", "_law_road"]) fun _ _ _ _ _ _ us hl => match us, hl with | [_, _, _, _], _ => rfl
  have F_right := fun_mk (st := sRight) l_right c_right k_right
  have A_right : At K mg "_law_right" f_right := ⟨PySem.W.mg_of X G a_right, k_right⟩
  have b_right := F_right.binds (ps := ["_law_bag_here"]) fun _ _ _ _ _ _ us hl => match us, hl with | [_], _ => rfl
  have F_law := fun_mk (st := sLaw) l_law c_law k_law
  have F_fI := fun_mk (st := sInitF) l_fI c_fI k_fI
  have b_fI := F_fI.binds (ps := ["self", "most_runs"]) fun _ _ _ _ _ _ us hl => match us, hl with | [_, _], _ => rfl
  have M_fI : Meth K FC "__init__" f_fI := ⟨at_fI, fn_fI, k_fI⟩
  have F_fP := fun_mk (st := sPlace) l_fP c_fP k_fP
  have b_fP := F_fP.binds (ps := ["self"]) fun _ _ _ _ _ _ us hl => match us, hl with | [_], _ => rfl
  have M_fP : Meth K FC "check_place" f_fP := ⟨at_fP, fn_fP, k_fP⟩
  have F_fN := fun_mk (st := sNote) l_fN c_fN k_fN
  have b_fN := F_fN.binds (ps := ["self", "name", "worth"]) fun _ _ _ _ _ _ us hl => match us, hl with | [_, _, _], _ => rfl
  have M_fN : Meth K FC "note" f_fN := ⟨at_fN, fn_fN, k_fN⟩
  have F_fT := fun_mk (st := sTakeN) l_fT c_fT k_fT
  have b_fT := F_fT.binds (ps := ["self", "name"]) fun _ _ _ _ _ _ us hl => match us, hl with | [_, _], _ => rfl
  have M_fT : Meth K FC "take_name" f_fT := ⟨at_fT, fn_fT, k_fT⟩
  have F_fU := fun_mk (st := sDue) l_fU c_fU k_fU
  have b_fU := F_fU.binds (ps := ["self"]) fun _ _ _ _ _ _ us hl => match us, hl with | [_], _ => rfl
  have M_fU : Meth K FC "_due" f_fU := ⟨at_fU, fn_fU, k_fU⟩
  have F_fS := fun_mk (st := sSettle) l_fS c_fS k_fS
  have b_fS := F_fS.binds (ps := ["self"]) fun _ _ _ _ _ _ us hl => match us, hl with | [_], _ => rfl
  have M_fS : Meth K FC "settle" f_fS := ⟨at_fS, fn_fS, k_fS⟩
  have F_fB := fun_mk (st := sBegun) l_fB c_fB k_fB
  have b_fB := F_fB.binds (ps := ["self", "name", "is_of_answer"]) fun _ _ _ _ _ _ us hl => match us, hl with | [_, _, _], _ => rfl
  have M_fB : Meth K FC "begun" f_fB := ⟨at_fB, fn_fB, k_fB⟩
  have F_fC := fun_mk (st := sCarry) l_fC c_fC k_fC
  have b_fC := F_fC.binds (ps := ["self", "run", "work"]) fun _ _ _ _ _ _ us hl => match us, hl with | [_, _, _], _ => rfl
  have M_fC : Meth K FC "carry_out" f_fC := ⟨at_fC, fn_fC, k_fC⟩
  have F_fO := fun_mk (st := sOrd) l_fO c_fO k_fO
  have b_fO := F_fO.binds (ps := ["self", "notes"]) fun _ _ _ _ _ _ us hl => match us, hl with | [_, _], _ => rfl
  have M_fO : Meth K FC "are_in_order" f_fO := ⟨at_fO, fn_fO, k_fO⟩
  have F_fQ := fun_mk (st := sInQ) l_fQ c_fQ k_fQ
  have b_fQ := F_fQ.binds (ps := ["self", "work", "given"]) fun _ _ _ _ _ _ us hl => match us, hl with | [_, _, _], _ => rfl
  have M_fQ : Meth K FC "in_quiet" f_fQ := ⟨at_fQ, fn_fQ, k_fQ⟩
  have F_dI := fun_mk (st := sInitD) l_dI c_dI k_dI
  have b_dI := F_dI.binds (ps := ["self"]) fun _ _ _ _ _ _ us hl => match us, hl with | [_], _ => rfl
  have M_dI : Meth K DC "__init__" f_dI := ⟨at_dI, fn_dI, k_dI⟩
  have F_dC := fun_mk (st := sCellD) l_dC c_dC k_dC
  have b_dC := F_dC.binds (ps := ["self", "name", "value"]) fun _ _ _ _ _ _ us hl => match us, hl with | [_, _, _], _ => rfl
  have M_dC : Meth K DC "cell" f_dC := ⟨at_dC, fn_dC, k_dC⟩
  have F_dE := fun_mk (st := sEffD) l_dE c_dE k_dE
  have b_dE := F_dE.binds (ps := ["self", "name", "work"]) fun _ _ _ _ _ _ us hl => match us, hl with | [_, _, _], _ => rfl
  have M_dE : Meth K DC "effect" f_dE := ⟨at_dE, fn_dE, k_dE⟩
  have F_dQ := fun_mk (st := sQuietly) l_dQ c_dQ k_dQ
  have M_dQ : Meth K DC "quietly" f_dQ := ⟨at_dQ, fn_dQ, k_dQ⟩
  have F_dL := fun_mk (st := sLenD) l_dL c_dL k_dL
  have b_dL := F_dL.binds (ps := ["self"]) fun _ _ _ _ _ _ us hl => match us, hl with | [_], _ => rfl
  have M_dL : Meth K DC "__len__" f_dL := ⟨at_dL, fn_dL, k_dL⟩
  have F_dT := fun_mk (st := sIterD) l_dT c_dT k_dT
  have b_dT := F_dT.binds (ps := ["self"]) fun _ _ _ _ _ _ us hl => match us, hl with | [_], _ => rfl
  have M_dT : Meth K DC "__iter__" f_dT := ⟨at_dT, fn_dT, k_dT⟩
  have F_cI := fun_mk (st := sInitC) l_cI c_cI k_cI
  have b_cI := F_cI.binds (ps := ["self", "floor", "name", "value"]) fun _ _ _ _ _ _ us hl => match us, hl with | [_, _, _, _], _ => rfl
  have M_cI : Meth K CC "__init__" f_cI := ⟨at_cI, fn_cI, k_cI⟩
  have F_cC := fun_mk (st := sCall) l_cC c_cC k_cC
  have b_cC := F_cC.binds (ps := ["self"]) fun _ _ _ _ _ _ us hl => match us, hl with | [_], _ => rfl
  have M_cC : Meth K CC "__call__" f_cC := ⟨at_cC, fn_cC, k_cC⟩
  have F_cP := fun_mk (st := sPut) l_cP c_cP k_cP
  have b_cP := F_cP.binds (ps := ["self", "value"]) fun _ _ _ _ _ _ us hl => match us, hl with | [_, _], _ => rfl
  have M_cP : Meth K CC "put" f_cP := ⟨at_cP, fn_cP, k_cP⟩
  have F_cU := fun_mk (st := sCurC) l_cU c_cU k_cU
  have b_cU := F_cU.binds (ps := ["self"]) fun _ _ _ _ _ _ us hl => match us, hl with | [_], _ => rfl
  have M_cU : Meth K CC "current" f_cU := ⟨at_cU, fn_cU, k_cU⟩
  have F_rI := fun_mk (st := sInitR) l_rI c_rI k_rI
  have b_rI := F_rI.binds (ps := ["self", "name", "is_of_answer", "outer"]) fun _ _ _ _ _ _ us hl => match us, hl with | [_, _, _, _], _ => rfl
  have M_rI : Meth K RC "__init__" f_rI := ⟨at_rI, fn_rI, k_rI⟩
  have F_eI := fun_mk (st := sInitE) l_eI c_eI k_eI
  have b_eI := F_eI.binds (ps := ["self", "floor", "name", "work"]) fun _ _ _ _ _ _ us hl => match us, hl with | [_, _, _, _], _ => rfl
  have M_eI : Meth K EC "__init__" f_eI := ⟨at_eI, fn_eI, k_eI⟩
  have F_eR := fun_mk (st := sRunE) l_eR c_eR k_eR
  have b_eR := F_eR.binds (ps := ["self"]) fun _ _ _ _ _ _ us hl => match us, hl with | [_], _ => rfl
  have M_eR : Meth K EC "run" f_eR := ⟨at_eR, fn_eR, k_eR⟩
  have F_cV := fun_mk (st := sVal) l_cV c_cV k_cV
  have b_cV := F_cV.binds (ps := ["self"]) fun _ _ _ _ _ _ us hl => match us, hl with | [_], _ => rfl
  obtain ⟨clF, noF⟩ := cls_of z_FC
  obtain ⟨clD, noD⟩ := cls_of z_DC
  obtain ⟨clC, noC⟩ := cls_of z_CC
  obtain ⟨clR, noR⟩ := cls_of z_RC
  obtain ⟨clE, noE⟩ := cls_of z_EC
  have TF : FlT K FC := ⟨clF, noF⟩
  have TD : DkT K DC := ⟨clD, noD _ (by simp), _, co_at, ⟨_, rfl⟩, co_get, by decide +kernel⟩
  have TC : CeT K CC := ⟨clC, noC⟩
  have TR : RnT K RC := ⟨clR, noR⟩
  have TE : EfT K EC := ⟨clE, noE⟩
  refine ⟨PySem.W.fnOf "law" "law" (defArgs sLaw) (defBody sLaw) (defScope sLaw) .none kV_law dc_law pm_law an_law cd_law ct_law, [(cW, PT), (cR, PX)], spLaw K PT PX, fun p hp => ?_, fun p hp => ?_, fun p hp => ?_, fun s v => .of_eq rfl, fun H a ns hl _ hT hS => ⟨a, ns, rfl, hS, hl, TabS.nil (hT (cW, PT) (by simp)), TabS.nil (hT (cR, PX) (by simp)), fun _ => rfl⟩, fun base _ _ hTB => ?_⟩
  · simp only [List.mem_cons, List.mem_nil_iff, or_false] at hp
    rcases hp with e | e <;> rw [e]
    · exact hTab1
    · exact hTab2
  · simp only [List.mem_cons, List.mem_nil_iff, or_false] at hp
    rcases hp with e | e <;> rw [e]
    · exact nTab1
    · exact nTab2
  · simp only [List.mem_cons, List.mem_nil_iff, or_false] at hp
    rcases hp with e | e <;> rw [e]
    · exact PySem.W.codeHd_of_K X cTab1
    · exact PySem.W.codeHd_of_K X cTab2
  have TBw : TabB base mg cW PT := hTB (cW, PT) (by simp)
  have TBr : TabB base mg cR PX := hTB (cR, PX) (by simp)
  have nP : PT ≠ PX := fun e => by rw [e] at nTabs; simp at nTabs
  have oIF : FnOk l.prog w K mg base CX0 1 _ _ _ _ := ok_initF (FC := FC) F_fI TF
  have mP : MO l.prog w K mg base FC "check_place" 1 ["self"] (spPlace FC) _ _ := ⟨M_fP, b_fP, ok_place F_fP TF⟩
  have mPE : MO l.prog w K mg base FC "check_place" 1 ["self"] (spPlaceE FC RC) _ _ := ⟨M_fP, b_fP, ok_placeE F_fP TF TR⟩
  have mN : MO l.prog w K mg base FC "note" 1 ["self", "name", "worth"] (spNote FC) _ _ := ⟨M_fN, b_fN, ok_note F_fN TF⟩
  have mNR : MO l.prog w K mg base FC "note" 1 ["self", "name", "worth"] (spNoteR FC RC) _ _ := ⟨M_fN, b_fN, ok_noteR F_fN TF TR⟩
  have mNQ : MO l.prog w K mg base FC "note" 1 ["self", "name", "worth"] (spNoteQ FC RC) _ _ := ⟨M_fN, b_fN, ok_noteQ F_fN TF TR⟩
  have mT : MO l.prog w K mg base FC "take_name" 1 ["self", "name"] (spTakeN FC) _ _ := ⟨M_fT, b_fT, ok_takeN F_fT TF⟩
  have oIR : FnOk l.prog w K mg base CX0 1 _ _ _ _ := ok_initR (RC := RC) F_rI TR
  have mB : MO l.prog w K mg base FC "begun" 3 ["self", "name", "is_of_answer"] (spBegun FC RC) _ _ := ⟨M_fB, b_fB, ok_begun F_fB TF ⟨mk_RC, at_rI, fn_rI, kc_RC⟩ (PySem.W.mg_of X G g_RC) oIR b_rI⟩
  have mCu : MO l.prog w K mg base CC "current" 1 ["self"] (spVal CC) _ _ := ⟨M_cU, b_cU, ok_curC F_cU TC⟩
  have mO : MO l.prog w K mg base FC "are_in_order" 2 ["self", "notes"] (spOrd FC CC) _ _ := ⟨M_fO, b_fO, ok_ord F_fO TF TC mCu⟩
  have mDue : MO l.prog w K mg base FC "_due" 11 ["self"] (spDueE FC EC CC) _ _ := ⟨M_fU, b_fU, (ok_dueE F_fU TF TE mO).mono (by decide)⟩
  have mCo : MO l.prog w K mg base FC "carry_out" 10 ["self", "run", "work"] (spCarry l.prog w K mg base FC RC 9) _ _ := ⟨M_fC, b_fC, ok_carry F_fC TF TR⟩
  have mRun : MO l.prog w K mg base EC "run" 11 ["self"] (spRunE l.prog w K mg base FC EC RC 9) _ _ := ⟨M_eR, b_eR, ok_runE (by decide) F_eR TE TF TR mB mCo⟩
  have mRun2 : MO l.prog w K mg base EC "run" 12 ["self"] (spRunE l.prog w K mg base FC EC RC 9) _ _ := ⟨M_eR, b_eR, mRun.o.mono (by decide)⟩
  have mS : MO l.prog w K mg base FC "settle" 12 ["self"] (spS l.prog w K mg base FC CC EC RC) _ _ := ⟨M_fS, b_fS, ok_settleE F_fS TF TE mDue mRun upD_dueE upR_runE⟩
  have mSR : MO l.prog w K mg base FC "settle" 2 ["self"] (spSR FC) _ _ := ⟨M_fS, b_fS, ok_settleR F_fS TF TE M_fU b_fU M_eR b_eR⟩
  have mPutR : MO l.prog w K mg base CC "put" 3 ["self", "value"] (spPR FC CC RC) _ _ := ⟨M_cP, b_cP, ok_putE (by decide) F_cP TC TF mPE mSR upS_SR⟩
  have PV : PO l.prog w K mg base CC pV _ _ := ⟨⟨at_pV, ge_pV, tk_pV, rest_pV, rc_pV⟩, b_cV, ok_val F_cV TC⟩
  have mInQ : MO l.prog w K mg base FC "in_quiet" 6 ["self", "work", "given"] (spInQ l.prog w K mg base FC RC 5) _ _ := ⟨M_fQ, b_fQ, ok_inQ F_fQ TF TR⟩
  have oQ : FnR l.prog w K mg base CX0 7 f_dQ (spQuietly DC FC (spInQ l.prog w K mg base FC RC 5)) := ok_quietly F_dQ TD TF mInQ
  have oIE : FnOk l.prog w K mg base CX0 1 _ _ _ _ := ok_initE (EC := EC) F_eI TE
  have oIC : FnOk l.prog w K mg base CX0 1 _ _ _ _ := ok_initC (CC := CC) F_cI TC
  have oID : FnOk l.prog w K mg base CX0 3 _ _ _ _ := ok_initD (FC := FC) (DC := DC) (CC := CC) F_dI TD ⟨mk_FC, at_fI, fn_fI, kc_FC⟩ (PySem.W.mg_of X G g_FC) oIF b_fI
  have upS := upS_settle (FC := FC) (EC := EC) (spD := spDueE FC EC CC) (spR := spRunE l.prog w K mg base FC EC RC 9) upD_dueE
  have oE : FnOk l.prog w K mg base CX0 13 _ _ ["self", "name", "work"] (spEffD FC DC EC RC (spRunE l.prog w K mg base FC EC RC 9) (spS l.prog w K mg base FC CC EC RC)) := ok_effD (by decide) F_dE TD TF TE mPE mT ⟨mk_EC, at_eI, fn_eI, kc_EC⟩ (PySem.W.mg_of X G g_EC) oIE b_eI mRun2 mS upR_runE upS
  have oP : FnOk l.prog w K mg base CX0 13 _ _ ["self", "value"] (spPutE FC CC RC (spS l.prog w K mg base FC CC EC RC)) := ok_putE (by decide) F_cP TC TF mPE mS upS
  have L0 : LawE l.prog w K mg base FC DC CC RC EC _ _ f_dE f_cP pV _ _ _ _ _ _ _ _ _ _ := {
    B := B
    TD := TD
    TC := TC
    TE := TE
    new := ⟨mk_DC, at_dI, fn_dI, kc_DC⟩
    gD := PySem.W.mg_of X G g_DC
    oD := oID
    bD := b_dI
    cell := ⟨M_dC, b_dC, ok_cellD F_dC TD TF mP mT ⟨mk_CC, at_cI, fn_cI, kc_CC⟩ (PySem.W.mg_of X G g_CC) oIC b_cI⟩
    mE := M_dE
    oE := (oE.raw b_dE .nil).imp fun vs H Q E h => by rw [List.append_nil]; exact h
    mP := M_cP
    oP := (oP.raw b_cP .nil).imp fun vs H Q E h => by rw [List.append_nil]; exact h
    val := PV
    call := ⟨⟨at_cC, fn_cC⟩, fi_cC, b_cC, ok_call F_cC TC TF mN⟩
    len := ⟨⟨at_dL, fn_dL⟩, fi_dL, b_dL, ok_lenG F_dL B TD TF⟩
    iter := ⟨⟨at_dT, fn_dT⟩, fi_dT, b_dT, ok_iterG F_dT nI TD TF⟩ }
  have dT : LD l.prog w K mg base "_law_take" 1 _ spTake _ _ := ⟨A_take, b_take, ok_take F_take B⟩
  have dO : LD l.prog w K mg base "_law_of" 2 _ (spOf K) _ _ := ⟨A_of, b_of, ok_of F_of B A_take b_take dT.o⟩
  have dU : LD l.prog w K mg base "_law_up" 4 _ (spUpL CC (spPR FC CC RC)) _ _ := ⟨A_up, b_up, ok_up (by decide) F_up B TC PV mPutR upP_PR⟩
  have C_work : FunC K "_law_work" "_law_work" sWork f_work _ cW := ⟨oc_work, od_work, kV_work, dc_work, pm_work, an_work, ct_work, sl_work, rfl, l_work, c_work⟩
  have C_right : FunC K "_law_right" "_law_right" sRight f_right _ cR := ⟨oc_right, od_right, kV_right, dc_right, pm_right, an_right, ct_right, sl_right, rfl, l_right, c_right⟩
  have dW : LD l.prog w K mg base "_law_work" 8 _ (spWork FC DC CC RC PT) _ _ := ⟨A_work, b_work, ok_work C_work TBw TC TD TF dU ⟨⟨at_cC, fn_cC⟩, fi_cC, b_cC, fnOk_or (ok_callR F_cC TC TF mNR) (ok_callQ F_cC TC TF mNQ)⟩ PV M_dQ oQ⟩
  have dDu : LD l.prog w K mg base "_law_due" 1 _ spDueL _ _ := ⟨A_due, b_due, ok_dueL F_due B⟩
  have dR : LD l.prog w K mg base "_law_right" 14 _ (spRight PT PX) _ _ := ⟨A_right, b_right, ok_right C_right TBr nP L0 dT dO dW dDu⟩
  exact ok_law F_law B ⟨A_bag, b_bag, ok_bag F_bag B⟩ dR
theorem walk {l : PySem.W.OpenLaw} {q : Program} {loose : List Str} {XP : (Str → Option Value) → Heap → Prop} {YP : World → Heap → Prop} {d : DefRec} {K : Params → PySem.W.Frag} (hn : l.most = some 63) (hdf : d.params.defaults = []) (hY : ∀ (w : World) (h : Heap), YP w h → (K w.params).In h)
    (F : ∀ (w : World) (mg : Str → Option Value) (fa : Addr) (h : Heap), YP w h → (K w.params).In h → h.Ns mainGlobals mg → mg d.name = some (.ref fa) → LawAtS l w (K w.params) CX0 15 63 "_law_script" mg fa h) :
    PySem.W.WalkO q loose XP YP l.row.toRowW d [] (fun f vs => PySem.call f vs) :=
  LamX.walk_ofTs (n := 63) (k := 15) (x := "_law_script") (CX := fun _ => CX0) hn (by decide) hdf ⟨rfl, by decide, by decide⟩ hY F fun _ _ _ _ _ z => z
end My

set_option Elab.async false
set_option linter.all false
set_option maxRecDepth 100000
set_option maxHeartbeats 0
open PySem PySem.W PyProof.Rows in
set_option maxRecDepth 100000 in
set_option maxHeartbeats 0 in
theorem PySem.Challenge.cw_trackedreads_k73_effects_that_put_what_t_holds : PySem.Challenge.rw_trackedreads_k73_effects_that_put_what_t.Holds := by
  w_on; o_law; k_head; (case hw => w_witness2)
  k_fill
  refine My.walk (l := PySem.Challenge.rw_trackedreads_k73_effects_that_put_what_t) rfl rfl (fun w h Y => PySem.W.km_in_of Y) ?F
  case F =>
    intro w mg fa h Y KX G hmg
    refine' My.all_mk KX G hmg ?a_bag ?l_bag ?c_bag ?k_bag ?a_take ?l_take ?c_take ?k_take ?a_of ?l_of ?c_of ?k_of ?a_up ?l_up ?c_up ?k_up ?a_work ?l_work ?c_work ?k_work ?a_due ?l_due ?c_due ?k_due ?a_right ?l_right ?c_right ?k_right ?a_law ?l_law ?c_law ?k_law ?hTab1 ?nTab1 ?cTab1 ?hTab2 ?nTab2 ?cTab2 ?nTabs ?g_FC ?kc_FC ?mk_FC ?z_FC ?g_DC ?kc_DC ?mk_DC ?z_DC ?g_CC ?kc_CC ?mk_CC ?z_CC ?g_RC ?kc_RC ?mk_RC ?z_RC ?g_EC ?kc_EC ?mk_EC ?z_EC ?at_fI ?fn_fI ?fi_fI ?l_fI ?c_fI ?k_fI ?at_fP ?fn_fP ?fi_fP ?l_fP ?c_fP ?k_fP ?at_fN ?fn_fN ?fi_fN ?l_fN ?c_fN ?k_fN ?at_fT ?fn_fT ?fi_fT ?l_fT ?c_fT ?k_fT ?at_fU ?fn_fU ?fi_fU ?l_fU ?c_fU ?k_fU ?at_fS ?fn_fS ?fi_fS ?l_fS ?c_fS ?k_fS ?at_fB ?fn_fB ?fi_fB ?l_fB ?c_fB ?k_fB ?at_fC ?fn_fC ?fi_fC ?l_fC ?c_fC ?k_fC ?at_fO ?fn_fO ?fi_fO ?l_fO ?c_fO ?k_fO ?at_fQ ?fn_fQ ?fi_fQ ?l_fQ ?c_fQ ?k_fQ ?at_dI ?fn_dI ?fi_dI ?l_dI ?c_dI ?k_dI ?at_dC ?fn_dC ?fi_dC ?l_dC ?c_dC ?k_dC ?at_dE ?fn_dE ?fi_dE ?l_dE ?c_dE ?k_dE ?at_dQ ?fn_dQ ?fi_dQ ?l_dQ ?c_dQ ?k_dQ ?at_dL ?fn_dL ?fi_dL ?l_dL ?c_dL ?k_dL ?at_dT ?fn_dT ?fi_dT ?l_dT ?c_dT ?k_dT ?at_cI ?fn_cI ?fi_cI ?l_cI ?c_cI ?k_cI ?at_cC ?fn_cC ?fi_cC ?l_cC ?c_cC ?k_cC ?at_cP ?fn_cP ?fi_cP ?l_cP ?c_cP ?k_cP ?at_cU ?fn_cU ?fi_cU ?l_cU ?c_cU ?k_cU ?at_rI ?fn_rI ?fi_rI ?l_rI ?c_rI ?k_rI ?at_eI ?fn_eI ?fi_eI ?l_eI ?c_eI ?k_eI ?at_eR ?fn_eR ?fi_eR ?l_eR ?c_eR ?k_eR ?at_pV ?ge_pV ?tk_pV ?rc_pV ?l_cV ?c_cV ?k_cV ?co_at ?co_get ?z_b
    (case a_bag => k_is)
    (case l_bag => k_is)
    (case c_bag => k_is)
    (case k_bag => k_is)
    (case a_take => k_is)
    (case l_take => k_is)
    (case c_take => k_is)
    (case k_take => k_is)
    (case a_of => k_is)
    (case l_of => k_is)
    (case c_of => k_is)
    (case k_of => k_is)
    (case a_up => k_is)
    (case l_up => k_is)
    (case c_up => k_is)
    (case k_up => k_is)
    (case a_work => k_is)
    (case l_work => k_is)
    (case c_work => k_is)
    (case k_work => k_is)
    (case a_due => k_is)
    (case l_due => k_is)
    (case c_due => k_is)
    (case k_due => k_is)
    (case a_right => k_is)
    (case l_right => k_is)
    (case c_right => k_is)
    (case k_right => k_is)
    (case a_law => k_is)
    (case l_law => k_is)
    (case c_law => k_is)
    (case k_law => k_is)
    (case hTab1 => exact PySem.W.km_tabs_of Y _ (List.Mem.head _))
    (case nTab1 => kernel_rfl)
    (case cTab1 => kernel_rfl)
    (case hTab2 => exact PySem.W.km_tabs_of Y _ (List.Mem.tail _ (List.Mem.head _)))
    (case nTab2 => kernel_rfl)
    (case cTab2 => kernel_rfl)
    (case nTabs => kernel_rfl)
    (case g_FC => k_is)
    (case kc_FC => k_is)
    (case mk_FC => k_is)
    (case z_FC => kernel_rfl)
    (case g_DC => k_is)
    (case kc_DC => k_is)
    (case mk_DC => k_is)
    (case z_DC => kernel_rfl)
    (case g_CC => k_is)
    (case kc_CC => k_is)
    (case mk_CC => k_is)
    (case z_CC => kernel_rfl)
    (case g_RC => k_is)
    (case kc_RC => k_is)
    (case mk_RC => k_is)
    (case z_RC => kernel_rfl)
    (case g_EC => k_is)
    (case kc_EC => k_is)
    (case mk_EC => k_is)
    (case z_EC => kernel_rfl)
    (case at_fI => k_is)
    (case fn_fI => k_is)
    (case fi_fI => k_is)
    (case l_fI => k_is)
    (case c_fI => k_is)
    (case k_fI => k_is)
    (case at_fP => k_is)
    (case fn_fP => k_is)
    (case fi_fP => k_is)
    (case l_fP => k_is)
    (case c_fP => k_is)
    (case k_fP => k_is)
    (case at_fN => k_is)
    (case fn_fN => k_is)
    (case fi_fN => k_is)
    (case l_fN => k_is)
    (case c_fN => k_is)
    (case k_fN => k_is)
    (case at_fT => k_is)
    (case fn_fT => k_is)
    (case fi_fT => k_is)
    (case l_fT => k_is)
    (case c_fT => k_is)
    (case k_fT => k_is)
    (case at_fU => k_is)
    (case fn_fU => k_is)
    (case fi_fU => k_is)
    (case l_fU => k_is)
    (case c_fU => k_is)
    (case k_fU => k_is)
    (case at_fS => k_is)
    (case fn_fS => k_is)
    (case fi_fS => k_is)
    (case l_fS => k_is)
    (case c_fS => k_is)
    (case k_fS => k_is)
    (case at_fB => k_is)
    (case fn_fB => k_is)
    (case fi_fB => k_is)
    (case l_fB => k_is)
    (case c_fB => k_is)
    (case k_fB => k_is)
    (case at_fC => k_is)
    (case fn_fC => k_is)
    (case fi_fC => k_is)
    (case l_fC => k_is)
    (case c_fC => k_is)
    (case k_fC => k_is)
    (case at_fO => k_is)
    (case fn_fO => k_is)
    (case fi_fO => k_is)
    (case l_fO => k_is)
    (case c_fO => k_is)
    (case k_fO => k_is)
    (case at_fQ => k_is)
    (case fn_fQ => k_is)
    (case fi_fQ => k_is)
    (case l_fQ => k_is)
    (case c_fQ => k_is)
    (case k_fQ => k_is)
    (case at_dI => k_is)
    (case fn_dI => k_is)
    (case fi_dI => k_is)
    (case l_dI => k_is)
    (case c_dI => k_is)
    (case k_dI => k_is)
    (case at_dC => k_is)
    (case fn_dC => k_is)
    (case fi_dC => k_is)
    (case l_dC => k_is)
    (case c_dC => k_is)
    (case k_dC => k_is)
    (case at_dE => k_is)
    (case fn_dE => k_is)
    (case fi_dE => k_is)
    (case l_dE => k_is)
    (case c_dE => k_is)
    (case k_dE => k_is)
    (case at_dQ => k_is)
    (case fn_dQ => k_is)
    (case fi_dQ => k_is)
    (case l_dQ => k_is)
    (case c_dQ => k_is)
    (case k_dQ => k_is)
    (case at_dL => k_is)
    (case fn_dL => k_is)
    (case fi_dL => k_is)
    (case l_dL => k_is)
    (case c_dL => k_is)
    (case k_dL => k_is)
    (case at_dT => k_is)
    (case fn_dT => k_is)
    (case fi_dT => k_is)
    (case l_dT => k_is)
    (case c_dT => k_is)
    (case k_dT => k_is)
    (case at_cI => k_is)
    (case fn_cI => k_is)
    (case fi_cI => k_is)
    (case l_cI => k_is)
    (case c_cI => k_is)
    (case k_cI => k_is)
    (case at_cC => k_is)
    (case fn_cC => k_is)
    (case fi_cC => k_is)
    (case l_cC => k_is)
    (case c_cC => k_is)
    (case k_cC => k_is)
    (case at_cP => k_is)
    (case fn_cP => k_is)
    (case fi_cP => k_is)
    (case l_cP => k_is)
    (case c_cP => k_is)
    (case k_cP => k_is)
    (case at_cU => k_is)
    (case fn_cU => k_is)
    (case fi_cU => k_is)
    (case l_cU => k_is)
    (case c_cU => k_is)
    (case k_cU => k_is)
    (case at_rI => k_is)
    (case fn_rI => k_is)
    (case fi_rI => k_is)
    (case l_rI => k_is)
    (case c_rI => k_is)
    (case k_rI => k_is)
    (case at_eI => k_is)
    (case fn_eI => k_is)
    (case fi_eI => k_is)
    (case l_eI => k_is)
    (case c_eI => k_is)
    (case k_eI => k_is)
    (case at_eR => k_is)
    (case fn_eR => k_is)
    (case fi_eR => k_is)
    (case l_eR => k_is)
    (case c_eR => k_is)
    (case k_eR => k_is)
    (case at_pV => k_is)
    (case ge_pV => k_is)
    (case tk_pV => k_is)
    (case rc_pV => k_is)
    (case l_cV => k_is)
    (case c_cV => k_is)
    (case k_cV => k_is)
    (case co_at => k_is)
    (case co_get => k_is)
    (case z_b => kernel_rfl)
