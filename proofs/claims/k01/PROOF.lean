import PyProof.Rows.All
import Wide.All
import OpenK.AllK
import Wide.FinOn
import HandS.ForMost
import HandS.ExcInit
import HandS.ExcIs
import HandS.ExcOwn
import HandS.ExcValue
import HandS.ExcCtx
import HandS.ExcField
import KE.KExcInit
import KE.KExcIs
import HandS.MakeKwOnly
import HandS.Wide
import HandS.Codes
import PySem.Challenge.RW_trackedreads_k01_errors_made
import HandS.IsInst
import PyProof.StrOps2
set_option Elab.async false
set_option linter.all false
set_option maxRecDepth 100000
set_option maxHeartbeats 4000000
/-! X1: exceptions of own classes over ValueError or RuntimeError: their fields, as values. -/
namespace My
open PySem PySem.Spec PyProof.Rows L2
/-- what the written part says of an own exception class -/
structure XC (K : PySem.W.Frag) (C : Addr) : Prop where
  mks : ∃ (B newId initId : String) (bmB : List Value), ExcBaseFacts B newId initId bmB ∧ PySem.W.excInitIn K C bmB newId = true ∧ ∀ self : Value, refuseLoop self "__setattr__" bmB = pure ()
  sa : PySem.W.findIn K (.ref C) "__setattr__" = some (some (.builtin "object.__setattr__"))
  ty : PySem.W.typeIn K (.ref C) = some (.type "type")
  kC : PySem.W.keepIn K (.ref C) = true
  is : ExcC K C
theorem pass_tail {bmB : List Value} (hp : ∀ self : Value, refuseLoop self "__setattr__" bmB = pure ()) (self : Value) : ∀ l : List Value, PySem.W.excTail bmB l = true → refuseLoop self "__setattr__" l = pure ()
  | [], e => by
    rcases PySem.W.excTail_cases [] e with ⟨c, r, q, _⟩ | q
    · cases q
    · rw [q]; exact hp self
  | a :: r, e => by
    rcases PySem.W.excTail_cases (a :: r) e with ⟨c, r', q, h⟩ | q
    · cases q
      rw [refuseLoop_ref]
      exact pass_tail hp self r h
    · rw [q]; exact hp self
theorem XC.cd {K : PySem.W.Frag} {C : Addr} (T : XC K C) : ∃ cd : ClassData, PySem.W.clsIn K C = some cd ∧ cd.hasDict = true ∧ ∀ self : Value, refuseLoop self "__setattr__" cd.mro = pure () := by
  obtain ⟨B, newId, initId, bmB, F, hI, hp⟩ := T.mks
  obtain ⟨cd, hc, hd⟩ := PySem.W.any_some T.is.hd
  refine ⟨cd, hc, hd, fun self => ?_⟩
  unfold PySem.W.excInitIn at hI
  split at hI
  · rename_i dd cd' sl ho
    have hc' : PySem.W.clsIn K C = some cd' := by unfold PySem.W.clsIn; rw [ho]
    rw [hc'] at hc
    cases hc
    split at hI
    · rename_i C' bm k0 k1 k2 k3 n k5 hm hs
      simp only [Bool.and_eq_true, beq_iff_eq, Bool.not_eq_true'] at hI
      rw [hm, refuseLoop_ref]
      exact pass_tail hp self bm hI.2
    · cases hI
  · cases hI

/-! ### a field stored -/
section
open Builtin Builtin.ObjectAttr
variable {prog : Program} {w : World} {A : Around} {R : Result → Shared → Prop} {hp : Heap} {g : Array GenState} {d : Drawn} {t : Nat} {os : OsState} {K : PySem.W.Frag} {nm : Str} {tk : Tok} {v : Value} {x C dx : Addr} {fv : Array Value}
/-- object.__setattr__ up to the store in the own dict -/
theorem xs_walk {ox : Obj} {od : Option Obj} {cd : ClassData} (Y : K.In hp) (I : PySem.W.InstAt hp x ox C od) (T : XC K C) (hcd : PySem.W.clsIn K C = some cd) (hps : ∀ self : Value, refuseLoop self "__setattr__" cd.mro = pure ())
    (hno : PySem.W.findIn K (.ref C) nm = some none)
    (hq : wpAny (model prog w) A.in1 (storeInOwnDict (.ref x) (.ref C) (.str nm tk) nm v false) (fun fin s' => match fin with | .done f => R (.ok f) s' | .again c' => c'.quiet = true ∧ codeAny (model prog w) A c' R s') (fun e s' => R (.error e) s') ⟨hp, g, d, t, os⟩) :
    codeAny (model prog w) A (.call (.builtin "object.__setattr__") ⟨[.ref x, .str nm tk, v], []⟩) R ⟨hp, g, d, t, os⟩ := by
  have S0 := F.store_object; have isO : PySem.W.Looks (model prog w) hp (isInstance (.ref x) (.type "object")) true := I.type.andThen (PySem.W.looks_mroIn Y T.is.hm)
  refine codeAny_call_builtin S0.slot.plain S0.entry (@PySem.W.check_slot (model prog w) _ _ ⟨hp, g, d, t, os⟩ "object.__setattr__" "object" "__setattr__" (.ref x) [.str nm tk, v] [] _ S0.kind S0.split isO (S0.args _ _ _) ?_)
  have lm : PySem.W.Looks (model prog w) hp (mroOf (.ref C)) cd.mro := (PySem.W.looks_clsIn Y hcd).andThen .now
  have l3 : PySem.W.Looks (model prog w) hp (storeTaker? none) none := .now
  rw [PySem.W.osa_eq, refuse_eq]
  refine wpAny_bind (wpAny_bind (I.type.at (wpAny_bind (lm.at ?_)))); rw [hps]
  exact wpAny_pure (wpAny_bind (I.type.at (wpAny_bind ((PySem.W.looks_findIn Y hno).at (wpAny_bind (l3.at hq))))))
theorem xs_new (Y : K.In hp) (T : XC K C) (hx : hp.get? x = some { cls := .ref C, data := .fields fv }) (hno : PySem.W.findIn K (.ref C) nm = some none)
    (hq : ∀ h' tk' dx, (∀ b o, b ≠ x → hp.get? b = some o → h'.get? b = some o) → hp.objs.size ≤ dx → dx ≠ x → h'.get? x = some { cls := .ref C, dict := some dx, data := .fields fv } → h'.Ns1 dx (fun y => if y = nm then some v else none) → R (.ok (.ret .none)) ⟨h', g, d, tk', os⟩) :
    codeAny (model prog w) A (.call (.builtin "object.__setattr__") ⟨[.ref x, .str nm tk, v], []⟩) R ⟨hp, g, d, t, os⟩ := by
  obtain ⟨cd, hcd, hhd, hps⟩ := T.cd
  have hxs : x ≠ hp.objs.size := Nat.ne_of_lt (Heap.lt_size hx)
  refine xs_walk (ox := { cls := .ref C, data := .fields fv }) (od := none) Y ⟨hx, rfl, rfl, trivial⟩ T hcd hps hno ?_
  have lc : PySem.W.Looks (model prog w) hp (classData C) cd := PySem.W.looks_clsIn Y hcd
  obtain ⟨n0, bs, mro, ns, qn, hd, sn, sb, ab, col, del⟩ := cd
  dsimp only at hhd; subst hhd
  unfold storeInOwnDict ownDictForStores
  repeat (first | with_reducible refine HandSPX.store_in_new ?_ ?_ | with_reducible refine wpAny_loadPart_at hx ?_ | with_reducible refine lc.at ?_ | wp_step)
  · exact ⟨_, #[], _, (Heap.get?_update_ne _ _ _ _ hxs.symm).trans (Heap.get?_push_at rfl rfl), rfl, fun e he => absurd he (by simp), fun _ => rfl⟩
  · intro h' tk' hn' hs
    have hx1 : (hp.push { cls := .type "dict", data := .dict #[] }).get? x = some { cls := .ref C, data := .fields fv } := Heap.get?_push_of_some _ hx
    exact hq h' tk' hp.objs.size (fun b o hb ho => (hs.2 b (Nat.ne_of_lt (Heap.lt_size ho))).trans ((Heap.get?_update_ne _ _ _ _ hb).trans (Heap.get?_push_of_some _ ho))) (Nat.le_refl _) hxs.symm ((hs.2 x hxs).trans (Heap.get?_update_self _ hx1 rfl)) hn'
theorem xs_old {m0 : Str → Option Value} {nl : List Str} (Y : K.In hp) (T : XC K C) (hx : hp.get? x = some { cls := .ref C, dict := some dx, data := .fields fv }) (hns : hp.Ns1 dx m0) (hw : Within m0 nl) (hz : nl.length ≤ 1000) (hno : PySem.W.findIn K (.ref C) nm = some none)
    (hq : ∀ h' tk', (∀ b o, b ≠ dx → hp.get? b = some o → h'.get? b = some o) → h'.Ns1 dx (fun y => if y = nm then some v else m0 y) → R (.ok (.ret .none)) ⟨h', g, d, tk', os⟩) :
    codeAny (model prog w) A (.call (.builtin "object.__setattr__") ⟨[.ref x, .str nm tk, v], []⟩) R ⟨hp, g, d, t, os⟩ := by
  obtain ⟨cd, hcd, hhd, hps⟩ := T.cd
  obtain ⟨oD, esD, epD, hoD, _, _⟩ := hns.count hw
  refine xs_walk (ox := { cls := .ref C, dict := some dx, data := .fields fv }) (od := some oD) Y ⟨hx, rfl, rfl, hoD⟩ T hcd hps hno ?_
  have lc : PySem.W.Looks (model prog w) hp (classData C) cd := PySem.W.looks_clsIn Y hcd
  obtain ⟨n0, bs, mro, ns, qn, hd, sn, sb, ab, col, del⟩ := cd
  dsimp only at hhd; subst hhd
  unfold storeInOwnDict ownDictForStores
  repeat (first | with_reducible refine OEX.store_in_old hns hw hz ?_ | with_reducible refine wpAny_loadPart_at hx ?_ | with_reducible refine lc.at ?_ | wp_step)
  exact fun h' tk' hn' hs => hq h' tk' (fun b o hb ho => (hs.2 b hb).trans ho) hn'
end
section
variable {X : Cx} {pins : List (Addr × Obj)} {σ : L2.St} {H : Hp} {s : Shared} {a C dx : Addr} {f : Str} {y : V} {u : Value} {fs : List (Str × V)} {Q : Unit → Shared → Prop} {E : Value → Shared → Prop} {A : Around}
theorem xset_new (T : XC X.K C) (I : Inv X pins σ H s) (e : H a = some (exo a C none)) (hno : PySem.W.findIn X.K (.ref C) f = some none) (ry : RelV y u)
    (h : ∀ dx s', H dx = none → dx ≠ a → Inv X pins σ (upd (upd H dx (exd dx [(f, y)])) a (exo a C (some dx))) s' → Q () s') : wpAny (model X.prog X.w) A (setAttr (.ref a) f u) Q E s := by
  obtain ⟨t1, ho⟩ := exo_at I.hok e
  obtain ⟨hp, g, d, t, os⟩ := s
  refine PySem.W.set_plain I.kIn (ox := { cls := .ref C, dict := none, data := .fields #[.ref t1, .none, .none, .none, .bool false, .none] }) (od := none) ⟨ho, rfl, rfl, trivial⟩ T.sa (xs_new I.kIn T ho hno fun h' tk' dx k dn dne hx hn => ?_)
  have hnd : H dx = none := I.hok.fresh dn
  have nd : ∀ {b : Addr} {o : Obj}, hp.get? b = some o → b ≠ dx := fun {b o} q => Nat.ne_of_lt (Nat.lt_of_lt_of_le (Heap.lt_size q) dn)
  have na : ∀ {b : Addr}, H b = none → b ≠ a := fun {b} n z => by rw [z, e] at n; cases n
  have U : Un X.fs [] H (upd (upd H dx (exd dx [(f, y)])) a (exo a C (some dx))) hp h' := ⟨fun b o q n _ _ => k b o (na n) q, fun b o q n _ _ => ⟨o.slots, k b o (na n) q⟩, fun b o q n _ => by rw [upd_ne (na n), upd_ne (nd q)]; exact n,
    fun b o q _ => (Decidable.em (b = a)).elim (fun hb => by subst hb; exact ⟨_, hx⟩) fun hb => ⟨o, k b o hb q⟩, fun b xs q => by rw [upd_ne (at_ne e q exo_tup), upd_ne (ne_of_none q hnd)]; exact q,
    fun b o v q => by rw [upd_ne (at_ne e q exo_frz), upd_ne (ne_of_none q hnd)]; exact q, fun b ps q => ⟨#[], by rw [upd_ne (at_ne e q exo_tbl), upd_ne (ne_of_none q hnd), q]; simp⟩⟩
  refine h dx _ hnd dne (I.un (t' := tk') U fun b o q => ?_)
  by_cases hb : b = a
  · subst hb; rw [upd_same] at q; cases q
    exact exo_ok hx
  · by_cases hd : b = dx
    · subst hd; rw [upd_ne hb, upd_same] at q; cases q
      exact exd_ok hn (relO_put (fs := []) ry fun _ => True.intro)
    · rw [upd_ne hb, upd_ne hd] at q
      exact (I.hok b o q).stay (fun c v hc z => k c v (hc.elim (fun z => by rw [z]; exact hb) fun z => at_ne e z exo_own) z) (fun c hc => by rw [upd_ne (at_ne e hc exo_own), upd_ne (ne_of_none hc hnd)]; exact hc)
        (fun c xs hc => by rw [upd_ne (at_ne e hc exo_tup), upd_ne (ne_of_none hc hnd)]; exact hc)
theorem xset_old (T : XC X.K C) (I : Inv X pins σ H s) (e : H a = some (exo a C (some dx))) (ed : H dx = some (exd dx fs)) (hl : fs.length ≤ 900) (hno : PySem.W.findIn X.K (.ref C) f = some none) (ry : RelV y u)
    (h : ∀ s', Inv X pins σ (upd H dx (exd dx ((f, y) :: fs))) s' → Q () s') : wpAny (model X.prog X.w) A (setAttr (.ref a) f u) Q E s := by
  obtain ⟨t1, ho⟩ := exo_at I.hok e
  obtain ⟨mA, hns, rel⟩ := exd_at I.hok ed
  have hw := within_of rel
  obtain ⟨hp, g, d, t, os⟩ := s
  obtain ⟨oD, _, _, hoD, _, _⟩ := hns.count hw
  refine PySem.W.set_plain I.kIn (ox := { cls := .ref C, dict := some dx, data := .fields #[.ref t1, .none, .none, .none, .bool false, .none] }) (od := some oD) ⟨ho, rfl, rfl, hoD⟩ T.sa (xs_old I.kIn T ho hns hw (by rw [List.length_map]; omega) hno fun h' tk' k hn => ?_)
  have hd : ∃ o, h'.get? dx = some o := let ⟨o, _, _, e', _⟩ := hn; ⟨o, e'⟩
  exact h _ (I.write (t' := tk') (x := dx) (e := dx) (o := exd dx ((f, y) :: fs)) (by rw [ed]; exact True.intro) (.inl rfl) k hd (exd_ok hn (relO_put ry rel)))
end
/-- self.f = e in an own exception's __init__ -/
def tXst (K : PySem.W.Frag) (f : Str) (to te : TE) : TS := fun D σ H => te σ H fun y H1 => to σ H1 fun x H2 => ∃ a C : Addr, x = .ref a ∧ XC K C ∧ PySem.W.findIn K (.ref C) f = some none ∧
  ((H2 a = some (exo a C none) ∧ ∀ dx, H2 dx = none → dx ≠ a → D.nx σ (upd (upd H2 dx (exd dx [(f, y)])) a (exo a C (some dx)))) ∨
    ∃ (dx : Addr) (fs : List (Str × V)), H2 a = some (exo a C (some dx)) ∧ H2 dx = some (exd dx fs) ∧ fs.length ≤ 900 ∧ D.nx σ (upd H2 dx (exd dx ((f, y) :: fs))))
theorem ps_xst {X : Cx} {o e : Expr} {to te : TE} {f : Str} {p' pos : Pos} (ho : PE X o to) (he : PE X e te) (hs : swapsWith e (some (.Attribute o f p')) pos.line X.env = pure false := by rfl) : PS X (.Assign [.Attribute o f p'] e pos) (tXst X.K f to te) := by
  refine ⟨fun pins s σ H D I h => plainObj_wpAny_Assign_Attribute (thn (he.run pins s σ H _ I h) fun v s1 ⟨y, H1, I1, r1, q1⟩ => thn (ho.run pins s1 σ H1 _ I1 q1) fun u s2 ⟨x, H2, I2, r2, a, C, ex, T, hno, q⟩ => ?_) hs⟩
  subst ex
  obtain rfl : u = Value.ref a := r2
  rcases q with ⟨ea, q⟩ | ⟨dx, fs, ea, ed, hl, q⟩
  · exact xset_new T I2 ea hno r1 fun dx s' n ne J => ⟨σ, _, J, q dx n ne⟩
  · exact xset_old T I2 ea ed hl hno r1 fun s' J => ⟨σ, _, J, q⟩
end My

set_option Elab.async false
set_option linter.all false
set_option maxRecDepth 100000
set_option maxHeartbeats 4000000
/-! X2: an own exception class called, with keywords too. -/
namespace PySem.XKw
open PySem.HandSPX
open Builtin Builtin.ObjectAttr
section
variable {M : Model} {prog : Program} {w : World} {A : Around} {E : Value → Shared → Prop} {R : Result → Shared → Prop} {h : Heap} {g : Array GenState} {d : Drawn} {t : Nat} {os : OsState}
variable {nm q : Str} {C N : Addr} {bs bm bmB : List Value} {hdct : Bool} {sn : List Str} {sub : List Value} {ab : Bool} {col : Option Bool} {dd : Option Addr} {k0 k1 k2 k3 k5 : Option Value} {B newId initId : String} {kw : List (Str × Value)}
theorem kw_check_new (F : ExcBaseFacts B newId initId bmB) (hT : ∀ Y : String, bm.contains (.type Y) = bmB.contains (.type Y)) {rest : List Value} {Q : Unit → Shared → Prop}
    (hC : h.get? C = some (excClassObj nm q C N bs bm hdct sn sub ab col dd k0 k1 k2 k3 k5 newId)) (hq : Q () ⟨h, g, d, t, os⟩) : wpAny M A (checkBuiltinCall newId ⟨.ref C :: rest, kw⟩) Q E ⟨h, g, d, t, os⟩ := by
  have hB : (Value.ref C :: bm).contains (.type B) = true := by rw [List.contains_cons, hT, F.hasB, Bool.or_true]
  have hst := F.noStar
  simp only [checkBuiltinCall, F.newKind, F.newSplit, F.newRow]
  repeat (first | refine wpAny_loadPart_at hC ?_ | (refine wpAny_isSubtype_exc hC ?_; rw [hB]) | refine wpAny_staticBase_exc hC ?_ | refine wpAny_madeBy_exc hC ?_ | simp only [bne_self_eq_false, Bool.false_eq_true, if_false] | wp_step)
  first | exact hq | skip
theorem kw_new (F : ExcBaseFacts B newId initId bmB) (hT : ∀ Y : String, bm.contains (.type Y) = bmB.contains (.type Y)) {rest : List Value} (hC : h.get? C = some (excClassObj nm q C N bs bm hdct sn sub ab col dd k0 k1 k2 k3 k5 newId))
    (hq : R (.ok (.ret (.ref (h.objs.size + 1)))) ⟨(h.push { cls := .type "tuple", data := .seq rest.toArray }).push { cls := .ref C, data := .fields #[.ref h.objs.size, .none, .none, .none, .bool false, .none] }, g, d, t, os⟩) (hl : rest.length ≤ sizeLine) :
    codeAny (model prog w) A (.builtin newId ⟨.ref C :: rest, kw⟩) R ⟨h, g, d, t, os⟩ := by
  have hends := F.ends
  have hB : (Value.ref C :: bm).contains (.type B) = true := by rw [List.contains_cons, hT, F.hasB, Bool.or_true]
  have hA : (Value.ref C :: bm).contains (.type "AttributeError") = false := by rw [List.contains_cons, hT, F.noAttr]; rfl
  have hN : (Value.ref C :: bm).contains (.type "NameError") = false := by rw [List.contains_cons, hT, F.noName]; rfl
  refine codeAny_builtinAt F.entry ?_
  unfold Builtin.«BaseException.__new__»
  refine wpAt_bind ?_
  show wpAt _ _ _ (stack >>= _) _ _ _
  refine wpAt_bind (wpAt_stack fun p below => wpAt_of_wpAny ?_)
  wp_walk
  refine wpAt_of_wpAny ?_
  rw [F.owner]
  repeat (first | with_reducible refine wpAny_madeHere_exc F.canon hC ?_ | with_reducible refine wpAny_loadPart_at hC ?_ | (with_reducible refine wpAny_isSubtype_exc hC ?_; first | rw [hB] | rw [hA] | rw [hN]) | wp_step)
  show R _ _
  rw [Heap.size_push]; exact hq
theorem kw_type (F : ExcBaseFacts B newId initId bmB) (hT : ∀ Y : String, bm.contains (.type Y) = bmB.contains (.type Y)) {rest : List Value} {fI : Addr} {Q : Fin → Shared → Prop} (hC : h.get? C = some (excClassObj nm q C N bs bm hdct sn sub ab col dd k0 k1 k2 k3 k5 newId))
    (hi : W.Looks (model prog w) h (typeLookup (.ref C) "__init__") (some (.ref fI))) (hb : ∀ self, W.Looks (model prog w) h (bindSpecial (.ref fI) self) (.ref fI, [self])) (hl : rest.length ≤ sizeLine)
    (hq : codeAny (model prog w) A (.call (.ref fI) ⟨.ref (h.objs.size + 1) :: rest, kw⟩) (fun r s' => match r with | .ok (.ret v) => v = .none ∧ Q (.done (.ret (.ref (h.objs.size + 1)))) s' | .ok _ => False | .error e => E e s') ⟨(h.push (W.kdv_tup rest)).push (excO C h.objs.size), g, d, t, os⟩) :
    wpAny (model prog w) A (Builtin.«type.__call__» ⟨.ref C :: rest, kw⟩) Q E ⟨h, g, d, t, os⟩ := by
  repeat (first | with_reducible refine wpAny_loadPart_at hC ?_ | with_reducible refine wpAny_madeBy_exc hC ?_ | wp_step)
  refine codeAny_call_builtin_code (Code.quiet_builtin _ F.quiet) (kw_check_new F hT hC ?_)
  refine kw_new F hT hC ?_ hl
  show wpAny _ _ _ _ _ _
  have k : ∀ b o, h.get? b = some o → ((h.push (W.kdv_tup rest)).push (excO C h.objs.size)).get? b = some o := fun b o e => Heap.get?_push_of_some _ (Heap.get?_push_of_some _ e)
  have hC1 := k _ _ hC
  have hG : ((h.push (W.kdv_tup rest)).push (excO C h.objs.size)).get? (h.objs.size + 1) = some (excO C h.objs.size) := by heap_get
  have hcC : (Value.ref C :: bm).contains (.ref C) = true := by simp
  have i1 := hi.keeps k; have b1 := (hb (.ref (h.objs.size + 1))).keeps k
  unfold isInstance
  repeat (first | with_reducible refine wpAny_loadPart_at hG ?_ | (with_reducible refine wpAny_isSubtype_exc hC1 ?_; rw [hcC]) | wp_step)
  show wpAny _ _ (typeLookup (.ref C) _) _ _ _
  refine i1.at (wpAny_holding (wpAny_bind (b1.at (wpAny_bind (wpAny_call (codeAny_mono hq fun r s' z => ?_))))))
  rcases r with e | (v | _ | _ | _) <;> first | exact z | exact z.elim | skip
  obtain ⟨rfl, z⟩ := z
  first
    | exact wpAny_pure (wpAny_pure z)
    | (wp_walk; exact z)
theorem kw_check_type {rest : List Value} {Q : Unit → Shared → Prop} (hC : h.get? C = some (excClassObj nm q C N bs bm hdct sn sub ab col dd k0 k1 k2 k3 k5 newId)) (hq : Q () ⟨h, g, d, t, os⟩) :
    wpAny M A (checkBuiltinCall "type.__call__" ⟨.ref C :: rest, kw⟩) Q E ⟨h, g, d, t, os⟩ := by
  have s3 := tc_sub
  have isT : (⟨h, g, d, t, os⟩ : Shared).TypeIs (.ref C) "type" := ⟨_, hC, rfl⟩
  simp only [checkBuiltinCall, tc_kind, tc_split]
  repeat (any_goals (first | assumption | with_reducible refine wpAny_loadPart_at hC ?_ | with_reducible refine wpAny_onRaise ?_ | with_reducible refine wpAny_map ?_ | wp_step))
theorem kw_call (F : ExcBaseFacts B newId initId bmB) (hT : ∀ Y : String, bm.contains (.type Y) = bmB.contains (.type Y)) {rest : List Value} {fI : Addr} (hC : h.get? C = some (excClassObj nm q C N bs bm hdct sn sub ab col dd k0 k1 k2 k3 k5 newId))
    (hi : W.Looks (model prog w) h (typeLookup (.ref C) "__init__") (some (.ref fI))) (hb : ∀ self, W.Looks (model prog w) h (bindSpecial (.ref fI) self) (.ref fI, [self])) (hl : rest.length ≤ sizeLine)
    (hq : codeAny (model prog w) (A.under (.builtin "type.__call__" ⟨.ref C :: rest, kw⟩)) (.call (.ref fI) ⟨.ref (h.objs.size + 1) :: rest, kw⟩) (W.InitBack (h.objs.size + 1) R) ⟨(h.push (W.kdv_tup rest)).push (excO C h.objs.size), g, d, t, os⟩) :
    codeAny (model prog w) A (.call (.ref C) ⟨rest, kw⟩) R ⟨h, g, d, t, os⟩ := by
  have g1 := tc_lookup; have g2 := tc_bind (.ref C)
  have isT : (⟨h, g, d, t, os⟩ : Shared).TypeIs (.ref C) "type" := ⟨_, hC, rfl⟩
  refine codeAny_of_tree ?_
  show wpAny _ _ (callAny (.ref C) _) _ _ _
  repeat (any_goals (first | assumption | with_reducible refine wpAny_loadPart_at hC ?_ | wp_step))
  refine ⟨rfl, ?_⟩
  refine codeAny_call_builtin_at (Code.quiet_builtin _ (by decide +kernel)) entry_typeCall (kw_check_type hC (kw_type F hT hC hi hb hl (codeAny_mono hq fun r s' z => ?_)))
  rcases r with e | (v | _ | _ | _) <;> exact z
end
end PySem.XKw

set_option Elab.async false
set_option linter.all false
set_option maxRecDepth 100000
set_option maxHeartbeats 4000000
/-! X3: own exceptions as values: made, read, asked for their class, kept by an except suite. -/
namespace My
open PySem PySem.Spec PyProof.Rows L2
/-- an exception of the class cls with the dict d stands at a -/
def xv (a : Addr) (cls : Value) (d : Option Addr) : HO := .ext fun h => ∃ (oe : Obj) (vs : Array Value), h.get? a = some oe ∧ Zc cls d oe ∧ oe.data = .fields vs
/-- at dx: an exception's dict -/
inductive XD (H : Hp) (dx : Addr) (fs : List (Str × V)) : Prop where
  | a (e : H dx = some (exd dx fs))
  | b (e : H dx = some (.xd fs))
/-- at a: an exception of the class at C with the dict d -/
inductive XO (H : Hp) (a C : Addr) (d : Option Addr) : Prop where
  | a (e : H a = some (exo a C d))
  | b (e : H a = some (xv a (.ref C) d))
theorem xv_ok {P : Program} {w : World} {H : Hp} {h : Heap} {a : Addr} {cls : Value} {d : Option Addr} {oe : Obj} {vs : Array Value} (e : h.get? a = some oe) (z : Zc cls d oe) (hd : oe.data = .fields vs) : ObjOk P w H h a (xv a cls d) :=
  ⟨⟨oe, vs, e, z, hd⟩, ⟨oe, e⟩, fun _ _ ⟨o, v, q, r⟩ k => ⟨o, v, k o q, r⟩⟩
section
variable {X : Cx} {pins : List (Addr × Obj)} {σ : L2.St} {H : Hp} {s : Shared} {a C dx : Addr} {d : Option Addr} {fs : List (Str × V)}
theorem XO.get (h : XO H a C d) (k : HOk X.prog X.w H s.heap) : ∃ (oe : Obj) (vs : Array Value), s.heap.get? a = some oe ∧ Zc (.ref C) d oe ∧ oe.data = .fields vs := by
  rcases h with e | e
  · obtain ⟨t1, q⟩ := exo_at k e
    exact ⟨_, _, q, ⟨rfl, rfl⟩, rfl⟩
  · have x : ObjOk X.prog X.w H s.heap a (xv a (.ref C) d) := k a _ e
    exact x.1
theorem XD.get (h : XD H dx fs) (k : HOk X.prog X.w H s.heap) : ∃ mA, s.heap.Ns1 dx mA ∧ ∀ f, RelO (fs.lookup f) (mA f) := by
  rcases h with e | e
  · exact exd_at k e
  · have x : ObjOk X.prog X.w H s.heap dx (.xd fs) := k dx _ e
    exact x
end
/-- a dict, if there is one, is tracked -/
def XDo (H : Hp) (d : Option Addr) : Prop := ∀ dx, d = some dx → ∃ fs, XD H dx fs
/-- x.f, x an exception that stands there -/
def tXf (K : PySem.W.Frag) (f : Str) (te : TE) : TE := fun σ H Q => te σ H fun x H1 => ∃ (a C dx : Addr) (fs : List (Str × V)) (v : V), x = .ref a ∧ XO H1 a C (some dx) ∧ XD H1 dx fs ∧ XC K C ∧ PySem.W.findIn K (.ref C) f = some none ∧ fs.lookup f = some v ∧ Q v H1
theorem pe_xget {X : Cx} {e : Expr} {te : TE} {pos : Pos} {f : Str} (he : PE X e te) (hb : attributeBase e f X.env (eval e X.env) = eval e X.env := by rfl) : PE X (.Attribute e f pos) (tXf X.K f te) := by
  refine ⟨fun pins s σ H Q I h => attr_of hb (thn (he.run pins s σ H _ I h) fun u s1 ⟨x, H1, I1, rx, a, C, dx, fs, v, ex, hO, hD, T, hno, l, q⟩ => ?_)⟩
  subst ex
  obtain rfl : u = Value.ref a := rx
  obtain ⟨oe, vs, ha, hz, hdt⟩ := hO.get (X := X) I1.hok
  obtain ⟨mA, hns, hr⟩ := hD.get (X := X) I1.hok
  obtain ⟨od, ho, hl⟩ := lookIn_ns hns
  obtain ⟨u, hu, ru⟩ := RelO.some_of (v := v) (o := mA f) (by rw [← l]; exact hr f)
  have J : PySem.W.InstAt s1.heap a oe C (some od) := ⟨ha, hz.1, by unfold PySem.W.notCls; rw [hdt] <;> rfl, by rw [hz.2]; exact ho⟩
  exact HandSPX.exc_get I1.kIn J T.is.hg T.is.hk T.is.hs (PySem.W.findObj_own T.is.hd hno rfl (by rw [hl, hu])) (handed_of ru) ⟨v, H1, I1.tok _, ru, q⟩
/-- isinstance(x, c), x an exception that stands there -/
def rXis (K : PySem.W.Frag) : List V → Hp → VK → Prop := fun xs H Q => ∃ (a C : Addr) (d : Option Addr) (c : V) (cv : Value) (b : Bool), xs = [.ref a, c] ∧ XO H a C d ∧ XDo H d ∧ XC K C ∧ (∀ u, RelV c u → u = cv) ∧ PySem.W.kitOne K (.ref C) cv = some b ∧ Q (.bl b) H
theorem call_xis {X : Cx} : CallR X (.builtin "isinstance") (rXis X.K) := by
  intro pins s σ H xs us Q I r h
  obtain ⟨a, C, d, c, cv, b, rfl, hO, hD, T, hcv, e, q⟩ := h
  obtain ⟨u1, u2, rfl, r1, r2⟩ := vals2 r
  have ec := hcv _ r2
  subst ec
  obtain rfl : u1 = Value.ref a := r1
  obtain ⟨oe, vs, ha, hz, hdt⟩ := hO.get (X := X) I.hok
  obtain ⟨cd, hcd, _⟩ := T.cd
  have hcl : (PySem.W.clsIn X.K C).isSome = true := by rw [hcd]; rfl
  have go : ∀ od : Option Obj, PySem.W.InstAt s.heap a oe C od → wpAny (model X.prog X.w) X.A (call (.builtin "isinstance") [.ref a, u2]) (EP X pins σ Q) X.xe s := fun od J =>
    PySem.W.kia_one (PySem.W.kitx_exc hcl T.is.hg T.is.hk T.is.hs T.is.ha T.is.hn T.is.ht T.is.hm) I.kIn J e (fun z => nomatch z) fun tk => ⟨.bl b, H, I.tok tk, rfl, q⟩
  cases d with
  | none => exact go none ⟨ha, hz.1, by unfold PySem.W.notCls; rw [hdt] <;> rfl, by rw [hz.2]; exact True.intro⟩
  | some dx =>
    obtain ⟨fs, hd⟩ := hD dx rfl
    obtain ⟨mA, hns, _⟩ := hd.get (X := X) I.hok
    obtain ⟨od, ho, _⟩ := lookIn_ns hns
    exact go (some od) ⟨ha, hz.1, by unfold PySem.W.notCls; rw [hdt] <;> rfl, by rw [hz.2]; exact ho⟩
/-- C(e, .., k = v, ..), the new exception standing as a value -/
def tNew (C : Addr) (n m : Nat) (sp : Sp) (gV : List V → List V → List V) (t tk : TA) : TE := fun σ H Q => t σ H fun vs H1 => tk σ H1 fun zs H2 => vs.length = n ∧ zs.length = m ∧ n ≤ 1000 ∧ ∀ a, H2 a = none →
  sp (gV (.ref a :: vs) zs) (upd H2 a (exo a C none)) (fun v H3 => v = .non ∧ Q (.ref a) H3) (fun _ _ _ => False)
section
variable {X : Cx} {CX : CXT} {k n : Nat} {fI C : Addr} {fd : FuncData} {ps ks : List Str} {sp : Sp} {x : Str} {p pos : Pos} {e : Expr} {es : List Expr} {kws : List Keyword} {t tk : TA} {g : List Value → List Value → List Value} {gV : List V → List V → List V}
theorem run_new {pins : List (Addr × Obj)} {σ : L2.St} {H : Hp} {s : Shared} {Q : VK} {us ws : List Value} {vs zs : List V} (T : XC X.K C) (iC : PySem.W.findIn X.K (.ref C) "__init__" = some (some (.ref fI))) (tI : PySem.W.typeIn X.K (.ref fI) = some (.type "function"))
    (F1 : FnOk X.prog X.w X.K X.mg X.base CX k fI fd ps sp) (hr : Room (k + 1) X.A) (hb : KBn X.K fd ps (n + 1) ks g gV) (hx : Passes CX X (fun _ _ _ => False)) (I : Inv X pins σ H s) (r : Vals vs us) (rz : Vals zs ws) (l1 : vs.length = n) (l2 : zs.length = ks.length) (l3 : n ≤ 1000)
    (h : ∀ a, H a = none → sp (gV (.ref a :: vs) zs) (upd H a (exo a C none)) (fun v H2 => v = .non ∧ Q (.ref a) H2) (fun _ _ _ => False)) : wpAny (model X.prog X.w) X.A (call (.ref C) us (ks.zip ws)) (EP X pins σ Q) X.xe s := by
  obtain ⟨B, newId, initId, bmB, F, hI, _⟩ := T.mks
  obtain ⟨nm, N, q, bs, bm, hdct, sn, sub, ab, col, dd, k0, k1, k2, k3, k5, hC, hTT⟩ := PySem.W.excInit_of I.kIn hI
  obtain ⟨hp, g1, dr, tk1, os⟩ := s
  have hsz : hp.objs.size ≤ hp.objs.size + 1 := Nat.le_succ _
  have hn : H (hp.objs.size + 1) = none := I.hok.fresh hsz
  have hq := h (hp.objs.size + 1) hn
  have kk : ∀ b o, hp.get? b = some o → ((hp.push (PySem.W.kdv_tup us)).push (PySem.HandSPX.excO C hp.objs.size)).get? b = some o := fun b o e => Heap.get?_push_of_some _ (Heap.get?_push_of_some _ e)
  have hG : ((hp.push (PySem.W.kdv_tup us)).push (PySem.HandSPX.excO C hp.objs.size)).get? (hp.objs.size + 1) = some (PySem.HandSPX.excO C hp.objs.size) := by heap_get
  have I2 := I.laid (t' := tk1) (a := hp.objs.size + 1) (o := exo (hp.objs.size + 1) C none) (h' := (hp.push (PySem.W.kdv_tup us)).push (PySem.HandSPX.excO C hp.objs.size)) kk hsz (exo_ok hG)
  have r2 := hb.rel (.cons rfl r : Vals (V.ref (hp.objs.size + 1) :: vs) (Value.ref (hp.objs.size + 1) :: us)) rz
  have e1 : (Value.ref (hp.objs.size + 1) :: us).length = n + 1 := by rw [List.length_cons, ← r.length, l1]
  have e2 : us.length ≤ sizeLine := by rw [← r.length, l1, sizeLine_eq]; omega
  refine wpAny_call (PySem.XKw.kw_call F hTT hC (PySem.W.looks_findIn I.kIn iC) (fun self => PySem.W.bind_fn I.kIn self tI) e2 (codeAny_mono (F1.run _ X.stack _ _ ⟨Value.ref (hp.objs.size + 1) :: us, ks.zip ws⟩ (g (Value.ref (hp.objs.size + 1) :: us) ws) _ _ _ (hr.make C us (ks.zip ws))
    (I2.env0.make C us (ks.zip ws)) (hb.to _ _ ws I2.kIn e1 (rz.length.symm.trans l2)) r2 hq) fun r s' hq' => ?_))
  cases r with
  | error er => exact hx pins σ _ _ er s' I2 hq'
  | ok fl =>
    cases fl with
    | ret u =>
      obtain ⟨v, H', I3, rv, ev, q3⟩ := I2.after hq'
      subst ev
      exact ⟨rv, ⟨V.ref (hp.objs.size + 1), H', I3, rfl, q3⟩⟩
    | next => exact False.elim hq'
    | brk => exact False.elim hq'
    | cont => exact False.elim hq'
theorem pe_newk (T : XC X.K C) (iC : PySem.W.findIn X.K (.ref C) "__init__" = some (some (.ref fI))) (tI : PySem.W.typeIn X.K (.ref fI) = some (.type "function")) (F1 : FnOk X.prog X.w X.K X.mg X.base CX k fI fd ps sp) (hr : Room (k + 1) X.A) (hg : Gl X x) (hm : X.mg x = some (.ref C))
    (hb : KBn X.K fd ps 1 ks g gV) (hx : Passes CX X (fun _ _ _ => False)) (hkw : PK X kws tk) (hall : (backToKw pos (keywordEach kws X.env)).all (·.1.isSome) = true := by rfl) (hks : (backToKw pos (keywordEach kws X.env)).filterMap (·.1) = ks := by rfl) (hdb : (x == ("__debug__" : Str)) = false := by decide)
    (hpl : ((backTo pos (starEach [] X.env)).any (·.1) || (backToKw pos (keywordEach kws X.env)).any (·.1.isNone)) = false := by rfl) : PE X (.Call (.Name x p) [] kws pos) (tNew C 0 ks.length sp gV tNil tk) := by
  refine ⟨fun pins s σ H Q I h => wpAny_Call_Name_kw (ld_glob I hg hm (PySem.W.callWith_KW0 (h₀ := X.base) I.ok.mod.kin T.kC hall ?_ hpl) hdb)⟩
  refine thn (hkw.run pos pins s σ H _ I h) fun ws s2 ⟨zs, H2, I2, rz, l1, l2, l3, q2⟩ => ⟨I2.kIn, ?_⟩
  rw [hks]
  exact run_new (us := []) (vs := []) T iC tI F1 hr hb hx I2 .nil rz rfl l2 l3 q2
theorem pe_new (T : XC X.K C) (iC : PySem.W.findIn X.K (.ref C) "__init__" = some (some (.ref fI))) (tI : PySem.W.typeIn X.K (.ref fI) = some (.type "function")) (F1 : FnOk X.prog X.w X.K X.mg X.base CX k fI fd ps sp) (hr : Room (k + 1) X.A) (hg : Gl X x) (hm : X.mg x = some (.ref C))
    (hb : KBn X.K fd ps (n + 1) [] g gV) (hx : Passes CX X (fun _ _ _ => False)) (ha : PA X (e :: es) t) (hdb : (x == ("__debug__" : Str)) = false := by decide) (he : starEach (e :: es) X.env = (false, eval e X.env) :: starEach es X.env := by rfl)
    (hpl : (backTo pos (starEach es X.env)).any (·.1) = false := by rfl) : PE X (.Call (.Name x p) (e :: es) [] pos) (tNew C n 0 sp gV t tNil) := by
  refine ⟨fun pins s σ H Q I h => wpAny_Call_Name_kw (ld_glob I hg hm ?_ hdb)⟩
  refine PySem.W.callWith_K (h₀ := X.base) I.ok.mod.kin T.kC (thn (ha.run pos pins s σ H _ I h) fun us s1 ⟨vs, H1, I1, r, l1, l2, l3, q⟩ => ⟨I1.kIn, ?_⟩) he hpl
  exact run_new (ws := []) (zs := []) T iC tI F1 hr hb hx I1 r .nil l1 rfl l3 q
end
end My

set_option Elab.async false
set_option linter.all false
set_option maxRecDepth 100000
set_option maxHeartbeats 4000000
/-! X4: an exception without arguments made; one raised; one kept behind its suite. -/
namespace My
open PySem PySem.Spec PyProof.Rows L2
section
variable {X : Cx} {C : Addr} {bmB : List Value} {B newId initId : String} {x : Str} {p pos : Pos}
/-- C(), C without an own __init__ -/
theorem pe_new0 (F : ExcBaseFacts B newId initId bmB) (q : PySem.W.excIn X.K C bmB newId = true) (gC : X.mg x = some (.ref C)) (kC : PySem.W.keepIn X.K (.ref C) = true) (hg : Gl X x) (hdb : (x == ("__debug__" : Str)) = false := by decide) :
    PE X (.Call (.Name x p) [] [] pos) (fun _ H Q => ∀ a, H a = none → Q (.ref a) (upd H a (exo a C none))) := by
  refine ⟨fun pins s σ H Q I h => wpAny_Call_Name_kw (ld_glob I hg gC (PySem.W.callWith_K0 I.kIn kC ?_) hdb)⟩
  show wpAny _ _ (call (.ref C) []) _ _ _
  obtain ⟨bm, N, nm, qn, bs, hdct, sn, sub, ab, col, dd, k0, k1, k2, k3, k5, mN, hC, hN, hni, T⟩ := exc_obj I.kIn q
  refine wpAny_call_exc_subT F T hC hN hni (fun h' a hm => ?_) (by rw [sizeLine_eq]; exact Nat.zero_le _)
  have hn : H a = none := I.hok.gone hm.new
  obtain ⟨t, ht, _, _⟩ := hm.there
  exact ⟨.ref a, upd H a (exo a C none), I.laidN hm.keeps hm.new hn (exo_ok ht), rfl, h a hn⟩
end
/-- C(e, ..) to be raised -/
def tRz (C : Addr) (n : Nat) (sp : Sp) (gV : List V → List V → List V) (t : TA) : L2.St → Hp → XK → Prop := fun σ H Q => t σ H fun vs H1 => vs.length = n ∧ n ≤ 1000 ∧ ∀ a, H1 a = none → sp (gV (.ref a :: vs) []) (upd H1 a (exo a C none))
  (fun v H2 => v = .non ∧ ∃ (d : Addr) (fs : List (Str × V)), H2 a = some (exo a C (some d)) ∧ H2 d = some (exd d fs) ∧ H1 d = none ∧ Q (.ref C) (some d) (upd (del H2 a) d (.xd fs))) (fun _ _ _ => False)
section
variable {X : Cx} {CX : CXT} {k n : Nat} {fI C : Addr} {fd : FuncData} {ps : List Str} {sp : Sp} {x : Str} {p pos : Pos} {e : Expr} {es : List Expr} {t : TA} {g : List Value → List Value → List Value} {gV : List V → List V → List V}
theorem pmk_new (T : XC X.K C) (iC : PySem.W.findIn X.K (.ref C) "__init__" = some (some (.ref fI))) (tI : PySem.W.typeIn X.K (.ref fI) = some (.type "function")) (F1 : FnOk X.prog X.w X.K X.mg X.base CX k fI fd ps sp) (hr : Room (k + 1) X.A) (hg : Gl X x) (hm : X.mg x = some (.ref C))
    (hb : KBn X.K fd ps (n + 1) [] g gV) (hx : Passes CX X (fun _ _ _ => False)) (ha : PA X (e :: es) t) (hdb : (x == ("__debug__" : Str)) = false := by decide) (he : starEach (e :: es) X.env = (false, eval e X.env) :: starEach es X.env := by rfl)
    (hpl : (backTo pos (starEach es X.env)).any (·.1) = false := by rfl) : PMk X (.Call (.Name x p) (e :: es) [] pos) (tRz C n sp gV t) := by
  intro pins s σ H Q I h
  refine wpAny_Call_Name_kw (ld_glob I hg hm ?_ hdb)
  refine PySem.W.callWith_K (h₀ := X.base) I.ok.mod.kin T.kC (thn (ha.run pos pins s σ H _ I h) fun us s1 ⟨vs, H1, I1, r, l1, l3, q⟩ => ⟨I1.kIn, ?_⟩) he hpl
  show wpAny _ _ (call (.ref C) us) _ _ _
  obtain ⟨B, newId, initId, bmB, F, hI, _⟩ := T.mks
  obtain ⟨nm, N, qn, bs, bm, hdct, sn, sub, ab, col, dd, k0, k1, k2, k3, k5, hC, hTT⟩ := PySem.W.excInit_of I1.kIn hI
  obtain ⟨hp, g1, dr, tk1, os⟩ := s1
  have hsz : hp.objs.size ≤ hp.objs.size + 1 := Nat.le_succ _
  have hq := q (hp.objs.size + 1) (I1.hok.fresh hsz)
  have kk : ∀ b o, hp.get? b = some o → ((hp.push (PySem.W.kdv_tup us)).push (PySem.HandSPX.excO C hp.objs.size)).get? b = some o := fun b o e => Heap.get?_push_of_some _ (Heap.get?_push_of_some _ e)
  have hG : ((hp.push (PySem.W.kdv_tup us)).push (PySem.HandSPX.excO C hp.objs.size)).get? (hp.objs.size + 1) = some (PySem.HandSPX.excO C hp.objs.size) := by heap_get
  have I2 := I1.laid (t' := tk1) (a := hp.objs.size + 1) (o := exo (hp.objs.size + 1) C none) (h' := (hp.push (PySem.W.kdv_tup us)).push (PySem.HandSPX.excO C hp.objs.size)) kk hsz (exo_ok hG)
  have r2 := hb.rel (.cons rfl r : Vals (V.ref (hp.objs.size + 1) :: vs) (Value.ref (hp.objs.size + 1) :: us)) (.nil : Vals [] [])
  have e1 : (Value.ref (hp.objs.size + 1) :: us).length = n + 1 := by rw [List.length_cons, ← r.length, l1]
  have e2 : us.length ≤ sizeLine := by rw [← r.length, l1, sizeLine_eq]; omega
  refine wpAny_call (PySem.XKw.kw_call (kw := []) F hTT hC (PySem.W.looks_findIn I1.kIn iC) (fun self => PySem.W.bind_fn I1.kIn self tI) e2 (codeAny_mono (F1.run _ X.stack _ _ ⟨Value.ref (hp.objs.size + 1) :: us, []⟩ (g (Value.ref (hp.objs.size + 1) :: us) []) _ _ _ (hr.make C us [])
    (I2.env0.make C us []) (hb.to _ _ [] I2.kIn e1 rfl) r2 hq) fun r s' hq' => ?_))
  cases r with
  | error er => exact hx pins σ _ _ er s' I2 hq'
  | ok fl =>
    cases fl with
    | ret u =>
      obtain ⟨v, H2, os2, bare2, un2, hok2, rv, ev, d, fs, ea, ed, hd1, q2⟩ := hq'
      subst ev
      obtain ⟨h2, g2, d2, t2, os'⟩ := s'
      exact ⟨rv, mk_end (raises_own T.is.hs T.ty) I1 hsz kk un2 hok2 os2 bare2 ea ed hd1 q2⟩
    | next => exact False.elim hq'
    | brk => exact False.elim hq'
    | cont => exact False.elim hq'
end
section
variable {X : Cx} {pins : List (Addr × Obj)} {σ : L2.St} {H : Hp} {s : Shared} {a : Addr} {o : HO}
/-- an object that came in the meantime is tracked from now on -/
theorem track (I : Inv X pins σ H s) (na : H a = none) (nL : a ≠ X.env.locals) (nC : ∀ x c, X.env.cells.lookup x = some c → c ≠ a) (nP : ∀ p ∈ X.pn ++ pins, p.1 ≠ a) (n0 : X.s_0.heap.get? a = none) (new : ObjOk X.prog X.w (upd H a o) s.heap a o) : Inv X pins σ (upd H a o) s := by
  have n1 : ∀ b u, X.s_0.heap.get? b = some u → b ≠ a := fun b u e z => by rw [z, n0] at e; cases e
  refine ⟨I.ok, I.os, I.bare, ⟨I.base.keep, I.base.slot, fun b u e n hq => ?_, I.base.there, fun b xs e => ?_, fun b u v e => ?_, fun b ps e => ?_⟩, I.loc, I.cell, ?_, fun x c e => ?_, fun p hp => ?_, fun b u e => ?_, I.len⟩
  · rw [upd_ne (n1 b u e)]; exact I.base.free b u e n hq
  · have q := I.base.tups b xs e
    rw [upd_ne (ne_of_none q na)]; exact q
  · have q := I.base.frzs b u v e
    rw [upd_ne (ne_of_none q na)]; exact q
  · obtain ⟨m, q⟩ := I.base.tbls b ps e
    exact ⟨m, by rw [upd_ne (ne_of_none q na)]; exact q⟩
  · rw [upd_ne (Ne.symm nL)]; exact I.free
  · rw [upd_ne (nC x c e)]; exact I.freeC x c e
  · obtain ⟨e, n, r⟩ := I.pin p hp
    exact ⟨e, by rw [upd_ne (nP p hp)]; exact n, r⟩
  · by_cases hb : b = a
    · subst hb; rw [upd_same] at e; cases e
      exact new
    · rw [upd_ne hb] at e
      exact (I.hok b u e).stay (fun c v _ q => q) (fun c q => by rw [upd_ne (ne_of_none q na)]; exact q) fun c xs q => by rw [upd_ne (ne_of_none q na)]; exact q
end
/-- what the clause 'except x as n' wishes whose suite lets the exception stand behind it (at a, tracked) -/
def wKp (K : PySem.W.Frag) (c : Value) (i : Nat) (ts : Addr → Value → Option Addr → TS) (D : Ends) : WX := fun cls d σ H =>
  PySem.W.exmOne K cls c = some true ∧ (∀ a, H a = none → ts a cls d { nx := fun σ' H' => H' a = none → D.nx (σ'.set i none) (upd H' a (xv a cls d)), rt := fun _ _ => False, bk := fun _ _ => False, ct := fun _ _ => False } (σ.set i (some (.ref a))) H)
section
variable {X : Cx} {x n : Str} {c : Value} {i : Nat} {body suite : List Stmt} {b₀ : Stmt} {np pos pos' : Pos} {tb : WX → TS} {ts : Addr → Value → Option Addr → TS}
theorem ps_try_keep (hs : X.stack = X.env :: X.outer) (hf : X.env.frame = some X.env.locals) (hE : X.ex = []) (hcl : X.env.cells = []) (hN : X.N.Nodup) (hi : X.N[i]? = some n) (hln : X.env.kindOf n = some .local) (hc : Names X x c)
    (hb : ∀ (W : WX) (pn : List (Addr × Obj)) (xe : Value → Shared → Prop), Takes (X.tr pn xe) W → PassesOwn (model X.prog X.w) X.A X.env xe → PSs (X.tr pn xe) body (tb W))
    (hsu : ∀ (a : Addr) (oe : Obj) (cls : Value) (d : Option Addr) (pn : List (Addr × Obj)), Zc cls d oe → (∃ vs, oe.data = .fields vs) → PSs (X.suite a ((a, oe) :: pn)) (b₀ :: suite) (ts a cls d)) :
    PS X (.Try body [.ExceptHandler (some (.Name x np)) (some n) (b₀ :: suite) pos'] [] [] pos) (fun D σ H => tb (wKp X.K c i ts D) D σ H) := by
  refine ⟨fun pins s σ H D I h => ?_⟩
  have ok := I.ok; have hfr : X.A.frames = some (X.env :: X.outer) := by rw [ok.frames, hs]
  have hvis : Loc X.env.scope n := .inl hln
  refine wpAny_Try_except (wpAny_mono ((hb (wKp X.K c i ts D) (X.pn ++ pins) (fun e s₁ => wpAny (model X.prog X.w) X.A (noteFrame e X.env) (fun _ s₂ => wpAny (model X.prog X.w) X.A (setFlight e none) (fun _ s₃ => wpAny (model X.prog X.w) X.A (handleBy e X.env [.ExceptHandler (some (.Name x np)) (some n) (b₀ :: suite) pos']) (SP X pins D) X.xe s₃) X.xe s₂) X.xe s₁)
    (fun u s' xx => ?_) PassesOwn.looking).run [] s σ H D (I.toTry _) h) (fun f s1 hsp => ?_) (fun e s1 he => he))
  · obtain ⟨a, B, sI, pins', σ', H', cls, d, rfl, J', nb, up, sky, na, os, ag, hb1, hyes⟩ := xx
    have J : Inv X pins σ' H' sI := J'.ofTry ok
    have sky2 : Sky B (X.env :: X.outer) a (Zc cls d) X.env.locals s'.heap := by rw [← hs]; exact sky
    show wpAny (model X.prog X.w) X.A (noteFrame (.ref a) X.env) _ _ _
    refine Sky.land Zc.steady hfr hf sky2 fun h3 fl3 up3 => ?_
    have J3 : Inv X pins σ' H' { s' with heap := h3 } := J.landed nb fl3.1 (up.trans up3) os ag
    obtain ⟨oe3, vs3, he3, hz3, hd3⟩ := fl3.there
    have noFr : a ∉ frs (X.env :: X.outer) := fun hm => by
      obtain ⟨_, o', e', hnf⟩ := fl3.2.2.1.mem hm
      rw [he3] at e'; cases e'
      exact hnf _ hd3
    have noB : ∀ {o : Obj}, sI.heap.get? a = some o → False := fun {o} e => by
      have z := nb a o e (by rw [hs]; exact noFr)
      rw [fl3.2.1] at z; cases z
    have nL : a ≠ X.env.locals := fun z => noFr (List.mem_filterMap.mpr ⟨X.env, List.mem_cons_self, by rw [hf, z]⟩)
    have nF : a ∉ X.fs := fun hm => let ⟨e, he, q⟩ := List.mem_filterMap.mp hm; noFr (List.mem_filterMap.mpr ⟨e, List.mem_cons_of_mem _ he, q⟩)
    have n0 : X.s_0.heap.get? a = none := by
      cases e : X.s_0.heap.get? a with
      | none => rfl
      | some o =>
        obtain ⟨o', q⟩ := J.base.there a o e (by rw [hE]; exact fun z => nomatch z)
        exact (noB q).elim
    have nP : ∀ p ∈ X.pn ++ pins, p.1 ≠ a := fun p hp z => noB (z ▸ (J.pin p hp).1)
    have S3 := J3.suite he3 hd3 na nL nF
    refine wpAny_handleBy_cons (codeAny_handlers_test ?_) (by intro q; cases q)
    have LT : PySem.W.Looks (model X.prog X.w) h3 (typeOf (.ref a)) cls := fun A Q E s k q => wpAny_typeOf_ref (k _ _ he3) (by rw [hz3.1]; exact q)
    have LM := PySem.W.exm_one (M := model X.prog X.w) (J3.kIn) LT hb1
    have ask : ∀ {Q : Value → Shared → Prop} {E : Value → Shared → Prop}, Q c { s' with heap := h3 } → wpAny (model X.prog X.w) (X.A.mark (some (.ref a))) (eval (.Name x np) X.env) Q E { s' with heap := h3 } := fun {Q E} q => by
      obtain ⟨hg, hdbg, hm | ⟨hm, hv, hnn⟩⟩ := hc
      · exact ld_glob (X := X.suite a ((a, oe3) :: (X.pn ++ pins))) S3 hg hm q hdbg
      · exact ld_blt (X := X.suite a ((a, oe3) :: (X.pn ++ pins))) S3 hg hm hv q hnn hdbg
    refine ask (LM.here ?_)
    refine codeAny_handlers_suite_as (HandSPX.lands_againZ fl3 fun h4 fl4 up4 => ?_)
    have J4 : Inv X pins σ' H' { s' with heap := h4 } := J.landed nb fl4.1 ((up.trans up3).trans up4) os ag
    obtain ⟨oe4, vs4, he4, hz4, hd4⟩ := fl4.there
    have S4 := J4.suite he4 hd4 na nL nF
    refine store_ok (X := X.suite a ((a, oe4) :: (X.pn ++ pins))) (v := .ref a) S4 hN hi hvis rfl (fun s5 S5 => ?_) (.inr hln)
    refine wpAny_mono ((hsu a oe4 cls d (X.pn ++ pins) hz4 ⟨_, hd4⟩).run [] s5 _ H' _ S5 (hyes a na)) (fun f s6 hsp => ?_) (fun _ _ z => False.elim z)
    cases f with
    | next =>
      obtain ⟨σ6, H6, S6, q6⟩ := hsp
      obtain ⟨p1, p2, _⟩ := S6.pin (a, oe4) (List.mem_append_left _ List.mem_cons_self)
      have S7 : Inv X pins σ6 (upd H6 a (xv a cls d)) s6 := track (S6.unsuite ok) p2 nL (fun x c e => by rw [hcl] at e; cases e) nP n0 (xv_ok p1 hz4 hd4)
      exact gone_ok S7 hN hi hln fun s7 J7 => ⟨_, _, J7, q6 p2⟩
    | brk =>
      obtain ⟨σ6, H6, S6, q6⟩ := hsp
      exact False.elim q6
    | cont =>
      obtain ⟨σ6, H6, S6, q6⟩ := hsp
      exact False.elim q6
    | ret u =>
      obtain ⟨v6, σ6, H6, S6, r6, q6⟩ := hsp
      exact False.elim q6
  · cases f with
    | next => exact let ⟨σ', H', J', q⟩ := hsp; wpAny_execs_nil ⟨σ', H', J'.ofTry ok, q⟩
    | brk => exact let ⟨σ', H', J', q⟩ := hsp; ⟨σ', H', J'.ofTry ok, q⟩
    | cont => exact let ⟨σ', H', J', q⟩ := hsp; ⟨σ', H', J'.ofTry ok, q⟩
    | ret u => exact let ⟨v, σ', H', J', r, q⟩ := hsp; ⟨v, σ', H', J'.ofTry ok, r, q⟩
end
end My

set_option Elab.async false
set_option linter.all false
set_option maxRecDepth 100000
set_option maxHeartbeats 4000000
/-! D1: short words, and the draws of a law. -/
namespace My
open PySem PySem.Spec PyProof.Rows L2
def top (i : Nat) : Stmt := PySem.Challenge.pw_trackedreads_k01_errors_made.main.body.getD i (.Pass ⟨0, 0, 0, 0⟩)
/-- what stands outside S is as it was -/
def Kp (S : List Addr) (H H' : Hp) : Prop := ∀ q o, q ∉ S → H q = some o → H' q = some o
theorem Kp.refl {S : List Addr} (H : Hp) : Kp S H H := fun _ _ _ h => h
theorem Kp.trans {S : List Addr} {H H1 H2 : Hp} (a : Kp S H H1) (b : Kp S H1 H2) : Kp S H H2 := fun q o n h => b q o n (a q o n h)
theorem Kp.mono {S T : List Addr} {H H1 : Hp} (a : Kp S H H1) (h : ∀ x, x ∈ S → x ∈ T) : Kp T H H1 := fun q o n e => a q o (fun z => n (h q z)) e
theorem Kp.new {S : List Addr} {H : Hp} {p : Addr} {o : HO} (h : H p = none) : Kp S H (upd H p o) := fun q u _ e => by
  rw [upd_ne (ne_of_none e h)]
  exact e
theorem Kp.put {S : List Addr} {H : Hp} {p : Addr} {o : HO} (h : p ∈ S) : Kp S H (upd H p o) := fun q u n e => by
  rw [upd_ne (fun z => n (by rw [z]; exact h))]
  exact e
theorem Kp.same {H H1 : Hp} (a : Kp [] H H1) : Same H H1 := fun q o e => a q o (by simp) e
theorem Kp.of_same {S : List Addr} {H H1 : Hp} (a : Same H H1) : Kp S H H1 := fun q o _ e => a q o e
section
variable {X : Cx} {a b : Expr} {ta tb : TE} {pos : Pos}
theorem ixl (ha : PE X a ta) (hb : PE X b tb) (hs : PlainIx b := by exact fun _ _ => rfl) : PE X (.Subscript a b pos) (tOp (rIxL X.K) ta tb) := pe_ix ix_list ha hb hs
theorem ixt (ha : PE X a ta) (hb : PE X b tb) (hs : PlainIx b := by exact fun _ _ => rfl) : PE X (.Subscript a b pos) (tOp (rIxT X.K) ta tb) := pe_ix ix_tup ha hb hs
def rGetL (K : PySem.W.Frag) : V → V → Hp → VK → Prop := fun x y H Q => ∃ (p : Addr) (xs : List V) (i : Nat) (v : V), x = .ref p ∧ y = .int i ∧ SqL K H p xs ∧ xs[i]? = some v ∧ Q v H
theorem get_list : PGet X (rGetL X.K) := by
  intro pins s σ H o i ov iv Q I ro ri h
  obtain ⟨p, xs, j, v, rfl, rfl, hq, he, q⟩ := h
  cases ro
  obtain ⟨t, rfl⟩ := ri
  obtain ⟨its, r, pl, hz⟩ := I.list hq
  obtain ⟨w, ew, rw'⟩ := r.get he
  have hl := r.length
  have hn := line63
  have hj : j < its.length := (List.getElem?_eq_some_iff.mp ew).1
  exact wpAny_getItem_list pl.isList (by omega) (by omega) (by simpa using ew) ⟨v, H, I, rw', q⟩
end
/-- the built-ins that the module leaves as they are -/
structure Bt (mg : Str → Option Value) : Prop where
  int : mg "int" = none
  len : mg "len" = none
  abs : mg "abs" = none
  list : mg "list" = none
  str : mg "str" = none
  range : mg "range" = none
  enumerate : mg "enumerate" = none
  isinstance : mg "isinstance" = none
  tuple : mg "tuple" = none
  set : mg "set" = none
  all : mg "all" = none
  any : mg "any" = none
  max : mg "max" = none
  min : mg "min" = none
  sorted : mg "sorted" = none
  bool : mg "bool" = none
theorem str_int_none : bootBuiltins "int" = some (.type "int") := by decide +kernel
theorem boot_abs' : bootBuiltins "abs" = some (.builtin "abs") := by decide +kernel
theorem boot_list' : bootBuiltins "list" = some (.type "list") := by decide +kernel

/-! ### the bag -/
def bagL (l : Addr) (i c s : Int) : List V := [.ref l, .int i, .int c, .int s]
def BagAt (H : Hp) (b l : Addr) : Prop := ∃ (ns : List Int) (i c s : Int), H b = some (.lst (bagL l i c s)) ∧ H l = some (.lst (ns.map V.int)) ∧ ns.length ≤ 63 ∧ 0 ≤ i ∧ 0 ≤ c ∧ 0 ≤ s ∧ s < 2147483647
theorem BagAt.ne {H : Hp} {b l : Addr} (h : BagAt H b l) : l ≠ b := by
  obtain ⟨ns, i, c, s, hb, hl, _⟩ := h
  intro e
  rw [e, hb] at hl
  cases ns with
  | nil => cases hl
  | cons n r => cases hl
theorem BagAt.kp {S : List Addr} {H H' : Hp} {b l : Addr} (h : BagAt H b l) (k : Kp S H H') (hb : b ∉ S) (hl : l ∉ S) : BagAt H' b l := by
  obtain ⟨ns, i, c, s, h1, h2, h3⟩ := h
  exact ⟨ns, i, c, s, k _ _ hb h1, k _ _ hl h2, h3⟩
def spBag (K : PySem.W.Frag) : Sp := fun vs H Q _ => ∃ (a : Addr) (ns : List Int), vs = [.ref a] ∧ SqL K H a (ns.map V.int) ∧ ns.length ≤ 63 ∧ ∀ (H' : Hp) (b l : Addr), Kp [] H H' → H b = none → H l = none → BagAt H' b l → Q (.ref b) H'
def spDraw : Sp := fun vs H Q _ => ∃ (b l : Addr) (m : Int), vs = [.ref b, .int m] ∧ BagAt H b l ∧ 0 < m ∧ m < 2 ^ 200 ∧ ∀ (H' : Hp) (r : Int), Kp [b] H H' → BagAt H' b l → 0 ≤ r → r < m → Q (.int r) H'
theorem dp_ints {K : PySem.W.Frag} {H : Hp} : ∀ ns : List Int, DpAll K H (ns.map V.int) (ns.map PyData.int)
  | [] => .nil
  | _ :: r => .cons (.int _) (dp_ints r)
theorem canLay_ints : ∀ ns : List Int, PyData.canLayAll0 (ns.map PyData.int) = true
  | [] => rfl
  | n :: r => by
    rw [List.map_cons]
    simp only [PyData.canLayAll0, PyData.canLay0, canLay_ints r, Bool.and_self, Bool.and_true]
theorem depth_ints : ∀ ns : List Int, PyData.depthAll (ns.map PyData.int) = 0
  | [] => rfl
  | n :: r => by
    rw [List.map_cons]
    simp only [PyData.depthAll, PyData.depth, depth_ints r, Nat.max_self]
theorem shaped_ints (ns : List Int) : SeqAt.shaped (.list (ns.map PyData.int)) = true := by
  unfold SeqAt.shaped
  simp only [PyData.canLay0, PyData.depth, canLay_ints, depth_ints, Bool.true_and]
  decide
section
variable {P : Program} {w : World} {K : PySem.W.Frag} {mg : Str → Option Value} {base : Heap}
abbrev sBag : Stmt := (top 22)
abbrev sDraw : Stmt := (top 23)
theorem scBag : FnScope ["_law_script"] ["_law_script"] (defScope sBag) := ⟨rfl, rfl, rfl, by decide +kernel, rfl, by decide +kernel, by decide +kernel⟩
theorem scDraw : FnScope ["_law_bag_here", "_law_many", "_law_cell", "_law_part"] ["_law_bag_here", "_law_many"] (defScope sDraw) := ⟨rfl, rfl, rfl, by decide +kernel, rfl, by decide +kernel, by decide +kernel⟩
theorem ok_bag {f : Addr} {fd : FuncData} (F : Fun K "_law_bag" "_law_bag" sBag f fd) (B : Bt mg) : FnOk P w K mg base CX0 1 f fd ["_law_script"] (spBag K) := by
  refine F.ok scBag (fun vs H Q E h => ?_) (fun cdv A outer s H vs Q E hr h => ?_)
  · obtain ⟨a, ns, rfl, _⟩ := h
    rfl
  · obtain ⟨a, ns, rfl, hS, hlen, k⟩ := h
    refine ⟨_, pss_one (ps_ret (pe_lst (pa_cons (pe_callTy call_list_of (by rfl) B.list boot_list' (pa_cons (pv 0) pa_nil)) (pa_cons pe_int (pa_cons pe_int (pa_cons pe_int pa_nil)))))), ?_⟩
    refine ⟨_, rfl, a, _, rfl, .inl hS, fun l hl => ⟨(by show 4 ≤ sizeLine; decide), fun b hb => ?_⟩⟩
    have nlb : l ≠ b := fun z => by rw [z, upd_same] at hb; cases hb
    have hb0 : H b = none := by rw [upd_ne nlb.symm] at hb; exact hb
    exact k _ b l ((Kp.new hl).trans (Kp.new hb)) hb0 hl ⟨ns, 0, 0, 1, upd_same, by rw [upd_ne nlb, upd_same], hlen, by decide, by decide, by decide, by decide⟩
theorem ok_draw {f : Addr} {fd : FuncData} (F : Fun K "_law_draw" "_law_draw" sDraw f fd) (B : Bt mg) : FnOk P w K mg base CX0 1 f fd ["_law_bag_here", "_law_many"] spDraw := by
  refine F.ok scDraw (fun vs H Q E h => ?_) (fun cdv A outer s H vs Q E hr h => ?_)
  · obtain ⟨b, l, m, rfl, _⟩ := h
    rfl
  · obtain ⟨b, l, m, rfl, hB, hm, hm2, k⟩ := h
    have nd := scDraw.nd
    refine ⟨_, pss_cons (ps_if (pt_cmpR (op_eqD hr.units) (ixl (pv 0) pe_int) (pe_lst pa_nil) (nomark _)) (pss_one (ps_ret pe_int)) pss_nil)
      (C8.pss_cut (ps_if (pt_cmpR op_eq (ixl (pv 0) pe_int) pe_int (nomark _))
        (pss_cons (ps_set (i := 2) nd rfl (Or.inl rfl) pe_int)
        (C8.pss_cut (ps_if (pt_cmpR op_lt (ixl (pv 0) pe_int) (pe_callB call_len (by rfl) B.len PySem.boot_len (pa_cons (ixl (pv 0) pe_int) pa_nil)) (nomark _))
          (pss_cons (ps_set (i := 2) nd rfl (Or.inl rfl) (pe_callB call_abs (by rfl) B.abs boot_abs' (pa_cons (ixl (ixl (pv 0) pe_int) (ixl (pv 0) pe_int)) pa_nil)))
            (pss_one (ps_augS (pv 0) pe_int get_list pe_int ip_add set_list))) pss_nil)
        (pss_cons (ps_if (pt_cmpR op_lt (pv 2) (pe_op op_pow pe_int pe_int) (nomark _))
          (pss_cons (ps_asg (pe_op op_mod (pe_callTy call_int1 (by rfl) B.int str_int_none (pa_cons (pe_op op_add (pe_op op_add (pe_op op_add (pe_op op_mul (ixl (pv 0) pe_int) pe_int) (pe_op op_mul (pv 2) pe_int)) (ixl (pv 0) pe_int)) pe_int) pa_nil)) pe_int) (pg_sub (pv 0) pe_int set_list))
            (pss_one (ps_ret (pe_op op_mod (pe_callTy call_int1 (by rfl) B.int str_int_none (pa_cons (pe_op op_fdiv (pe_op op_mod (pe_callTy call_int1 (by rfl) B.int str_int_none (pa_cons (pe_op op_add (pe_op op_mul (ixl (pv 0) pe_int) pe_int) (pe_op op_fdiv (ixl (pv 0) pe_int) pe_int)) pa_nil)) pe_int) pe_int) pa_nil)) (pv 1))))) pss_nil)
        (pss_one (ps_asg (pv 2) (pg_sub (pv 0) pe_int set_list)))))) pss_nil)
      (pss_cons (ps_set (i := 3) nd rfl (Or.inl rfl) (pe_op op_mod (pe_callTy call_int1 (by rfl) B.int str_int_none (pa_cons (ixl (pv 0) pe_int) pa_nil)) (pv 1)))
      (pss_cons (ps_asg (pe_op op_fdivW (ixl (pv 0) pe_int) (pv 1)) (pg_sub (pv 0) pe_int set_list)) (pss_one (ps_ret (pv 3)))))), ?_⟩
    have nlb : l ≠ b := hB.ne
    obtain ⟨ns, i, c, s0, hb, hl, hlen, hi, hc, hs0, hs1⟩ := hB
    refine ⟨_, rfl, b, _, _, _, rfl, rfl, SqL.of hb, rfl, Nat.zero_le _, fun p hp => ?_⟩
    have npb : b ≠ p := ne_of_none hb hp
    have npl : l ≠ p := ne_of_none hl hp
    have hb1 : upd H p (.lst []) b = some (.lst (bagL l i c s0)) := by rw [upd_ne npb]; exact hb
    have hl1 : upd H p (.lst []) l = some (.lst (ns.map V.int)) := by rw [upd_ne npl]; exact hl
    refine ⟨_, _, .lst (SqL.of hl1) (dp_ints ns), .lst (SqL.of upd_same) .nil, shaped_ints ns, by decide, _, rfl, ?_⟩
    cases ns with
    | nil =>
      exact iteT (k _ 0 (Kp.new hp) ⟨[], i, c, s0, hb1, hl1, hlen, hi, hc, hs0, hs1⟩ (Int.le_refl _) hm)
    | cons n0 nr =>
    refine iteF ?_
    generalize hns : n0 :: nr = ns at *
    clear hns n0 nr
    generalize hH1 : upd H p (.lst []) = H1 at *
    have k1 : Kp [b] H H1 := hH1 ▸ Kp.new hp
    clear hp npb npl hH1 hb hl
    refine ⟨fun σ' H' => ∃ v2, σ' = [some (.ref b), some (.int m), v2, none] ∧ Kp [b] H H' ∧ BagAt H' b l, ?_, ?_⟩
    · refine ⟨_, rfl, b, _, _, _, rfl, rfl, SqL.of hb1, rfl, rfl, _, rfl, ?_⟩
      refine ite2 (fun e0 => ?_) (fun e0 => ⟨none, rfl, k1, ns, i, c, s0, hb1, hl1, hlen, hi, hc, hs0, hs1⟩)
      refine ⟨fun σ' H' => ∃ x i', σ' = [some (.ref b), some (.int m), some (.int x), none] ∧ 0 ≤ x ∧ 0 ≤ i' ∧ Kp [b] H H' ∧ H' b = some (.lst (bagL l i' c s0)) ∧ H' l = some (.lst (ns.map V.int)), ?_, ?_⟩
      · refine ⟨_, rfl, b, _, _, _, rfl, rfl, SqL.of hb1, rfl, _, rfl, b, _, _, _, rfl, rfl, SqL.of hb1, rfl, _, _, rfl, .inl ⟨_, SqL.of hl1, rfl⟩, _, _, rfl, rfl, _, rfl, ?_⟩
        refine ite2 (fun e1 => ?_) (fun e1 => ⟨0, i, rfl, Int.le_refl _, hi, k1, hb1, hl1⟩)
        have hi2 : i < (ns.length : Int) := by
          have := of_decide_eq_true e1
          rw [List.length_map] at this
          exact this
        obtain ⟨j, rfl⟩ := Int.eq_ofNat_of_zero_le hi
        have hj : j < ns.length := by omega
        refine ⟨_, rfl, b, _, _, _, rfl, rfl, SqL.of hb1, rfl, _, rfl, b, _, _, _, rfl, rfl, SqL.of hb1, rfl, l, _, _, V.int ns[j], rfl, rfl, SqL.of hl1, atI_nat (by rw [List.getElem?_map, List.getElem?_eq_getElem hj]; rfl), _, rfl, ?_⟩
        refine ⟨_, rfl, b, _, 1, V.int j, rfl, rfl, SqL.of hb1, rfl, _, _, rfl, rfl, b, _, _, 1, rfl, rfl, hb1, rfl, ?_⟩
        refine ⟨_, (j : Int) + 1, rfl, ?_, by omega, k1.trans (Kp.put (by simp)), upd_same, by rw [upd_ne nlb]; exact hl1⟩
        split <;> omega
      · rintro σ' H' ⟨x, i', rfl, hx, hi', k2, hb2, hl2⟩
        refine ⟨_, rfl, _, _, rfl, rfl, ⟨by decide, by decide, by decide⟩, _, _, rfl, rfl, _, rfl, ?_⟩
        refine ite2 (fun e1 => ?_) (fun e1 => ?_)
        · have hx2 : x < 10 ^ 18 := of_decide_eq_true e1
          refine ⟨_, rfl, b, _, _, _, rfl, rfl, SqL.of hb2, rfl, _, _, rfl, rfl, .inl ⟨by omega, by omega⟩, _, rfl, _, _, rfl, rfl, .inl ⟨by omega, by omega⟩, _, _, rfl, rfl, _, rfl, b, _, _, _, rfl, rfl, SqL.of hb2, rfl, _, _, rfl, rfl, _, _, rfl, rfl, .inl ⟨_, rfl, ?_⟩⟩
          refine ⟨_, _, rfl, rfl, (by decide : (0 : Int) < 2147483647), _, rfl, b, _, _, 3, rfl, rfl, hb2, rfl, ?_⟩
          have hb3 : ∀ z : Int, upd H' b (.lst (List.set (bagL l i' c s0) 3 (.int z))) b = some (.lst (bagL l i' c z)) := fun z => upd_same
          obtain ⟨z, hz⟩ : ∃ z, (s0 * 48271 + x * 69621 + i' + 7) % 2147483647 = z := ⟨_, rfl⟩
          have hb4 := hb3 ((s0 * 48271 + x * 69621 + i' + 7) % 2147483647)
          have z0 : 0 ≤ z := by rw [← hz]; exact Int.emod_nonneg _ (by decide)
          have z1 : z < 2147483647 := by rw [← hz]; exact Int.emod_lt_of_pos _ (by decide)
          refine ⟨_, rfl, b, _, _, _, rfl, rfl, SqL.of hb4, rfl, _, _, rfl, rfl, .inl ⟨by omega, by omega⟩, _, rfl, b, _, _, _, rfl, rfl, SqL.of hb4, rfl, _, _, rfl, rfl, ⟨by decide, by decide⟩, _, _, rfl, rfl, .inl ⟨_, rfl, ?_⟩⟩
          refine ⟨_, _, rfl, rfl, (by decide : (0 : Int) < 2147483399), _, _, rfl, rfl, ⟨by decide, by decide⟩, .inl ⟨_, rfl, ?_⟩⟩
          refine ⟨_, rfl, _, _, rfl, rfl, hm, ?_⟩
          exact k _ _ (k2.trans (Kp.put (by simp))) ⟨ns, i', c, _, hb4, by rw [upd_ne nlb]; exact hl2, hlen, hi', hc, hz ▸ z0, hz ▸ z1⟩ (Int.emod_nonneg _ (by omega)) (Int.emod_lt_of_pos _ hm)
        · refine ⟨_, rfl, _, rfl, b, _, _, 2, rfl, rfl, hb2, rfl, ?_⟩
          exact ⟨_, rfl, k2.trans (Kp.put (by simp)), ns, i', x, s0, upd_same, by rw [upd_ne nlb]; exact hl2, hlen, hi', hx, hs0, hs1⟩
    · rintro σ' H' ⟨v2, rfl, k2, ns2, i2, c2, s2, hb2, hl2, hlen2, hi2, hc2, hs2, hs3⟩
      refine ⟨_, rfl, b, _, _, _, rfl, rfl, SqL.of hb2, rfl, .inl ⟨_, rfl, _, rfl, _, _, rfl, rfl, hm, ?_⟩⟩
      refine ⟨_, rfl, b, _, _, _, rfl, rfl, SqL.of hb2, rfl, _, rfl, _, _, rfl, rfl, wide_div (b := 200) hm (by omega) (by decide) (by decide), _, rfl, b, _, _, 2, rfl, rfl, hb2, rfl, ?_⟩
      refine ⟨_, rfl, ?_⟩
      exact k _ _ (k2.trans (Kp.put (by simp))) ⟨ns2, i2, c2 / m, s2, upd_same, by rw [upd_ne nlb]; exact hl2, hlen2, hi2, Int.ediv_nonneg hc2 (by omega), hs2, hs3⟩ (Int.emod_nonneg _ (by omega)) (Int.emod_lt_of_pos _ hm)
end
end My

set_option Elab.async false
set_option linter.all false
set_option maxRecDepth 100000
set_option maxHeartbeats 4000000
/-! K1: what an error's field may be, and copies of it. -/
namespace My
open PySem PySem.Spec PyProof.Rows L2
/-- a field: an int, a text, None; or a tuple of the text e, an int and an empty list -/
inductive Fld where
  | non | int (i : Int) | str (x : Str) | tup (i : Int)
def FAt (H : Hp) : Fld → V → Prop
  | .non, v => v = .non
  | .int i, v => v = .int i
  | .str x, v => v = .str x ∧ PyData.strOk x = true
  | .tup i, v => ∃ p l, v = .ref p ∧ H p = some (.tup [.str "e", .int i, .ref l]) ∧ H l = some (.lst [])
def Fld.data : Fld → PyData
  | .non => .none
  | .int i => .int i
  | .str x => .str x
  | .tup i => .tuple [.str "e", .int i, .list []]
theorem Fld.dp {K : PySem.W.Frag} {H : Hp} : ∀ {f : Fld} {v : V}, FAt H f v → Dp K H v f.data
  | .non, _, h => by cases h; exact .non
  | .int i, _, h => by cases h; exact .int i
  | .str x, _, h => by cases h.1; exact .str x
  | .tup i, _, h => by
    obtain ⟨p, l, rfl, hp, hl⟩ := h
    exact .tup (SqT.of hp) (.cons (.str _) (.cons (.int i) (.cons (.lst (SqL.of hl) .nil) .nil)))
theorem Fld.shaped {H : Hp} : ∀ {f : Fld} {v : V}, FAt H f v → SeqAt.shaped f.data = true
  | .non, _, _ => by decide
  | .int _, _, _ => by unfold SeqAt.shaped Fld.data; simp [PyData.canLay0, PyData.depth]
  | .str _, _, h => by unfold SeqAt.shaped Fld.data; simp [PyData.canLay0, PyData.depth, h.2]
  | .tup _, _, _ => by
    have e : PyData.strOk "e" = true := by decide +kernel
    unfold SeqAt.shaped Fld.data; simp [PyData.canLay0, PyData.canLayAll0, PyData.depth, PyData.depthAll, e]
theorem Fld.eqv (f : Fld) : PyData.eqv f.data f.data = true := by
  cases f <;> simp [Fld.data, PyData.eqv, PyData.eqvAll]
theorem FAt.same {H H' : Hp} (s : Kp [] H H') : ∀ {f : Fld} {v : V}, FAt H f v → FAt H' f v
  | .non, _, h => h
  | .int _, _, h => h
  | .str _, _, h => h
  | .tup _, _, ⟨p, l, e, hp, hl⟩ => ⟨p, l, e, s _ _ (by simp) hp, s _ _ (by simp) hl⟩
def Flat (v : V) : Prop := v = .non ∨ (∃ i, v = .int i) ∨ ∃ x, v = .str x
/-- an entry of such a tuple, copied -/
def Ent (v : V) (H : Hp) (Q : VK) : Prop := (Flat v ∧ Q v H) ∨ ∃ a, v = .ref a ∧ H a = some (.lst []) ∧ ∀ q, H q = none → Q (.ref q) (upd H q (.lst []))
/-- copied(v), one level more: a tuple's entries are copied too -/
def spCp (deep : Prop) : Sp := fun vs H Q _ => ∃ v : V, vs = [v] ∧ (Ent v H Q ∨ (deep ∧ ∃ (p l : Addr) (i : Int), v = .ref p ∧ H p = some (.tup [.str "e", .int i, .ref l]) ∧ H l = some (.lst []) ∧ ∀ H' v', Kp [] H H' → FAt H' (.tup i) v' → Q v' H'))
def spCopy : Sp := fun vs H Q _ => ∃ (v : V) (f : Fld), vs = [v] ∧ FAt H f v ∧ ∀ H' v', Kp [] H H' → FAt H' f v' → Q v' H'
structure At (K : PySem.W.Frag) (mg : Str → Option Value) (x : Str) (f : Addr) : Prop where
  g : mg x = some (.ref f)
  k : PySem.W.keepIn K (.ref f) = true
section
variable {P : Program} {w : World} {K : PySem.W.Frag} {mg : Str → Option Value} {base : Heap}
theorem boot_isi' : bootBuiltins "isinstance" = some (.builtin "isinstance") := by decide +kernel
theorem boot_tup' : bootBuiltins "tuple" = some (.type "tuple") := by decide +kernel
theorem tyL {X : Cx} {pos : Pos} (hg : Gl X "list") (hm : X.mg "list" = none) : PE X (.Name "list" pos) (tC (.ty "list")) := pe_bltn hg hm boot_list' rfl
theorem tyT {X : Cx} {pos : Pos} (hg : Gl X "tuple") (hm : X.mg "tuple" = none) : PE X (.Name "tuple" pos) (tC (.ty "tuple")) := pe_bltn hg hm boot_tup' rfl
abbrev sCopied : Stmt := (top 1)
theorem scCopied : FnScope ["value", "item"] ["value"] (defScope sCopied) := ⟨rfl, rfl, rfl, by decide +kernel, rfl, by decide +kernel, by decide +kernel⟩
theorem Flat.ty {K : PySem.W.Frag} {H : Hp} {v : V} (h : Flat v) : ∃ t : String, TyX K H v (.type t) ∧ PySem.W.kitOne K (.type t) (.type "list") = some false ∧ PySem.W.kitOne K (.type t) (.type "tuple") = some false := by
  rcases h with rfl | ⟨i, rfl⟩ | ⟨x, rfl⟩
  · exact ⟨_, .base .non, kit_ty (by decide +kernel), kit_ty (by decide +kernel)⟩
  · exact ⟨_, .base (.int i), kit_ty (by decide +kernel), kit_ty (by decide +kernel)⟩
  · exact ⟨_, .base (.str x), kit_ty (by decide +kernel), kit_ty (by decide +kernel)⟩
theorem cp_step {f : Addr} {fd : FuncData} (F : Fun K "copied" "copied" sCopied f fd) (B : Bt mg) (aC : At K mg "copied" f) (bC : Binds K fd ["value"] []) {k : Nat} {sp : Sp} (deep : Prop) (oR : FnOk P w K mg base CX0 k f fd ["value"] sp)
    (hin : deep → ∀ v H Q E, Ent v H Q → sp [v] H Q E) : FnOk P w K mg base CX0 (k + 1) f fd ["value"] (spCp deep) := by
  refine F.ok scCopied (fun vs H Q E h => ?_) (fun cdv A outer s H vs Q E hr h => ?_)
  · obtain ⟨v, rfl, _⟩ := h
    rfl
  · obtain ⟨v, rfl, h⟩ := h
    have nd := scCopied.nd
    refine ⟨_, pss_cons (ps_if (pt_val (pe_callB call_isi (by rfl) B.isinstance boot_isi' (pa_cons (pv 0) (pa_cons (tyL (by rfl) B.list) pa_nil))))
        (pss_one (ps_ret (pe_lc (own := [("item", 1)]) (g := gName 1) (tt := tYes) rfl nd (pi_list (pv 0)) (blkOk_by (own := [("item", 1)]) (N := ["value", "item"]) (sc := defScope sCopied) (by decide +kernel)) (fun _ _ _ _ _ => pg_name (i := 1) nd rfl (Or.inl rfl)) (fun _ _ _ _ _ => pts_nil)
          (fun _ _ _ _ _ => pe_call oR hr (by rfl) aC.g aC.k bC .nil pass0 (pa_cons (pv 1) pa_nil))))) pss_nil)
      (pss_cons (ps_if (pt_val (pe_callB call_isi (by rfl) B.isinstance boot_isi' (pa_cons (pv 0) (pa_cons (tyT (by rfl) B.tuple) pa_nil))))
        (pss_one (ps_ret (pe_callTy call_tuple_of (by rfl) B.tuple boot_tup' (pa_cons (pe_lc (own := [("item", 1)]) (g := gName 1) (tt := tYes) rfl nd (pi_tup (pv 0)) (blkOk_by (own := [("item", 1)]) (N := ["value", "item"]) (sc := defScope sCopied) (by decide +kernel)) (fun _ _ _ _ _ => pg_name (i := 1) nd rfl (Or.inl rfl)) (fun _ _ _ _ _ => pts_nil)
          (fun _ _ _ _ _ => pe_call oR hr (by rfl) aC.g aC.k bC .nil pass0 (pa_cons (pv 1) pa_nil))) pa_nil)))) pss_nil) (pss_one (ps_ret (pv 0)))), ?_⟩
    rcases h with (⟨hf, q⟩ | ⟨a, rfl, ha, q⟩) | ⟨hd, p, l, i, rfl, hp, hl, q⟩
    · obtain ⟨t, ty, k1, k2⟩ := hf.ty (K := K) (H := H)
      refine ⟨_, rfl, _, _, _, _, _, rfl, .ty _, ty, k1, _, rfl, ?_⟩
      refine iteF ?_
      refine ⟨_, rfl, _, _, _, _, _, rfl, .ty _, ty, k2, _, rfl, ?_⟩
      exact iteF ⟨_, rfl, q⟩
    · refine ⟨_, rfl, _, _, _, _, _, rfl, .ty _, .base (.lst ha), kit_ty (r := true) (by decide +kernel), _, rfl, ?_⟩
      refine iteT ?_
      refine ⟨_, rfl, a, rfl, ⟨_, SqL.of ha⟩, fun D hD => lc_list (K := K) (a := a) (xs := []) (fun _ H' => H' = upd H D (.lst [])) rfl (fun _ H' _ e => ?_) (fun i x H' hx => ?_) (fun H' e => ?_)⟩
      · rw [e]; exact SqL.of (by rw [upd_ne (ne_of_none ha hD)]; exact ha)
      · cases hx
      · rw [e]; exact q D hD
    · refine ⟨_, rfl, _, _, _, _, _, rfl, .ty _, .base (.tup hp), kit_ty (r := false) (by decide +kernel), _, rfl, ?_⟩
      refine iteF ?_
      refine ⟨_, rfl, _, _, _, _, _, rfl, .ty _, .base (.tup hp), kit_ty (r := true) (by decide +kernel), _, rfl, ?_⟩
      refine iteT ?_
      have three : ∀ (j : Nat) (x : V), ([V.str "e", .int i, .ref l] : List V)[j]? = some x → (j = 0 ∧ x = .str "e") ∨ (j = 1 ∧ x = .int i) ∨ (j = 2 ∧ x = .ref l) := by
        intro j x hx
        match j, hx with
        | 0, hx => exact .inl ⟨rfl, (Option.some.inj hx).symm⟩
        | 1, hx => exact .inr (.inl ⟨rfl, (Option.some.inj hx).symm⟩)
        | 2, hx => exact .inr (.inr ⟨rfl, (Option.some.inj hx).symm⟩)
      refine ⟨_, rfl, p, rfl, ⟨_, SqT.of hp⟩, fun D hD => lc_tup (K := K) (a := p) (xs := [.str "e", .int i, .ref l]) (fun j H' => Kp [] H H' ∧ ((j = 0 ∧ H' D = some (.lst [])) ∨ (j = 1 ∧ H' D = some (.lst [.str "e"])) ∨ (j = 2 ∧ H' D = some (.lst [.str "e", .int i])) ∨
        (j = 3 ∧ ∃ m, H' D = some (.lst [.str "e", .int i, .ref m]) ∧ H' m = some (.lst [])))) ⟨Kp.new hD, .inl ⟨rfl, upd_same⟩⟩ (fun j H' _ e => SqT.of (e.1 _ _ (by simp) hp)) (fun j x H' hx => ?_) (fun H' e => ?_)⟩
      · rintro ⟨kp, e⟩
        have hz := sizeLine_eq
        have keep : ∀ {o : HO}, Kp [] H (upd H' D o) := fun {o} b u nb e => by rw [upd_ne (fun z => by rw [z, hD] at e; cases e)]; exact kp b u nb e
        rcases three j x hx with ⟨rfl, rfl⟩ | ⟨rfl, rfl⟩ | ⟨rfl, rfl⟩
        · rcases e with ⟨_, e⟩ | ⟨z, _⟩ | ⟨z, _⟩ | ⟨z, _⟩
          · exact ⟨rfl, _, rfl, hin hd _ _ _ _ (.inl ⟨.inr (.inr ⟨_, rfl⟩), [], e, (by show 0 < sizeLine; omega), keep, .inr (.inl ⟨rfl, upd_same⟩)⟩)⟩
          all_goals cases z
        · rcases e with ⟨z, _⟩ | ⟨_, e⟩ | ⟨z, _⟩ | ⟨z, _⟩
          · cases z
          · exact ⟨rfl, _, rfl, hin hd _ _ _ _ (.inl ⟨.inr (.inl ⟨_, rfl⟩), _, e, (by show 1 < sizeLine; omega), keep, .inr (.inr (.inl ⟨rfl, upd_same⟩))⟩)⟩
          all_goals cases z
        · rcases e with ⟨z, _⟩ | ⟨z, _⟩ | ⟨_, e⟩ | ⟨z, _⟩
          · cases z
          · cases z
          · refine ⟨rfl, _, rfl, hin hd _ _ _ _ (.inr ⟨l, rfl, kp _ _ (by simp) hl, fun m hm => ?_⟩)⟩
            have ne : D ≠ m := ne_of_none e hm
            refine ⟨_, by rw [upd_ne ne]; exact e, (by show 2 < sizeLine; omega), fun b u nb eb => ?_, .inr (.inr (.inr ⟨rfl, m, upd_same, by rw [upd_ne ne.symm]; exact upd_same⟩))⟩
            rw [upd_ne (fun z => by rw [z, hD] at eb; cases eb), upd_ne (ne_of_none (kp b u nb eb) hm)]
            exact kp b u nb eb
          · cases z
      · obtain ⟨kp, ⟨z, _⟩ | ⟨z, _⟩ | ⟨z, _⟩ | ⟨_, m, e1, e2⟩⟩ := e
        · cases z
        · cases z
        · cases z
        · refine ⟨D, _, rfl, .inl ⟨SqL.of e1, fun t ht => q _ _ (kp.trans (Kp.new ht)) ⟨t, m, rfl, upd_same, by rw [upd_ne (ne_of_none e2 ht)]; exact e2⟩⟩⟩
theorem ok_copied {f : Addr} {fd : FuncData} (F : Fun K "copied" "copied" sCopied f fd) (B : Bt mg) (aC : At K mg "copied" f) (bC : Binds K fd ["value"] []) : FnOk P w K mg base CX0 3 f fd ["value"] spCopy := by
  have o0 : FnOk P w K mg base CX0 1 f fd ["value"] (fun _ _ _ _ => False) := ⟨fun _ _ _ _ h => h.elim, fun _ _ _ _ _ _ _ _ _ _ _ _ _ h => h.elim⟩
  have o1 := cp_step F B aC bC False o0 fun z => z.elim
  have o2 := cp_step F B aC bC True o1 fun _ v H Q E h => ⟨v, rfl, .inl h⟩
  refine o2.imp fun vs H Q E ⟨v, f, e, h, q⟩ => ⟨v, e, ?_⟩
  cases f with
  | non => exact .inl (.inl ⟨.inl h, q H v (Kp.refl H) h⟩)
  | int i => exact .inl (.inl ⟨.inr (.inl ⟨_, h⟩), q H v (Kp.refl H) h⟩)
  | str x => exact .inl (.inl ⟨.inr (.inr ⟨_, h.1⟩), q H v (Kp.refl H) h⟩)
  | tup i =>
    obtain ⟨p, l, rfl, hp, hl⟩ := h
    exact .inr ⟨True.intro, p, l, i, rfl, hp, hl, q⟩
end
end My

set_option Elab.async false
set_option linter.all false
set_option maxRecDepth 100000
set_option maxHeartbeats 4000000
/-! K2: the errors' own __init__. -/
namespace My
open PySem PySem.Spec PyProof.Rows L2
/-- C.__init__(self, v): the field f is a copy of v -/
def spIni (K : PySem.W.Frag) (f : Str) : Sp := fun vs H Q _ => ∃ (a C : Addr) (v : V) (fl : Fld), vs = [.ref a, v] ∧ XC K C ∧ PySem.W.findIn K (.ref C) f = some none ∧ H a = some (exo a C none) ∧ FAt H fl v ∧
  ∀ H' dx v', Kp [a] H H' → H dx = none → dx ≠ a → FAt H' fl v' → H' a = some (exo a C (some dx)) → H' dx = some (exd dx [(f, v')]) → Q .non H'
def spIni2 (K : PySem.W.Frag) (f g : Str) : Sp := fun vs H Q _ => ∃ (a C : Addr) (v u : V) (fl gl : Fld), vs = [.ref a, v, u] ∧ XC K C ∧ PySem.W.findIn K (.ref C) f = some none ∧ PySem.W.findIn K (.ref C) g = some none ∧ H a = some (exo a C none) ∧ FAt H fl v ∧ FAt H gl u ∧
  ∀ H' dx v' u', Kp [a] H H' → H dx = none → dx ≠ a → FAt H' fl v' → FAt H' gl u' → H' a = some (exo a C (some dx)) → H' dx = some (exd dx [(g, u'), (f, v')]) → Q .non H'
theorem FAt.but {H H' : Hp} {S : List Addr} (s : Kp S H H') (hS : ∀ x ∈ S, ∀ o, H x = some o → ∃ φ, o = .ext φ) : ∀ {f : Fld} {v : V}, FAt H f v → FAt H' f v
  | .non, _, h => h
  | .int _, _, h => h
  | .str _, _, h => h
  | .tup _, _, ⟨p, l, e, hp, hl⟩ => by
    refine ⟨p, l, e, s _ _ (fun z => ?_) hp, s _ _ (fun z => ?_) hl⟩
    · obtain ⟨φ, w⟩ := hS _ z _ hp
      cases w
    · obtain ⟨φ, w⟩ := hS _ z _ hl
      cases w
theorem back0 {H H' : Hp} {x : Addr} {S : List Addr} (k : Kp S H H') (hx : x ∉ S) (h : H' x = none) : H x = none := by
  cases e : H x with
  | none => rfl
  | some o => rw [k x o hx e] at h; cases h
/-- a class of errors with one field -/
structure Cl (P : Program) (w : World) (K : PySem.W.Frag) (mg : Str → Option Value) (base : Heap) (x f : Str) (C : Addr) : Prop where
  g : mg x = some (.ref C)
  t : XC K C
  no : PySem.W.findIn K (.ref C) f = some none
  ini : ∃ (fI : Addr) (fd : FuncData), PySem.W.findIn K (.ref C) "__init__" = some (some (.ref fI)) ∧ PySem.W.typeIn K (.ref fI) = some (.type "function") ∧ FnOk P w K mg base CX0 4 fI fd ["self", f] (spIni K f) ∧
    KBn K fd ["self", f] 2 [] (fun us ws => us ++ ws) (fun us ws => us ++ ws) ∧ KBn K fd ["self", f] 1 [f] (fun us ws => us ++ ws) (fun us ws => us ++ ws)
section
variable {P : Program} {w : World} {K : PySem.W.Frag} {mg : Str → Option Value} {base : Heap} {fC : Addr} {dC : FuncData}
theorem fun_kb {x qual : Str} {st : Stmt} {f : Addr} {fd : FuncData} {ps ks : List Str} {n : Nat} {g : {α : Type} → List α → List α → List α} (F : Fun K x qual st f fd) (hg : ∀ {vs zs : List V} {us ws : List Value}, Vals vs us → Vals zs ws → Vals (g vs zs) (g us ws))
    (h : ∀ (kV doc pm : Value) (an : Option Addr) (cdv ct : Value) (us ws : List Value), us.length = n → ws.length = ks.length → bindArgs (PySem.W.fnOf x qual (defArgs st) (defBody st) (defScope st) .none kV doc pm an cdv ct) ⟨us, ks.zip ws⟩ = pure (ps.zip (g us ws))) :
    KBn K fd ps n ks (fun us ws => g us ws) (fun us ws => g us ws) := by
  obtain ⟨oc, od, kV, doc, pm, an, cdv, ct, osl, rfl, lk, hcd⟩ := F.ex
  exact ⟨fun s us ws _ l1 l2 => .of_eq (h kV doc pm an cdv ct us ws l1 l2), fun a b => hg a b⟩
theorem ini_read {H : Hp} {f : Str} {a C : Addr} {v : V} {fl : Fld} {Q : VK} (T : XC K C) (hno : PySem.W.findIn K (.ref C) f = some none) (ha : H a = some (exo a C none)) (hF : FAt H fl v)
    (q : ∀ H' dx v', Kp [a] H H' → H dx = none → dx ≠ a → FAt H' fl v' → H' a = some (exo a C (some dx)) → H' dx = some (exd dx [(f, v')]) → Q .non H') {N : List Str} (hN : start N [.ref a, v] = [some (.ref a), some v]) :
    tXst K f (tVar 0) (tCall (dvs := []) spCopy (E := E0) (tCons (tVar 1) tNil)) { nx := fun _ H' => Q .non H', rt := Q } (start N [.ref a, v]) H := by
  rw [hN]
  refine ⟨_, rfl, v, fl, rfl, hF, fun H1 v' k1 hF1 => ⟨_, rfl, a, C, rfl, T, hno, .inl ⟨k1 _ _ (by simp) ha, fun dx hdx hne => ?_⟩⟩⟩
  have ne : a ≠ dx := hne.symm
  have k2 : Kp [a] H1 (upd (upd H1 dx (exd dx [(f, v')])) a (exo a C (some dx))) := fun b o nb e => by
    rw [upd_ne (fun z => nb (by rw [z]; simp)), upd_ne (ne_of_none e hdx)]
    exact e
  refine q _ dx v' ((k1.mono (by simp)).trans k2) (back0 k1 (by simp) hdx) hne (hF1.but k2 fun x hx o e => ?_) upd_same (by rw [upd_ne hne]; exact upd_same)
  rw [List.mem_singleton.mp hx, k1 _ _ (by simp) ha] at e
  cases e
  exact ⟨_, rfl⟩
abbrev sBadBook : Stmt := (inClass (top 4) 0)
theorem scBadBook : FnScope ["self", "at"] ["self", "at"] (defScope sBadBook) := ⟨rfl, rfl, rfl, by decide +kernel, rfl, by decide +kernel, by decide +kernel⟩
theorem clBadBook {C fI : Addr} {fd : FuncData} (F : Fun K "__init__" "BadBook.__init__" sBadBook fI fd) (FC : Fun K "copied" "copied" sCopied fC dC) (B : Bt mg) (aC : At K mg "copied" fC) (g : mg "BadBook" = some (.ref C)) (t : XC K C) (no : PySem.W.findIn K (.ref C) "at" = some none)
    (iC : PySem.W.findIn K (.ref C) "__init__" = some (some (.ref fI))) (tI : PySem.W.typeIn K (.ref fI) = some (.type "function")) : Cl P w K mg base "BadBook" "at" C := by
  have bC : Binds K dC ["value"] [] := FC.binds fun _ _ _ _ _ _ us hl => match us, hl with | [_], _ => rfl
  have oC : FnOk P w K mg base CX0 3 fC dC ["value"] spCopy := ok_copied FC B aC bC
  refine ⟨g, t, no, fI, fd, iC, tI, F.ok scBadBook (fun vs H Q E h => ?_) (fun cdv A outer s H vs Q E hr h => ?_), fun_kb F (g := fun us ws => us ++ ws) (fun a b => a.append b) (fun _ _ _ _ _ _ us ws h1 h2 => match us, ws, h1, h2 with | [_, _], [], _, _ => rfl),
    fun_kb F (g := fun us ws => us ++ ws) (fun a b => a.append b) (fun _ _ _ _ _ _ us ws h1 h2 => match us, ws, h1, h2 with | [_], [_], _, _ => rfl)⟩
  · obtain ⟨a, C, v, fl, rfl, _⟩ := h
    rfl
  · obtain ⟨a, C, v, fl, rfl, T, hno, ha, hF, q⟩ := h
    exact ⟨_, pss_one (ps_xst (pv 0) (pe_call oC hr (by rfl) aC.g aC.k bC .nil pass0 (pa_cons (pv 1) pa_nil))), ini_read T hno ha hF q rfl⟩
abbrev sTooMany : Stmt := (inClass (top 5) 0)
theorem scTooMany : FnScope ["self", "what"] ["self", "what"] (defScope sTooMany) := ⟨rfl, rfl, rfl, by decide +kernel, rfl, by decide +kernel, by decide +kernel⟩
theorem clTooMany {C fI : Addr} {fd : FuncData} (F : Fun K "__init__" "TooMany.__init__" sTooMany fI fd) (FC : Fun K "copied" "copied" sCopied fC dC) (B : Bt mg) (aC : At K mg "copied" fC) (g : mg "TooMany" = some (.ref C)) (t : XC K C) (no : PySem.W.findIn K (.ref C) "what" = some none)
    (iC : PySem.W.findIn K (.ref C) "__init__" = some (some (.ref fI))) (tI : PySem.W.typeIn K (.ref fI) = some (.type "function")) : Cl P w K mg base "TooMany" "what" C := by
  have bC : Binds K dC ["value"] [] := FC.binds fun _ _ _ _ _ _ us hl => match us, hl with | [_], _ => rfl
  have oC : FnOk P w K mg base CX0 3 fC dC ["value"] spCopy := ok_copied FC B aC bC
  refine ⟨g, t, no, fI, fd, iC, tI, F.ok scTooMany (fun vs H Q E h => ?_) (fun cdv A outer s H vs Q E hr h => ?_), fun_kb F (g := fun us ws => us ++ ws) (fun a b => a.append b) (fun _ _ _ _ _ _ us ws h1 h2 => match us, ws, h1, h2 with | [_, _], [], _, _ => rfl),
    fun_kb F (g := fun us ws => us ++ ws) (fun a b => a.append b) (fun _ _ _ _ _ _ us ws h1 h2 => match us, ws, h1, h2 with | [_], [_], _, _ => rfl)⟩
  · obtain ⟨a, C, v, fl, rfl, _⟩ := h
    rfl
  · obtain ⟨a, C, v, fl, rfl, T, hno, ha, hF, q⟩ := h
    exact ⟨_, pss_one (ps_xst (pv 0) (pe_call oC hr (by rfl) aC.g aC.k bC .nil pass0 (pa_cons (pv 1) pa_nil))), ini_read T hno ha hF q rfl⟩
abbrev sNoName : Stmt := (inClass (top 6) 0)
theorem scNoName : FnScope ["self", "name"] ["self", "name"] (defScope sNoName) := ⟨rfl, rfl, rfl, by decide +kernel, rfl, by decide +kernel, by decide +kernel⟩
theorem clNoName {C fI : Addr} {fd : FuncData} (F : Fun K "__init__" "NoName.__init__" sNoName fI fd) (FC : Fun K "copied" "copied" sCopied fC dC) (B : Bt mg) (aC : At K mg "copied" fC) (g : mg "NoName" = some (.ref C)) (t : XC K C) (no : PySem.W.findIn K (.ref C) "name" = some none)
    (iC : PySem.W.findIn K (.ref C) "__init__" = some (some (.ref fI))) (tI : PySem.W.typeIn K (.ref fI) = some (.type "function")) : Cl P w K mg base "NoName" "name" C := by
  have bC : Binds K dC ["value"] [] := FC.binds fun _ _ _ _ _ _ us hl => match us, hl with | [_], _ => rfl
  have oC : FnOk P w K mg base CX0 3 fC dC ["value"] spCopy := ok_copied FC B aC bC
  refine ⟨g, t, no, fI, fd, iC, tI, F.ok scNoName (fun vs H Q E h => ?_) (fun cdv A outer s H vs Q E hr h => ?_), fun_kb F (g := fun us ws => us ++ ws) (fun a b => a.append b) (fun _ _ _ _ _ _ us ws h1 h2 => match us, ws, h1, h2 with | [_, _], [], _, _ => rfl),
    fun_kb F (g := fun us ws => us ++ ws) (fun a b => a.append b) (fun _ _ _ _ _ _ us ws h1 h2 => match us, ws, h1, h2 with | [_], [_], _, _ => rfl)⟩
  · obtain ⟨a, C, v, fl, rfl, _⟩ := h
    rfl
  · obtain ⟨a, C, v, fl, rfl, T, hno, ha, hF, q⟩ := h
    exact ⟨_, pss_one (ps_xst (pv 0) (pe_call oC hr (by rfl) aC.g aC.k bC .nil pass0 (pa_cons (pv 1) pa_nil))), ini_read T hno ha hF q rfl⟩
abbrev sBadArguments : Stmt := (inClass (top 7) 0)
theorem scBadArguments : FnScope ["self", "count"] ["self", "count"] (defScope sBadArguments) := ⟨rfl, rfl, rfl, by decide +kernel, rfl, by decide +kernel, by decide +kernel⟩
theorem clBadArguments {C fI : Addr} {fd : FuncData} (F : Fun K "__init__" "BadArguments.__init__" sBadArguments fI fd) (FC : Fun K "copied" "copied" sCopied fC dC) (B : Bt mg) (aC : At K mg "copied" fC) (g : mg "BadArguments" = some (.ref C)) (t : XC K C) (no : PySem.W.findIn K (.ref C) "count" = some none)
    (iC : PySem.W.findIn K (.ref C) "__init__" = some (some (.ref fI))) (tI : PySem.W.typeIn K (.ref fI) = some (.type "function")) : Cl P w K mg base "BadArguments" "count" C := by
  have bC : Binds K dC ["value"] [] := FC.binds fun _ _ _ _ _ _ us hl => match us, hl with | [_], _ => rfl
  have oC : FnOk P w K mg base CX0 3 fC dC ["value"] spCopy := ok_copied FC B aC bC
  refine ⟨g, t, no, fI, fd, iC, tI, F.ok scBadArguments (fun vs H Q E h => ?_) (fun cdv A outer s H vs Q E hr h => ?_), fun_kb F (g := fun us ws => us ++ ws) (fun a b => a.append b) (fun _ _ _ _ _ _ us ws h1 h2 => match us, ws, h1, h2 with | [_, _], [], _, _ => rfl),
    fun_kb F (g := fun us ws => us ++ ws) (fun a b => a.append b) (fun _ _ _ _ _ _ us ws h1 h2 => match us, ws, h1, h2 with | [_], [_], _, _ => rfl)⟩
  · obtain ⟨a, C, v, fl, rfl, _⟩ := h
    rfl
  · obtain ⟨a, C, v, fl, rfl, T, hno, ha, hF, q⟩ := h
    exact ⟨_, pss_one (ps_xst (pv 0) (pe_call oC hr (by rfl) aC.g aC.k bC .nil pass0 (pa_cons (pv 1) pa_nil))), ini_read T hno ha hF q rfl⟩
abbrev sNotWaiting : Stmt := (inClass (top 8) 0)
theorem scNotWaiting : FnScope ["self", "name"] ["self", "name"] (defScope sNotWaiting) := ⟨rfl, rfl, rfl, by decide +kernel, rfl, by decide +kernel, by decide +kernel⟩
theorem clNotWaiting {C fI : Addr} {fd : FuncData} (F : Fun K "__init__" "NotWaiting.__init__" sNotWaiting fI fd) (FC : Fun K "copied" "copied" sCopied fC dC) (B : Bt mg) (aC : At K mg "copied" fC) (g : mg "NotWaiting" = some (.ref C)) (t : XC K C) (no : PySem.W.findIn K (.ref C) "name" = some none)
    (iC : PySem.W.findIn K (.ref C) "__init__" = some (some (.ref fI))) (tI : PySem.W.typeIn K (.ref fI) = some (.type "function")) : Cl P w K mg base "NotWaiting" "name" C := by
  have bC : Binds K dC ["value"] [] := FC.binds fun _ _ _ _ _ _ us hl => match us, hl with | [_], _ => rfl
  have oC : FnOk P w K mg base CX0 3 fC dC ["value"] spCopy := ok_copied FC B aC bC
  refine ⟨g, t, no, fI, fd, iC, tI, F.ok scNotWaiting (fun vs H Q E h => ?_) (fun cdv A outer s H vs Q E hr h => ?_), fun_kb F (g := fun us ws => us ++ ws) (fun a b => a.append b) (fun _ _ _ _ _ _ us ws h1 h2 => match us, ws, h1, h2 with | [_, _], [], _, _ => rfl),
    fun_kb F (g := fun us ws => us ++ ws) (fun a b => a.append b) (fun _ _ _ _ _ _ us ws h1 h2 => match us, ws, h1, h2 with | [_], [_], _, _ => rfl)⟩
  · obtain ⟨a, C, v, fl, rfl, _⟩ := h
    rfl
  · obtain ⟨a, C, v, fl, rfl, T, hno, ha, hF, q⟩ := h
    exact ⟨_, pss_one (ps_xst (pv 0) (pe_call oC hr (by rfl) aC.g aC.k bC .nil pass0 (pa_cons (pv 1) pa_nil))), ini_read T hno ha hF q rfl⟩
abbrev sBadState : Stmt := (inClass (top 9) 0)
theorem scBadState : FnScope ["self", "part"] ["self", "part"] (defScope sBadState) := ⟨rfl, rfl, rfl, by decide +kernel, rfl, by decide +kernel, by decide +kernel⟩
theorem clBadState {C fI : Addr} {fd : FuncData} (F : Fun K "__init__" "BadState.__init__" sBadState fI fd) (FC : Fun K "copied" "copied" sCopied fC dC) (B : Bt mg) (aC : At K mg "copied" fC) (g : mg "BadState" = some (.ref C)) (t : XC K C) (no : PySem.W.findIn K (.ref C) "part" = some none)
    (iC : PySem.W.findIn K (.ref C) "__init__" = some (some (.ref fI))) (tI : PySem.W.typeIn K (.ref fI) = some (.type "function")) : Cl P w K mg base "BadState" "part" C := by
  have bC : Binds K dC ["value"] [] := FC.binds fun _ _ _ _ _ _ us hl => match us, hl with | [_], _ => rfl
  have oC : FnOk P w K mg base CX0 3 fC dC ["value"] spCopy := ok_copied FC B aC bC
  refine ⟨g, t, no, fI, fd, iC, tI, F.ok scBadState (fun vs H Q E h => ?_) (fun cdv A outer s H vs Q E hr h => ?_), fun_kb F (g := fun us ws => us ++ ws) (fun a b => a.append b) (fun _ _ _ _ _ _ us ws h1 h2 => match us, ws, h1, h2 with | [_, _], [], _, _ => rfl),
    fun_kb F (g := fun us ws => us ++ ws) (fun a b => a.append b) (fun _ _ _ _ _ _ us ws h1 h2 => match us, ws, h1, h2 with | [_], [_], _, _ => rfl)⟩
  · obtain ⟨a, C, v, fl, rfl, _⟩ := h
    rfl
  · obtain ⟨a, C, v, fl, rfl, T, hno, ha, hF, q⟩ := h
    exact ⟨_, pss_one (ps_xst (pv 0) (pe_call oC hr (by rfl) aC.g aC.k bC .nil pass0 (pa_cons (pv 1) pa_nil))), ini_read T hno ha hF q rfl⟩
abbrev sBadRow : Stmt := (inClass (top 10) 0)
theorem scBadRow : FnScope ["self", "at"] ["self", "at"] (defScope sBadRow) := ⟨rfl, rfl, rfl, by decide +kernel, rfl, by decide +kernel, by decide +kernel⟩
theorem clBadRow {C fI : Addr} {fd : FuncData} (F : Fun K "__init__" "BadRow.__init__" sBadRow fI fd) (FC : Fun K "copied" "copied" sCopied fC dC) (B : Bt mg) (aC : At K mg "copied" fC) (g : mg "BadRow" = some (.ref C)) (t : XC K C) (no : PySem.W.findIn K (.ref C) "at" = some none)
    (iC : PySem.W.findIn K (.ref C) "__init__" = some (some (.ref fI))) (tI : PySem.W.typeIn K (.ref fI) = some (.type "function")) : Cl P w K mg base "BadRow" "at" C := by
  have bC : Binds K dC ["value"] [] := FC.binds fun _ _ _ _ _ _ us hl => match us, hl with | [_], _ => rfl
  have oC : FnOk P w K mg base CX0 3 fC dC ["value"] spCopy := ok_copied FC B aC bC
  refine ⟨g, t, no, fI, fd, iC, tI, F.ok scBadRow (fun vs H Q E h => ?_) (fun cdv A outer s H vs Q E hr h => ?_), fun_kb F (g := fun us ws => us ++ ws) (fun a b => a.append b) (fun _ _ _ _ _ _ us ws h1 h2 => match us, ws, h1, h2 with | [_, _], [], _, _ => rfl),
    fun_kb F (g := fun us ws => us ++ ws) (fun a b => a.append b) (fun _ _ _ _ _ _ us ws h1 h2 => match us, ws, h1, h2 with | [_], [_], _, _ => rfl)⟩
  · obtain ⟨a, C, v, fl, rfl, _⟩ := h
    rfl
  · obtain ⟨a, C, v, fl, rfl, T, hno, ha, hF, q⟩ := h
    exact ⟨_, pss_one (ps_xst (pv 0) (pe_call oC hr (by rfl) aC.g aC.k bC .nil pass0 (pa_cons (pv 1) pa_nil))), ini_read T hno ha hF q rfl⟩
abbrev sBadAsk : Stmt := (inClass (top 11) 0)
theorem scBadAsk : FnScope ["self", "ask"] ["self", "ask"] (defScope sBadAsk) := ⟨rfl, rfl, rfl, by decide +kernel, rfl, by decide +kernel, by decide +kernel⟩
theorem clBadAsk {C fI : Addr} {fd : FuncData} (F : Fun K "__init__" "BadAsk.__init__" sBadAsk fI fd) (FC : Fun K "copied" "copied" sCopied fC dC) (B : Bt mg) (aC : At K mg "copied" fC) (g : mg "BadAsk" = some (.ref C)) (t : XC K C) (no : PySem.W.findIn K (.ref C) "ask" = some none)
    (iC : PySem.W.findIn K (.ref C) "__init__" = some (some (.ref fI))) (tI : PySem.W.typeIn K (.ref fI) = some (.type "function")) : Cl P w K mg base "BadAsk" "ask" C := by
  have bC : Binds K dC ["value"] [] := FC.binds fun _ _ _ _ _ _ us hl => match us, hl with | [_], _ => rfl
  have oC : FnOk P w K mg base CX0 3 fC dC ["value"] spCopy := ok_copied FC B aC bC
  refine ⟨g, t, no, fI, fd, iC, tI, F.ok scBadAsk (fun vs H Q E h => ?_) (fun cdv A outer s H vs Q E hr h => ?_), fun_kb F (g := fun us ws => us ++ ws) (fun a b => a.append b) (fun _ _ _ _ _ _ us ws h1 h2 => match us, ws, h1, h2 with | [_, _], [], _, _ => rfl),
    fun_kb F (g := fun us ws => us ++ ws) (fun a b => a.append b) (fun _ _ _ _ _ _ us ws h1 h2 => match us, ws, h1, h2 with | [_], [_], _, _ => rfl)⟩
  · obtain ⟨a, C, v, fl, rfl, _⟩ := h
    rfl
  · obtain ⟨a, C, v, fl, rfl, T, hno, ha, hF, q⟩ := h
    exact ⟨_, pss_one (ps_xst (pv 0) (pe_call oC hr (by rfl) aC.g aC.k bC .nil pass0 (pa_cons (pv 1) pa_nil))), ini_read T hno ha hF q rfl⟩
abbrev sBadStep : Stmt := (inClass (top 12) 0)
theorem scBadStep : FnScope ["self", "at"] ["self", "at"] (defScope sBadStep) := ⟨rfl, rfl, rfl, by decide +kernel, rfl, by decide +kernel, by decide +kernel⟩
theorem clBadStep {C fI : Addr} {fd : FuncData} (F : Fun K "__init__" "BadStep.__init__" sBadStep fI fd) (FC : Fun K "copied" "copied" sCopied fC dC) (B : Bt mg) (aC : At K mg "copied" fC) (g : mg "BadStep" = some (.ref C)) (t : XC K C) (no : PySem.W.findIn K (.ref C) "at" = some none)
    (iC : PySem.W.findIn K (.ref C) "__init__" = some (some (.ref fI))) (tI : PySem.W.typeIn K (.ref fI) = some (.type "function")) : Cl P w K mg base "BadStep" "at" C := by
  have bC : Binds K dC ["value"] [] := FC.binds fun _ _ _ _ _ _ us hl => match us, hl with | [_], _ => rfl
  have oC : FnOk P w K mg base CX0 3 fC dC ["value"] spCopy := ok_copied FC B aC bC
  refine ⟨g, t, no, fI, fd, iC, tI, F.ok scBadStep (fun vs H Q E h => ?_) (fun cdv A outer s H vs Q E hr h => ?_), fun_kb F (g := fun us ws => us ++ ws) (fun a b => a.append b) (fun _ _ _ _ _ _ us ws h1 h2 => match us, ws, h1, h2 with | [_, _], [], _, _ => rfl),
    fun_kb F (g := fun us ws => us ++ ws) (fun a b => a.append b) (fun _ _ _ _ _ _ us ws h1 h2 => match us, ws, h1, h2 with | [_], [_], _, _ => rfl)⟩
  · obtain ⟨a, C, v, fl, rfl, _⟩ := h
    rfl
  · obtain ⟨a, C, v, fl, rfl, T, hno, ha, hF, q⟩ := h
    exact ⟨_, pss_one (ps_xst (pv 0) (pe_call oC hr (by rfl) aC.g aC.k bC .nil pass0 (pa_cons (pv 1) pa_nil))), ini_read T hno ha hF q rfl⟩
abbrev sUnlike : Stmt := (inClass (top 13) 0)
theorem scUnlike : FnScope ["self", "what"] ["self", "what"] (defScope sUnlike) := ⟨rfl, rfl, rfl, by decide +kernel, rfl, by decide +kernel, by decide +kernel⟩
theorem clUnlike {C fI : Addr} {fd : FuncData} (F : Fun K "__init__" "Unlike.__init__" sUnlike fI fd) (FC : Fun K "copied" "copied" sCopied fC dC) (B : Bt mg) (aC : At K mg "copied" fC) (g : mg "Unlike" = some (.ref C)) (t : XC K C) (no : PySem.W.findIn K (.ref C) "what" = some none)
    (iC : PySem.W.findIn K (.ref C) "__init__" = some (some (.ref fI))) (tI : PySem.W.typeIn K (.ref fI) = some (.type "function")) : Cl P w K mg base "Unlike" "what" C := by
  have bC : Binds K dC ["value"] [] := FC.binds fun _ _ _ _ _ _ us hl => match us, hl with | [_], _ => rfl
  have oC : FnOk P w K mg base CX0 3 fC dC ["value"] spCopy := ok_copied FC B aC bC
  refine ⟨g, t, no, fI, fd, iC, tI, F.ok scUnlike (fun vs H Q E h => ?_) (fun cdv A outer s H vs Q E hr h => ?_), fun_kb F (g := fun us ws => us ++ ws) (fun a b => a.append b) (fun _ _ _ _ _ _ us ws h1 h2 => match us, ws, h1, h2 with | [_, _], [], _, _ => rfl),
    fun_kb F (g := fun us ws => us ++ ws) (fun a b => a.append b) (fun _ _ _ _ _ _ us ws h1 h2 => match us, ws, h1, h2 with | [_], [_], _, _ => rfl)⟩
  · obtain ⟨a, C, v, fl, rfl, _⟩ := h
    rfl
  · obtain ⟨a, C, v, fl, rfl, T, hno, ha, hF, q⟩ := h
    exact ⟨_, pss_one (ps_xst (pv 0) (pe_call oC hr (by rfl) aC.g aC.k bC .nil pass0 (pa_cons (pv 1) pa_nil))), ini_read T hno ha hF q rfl⟩
abbrev sHasWait : Stmt := (inClass (top 14) 0)
theorem scHasWait : FnScope ["self", "name"] ["self", "name"] (defScope sHasWait) := ⟨rfl, rfl, rfl, by decide +kernel, rfl, by decide +kernel, by decide +kernel⟩
theorem clHasWait {C fI : Addr} {fd : FuncData} (F : Fun K "__init__" "HasWait.__init__" sHasWait fI fd) (FC : Fun K "copied" "copied" sCopied fC dC) (B : Bt mg) (aC : At K mg "copied" fC) (g : mg "HasWait" = some (.ref C)) (t : XC K C) (no : PySem.W.findIn K (.ref C) "name" = some none)
    (iC : PySem.W.findIn K (.ref C) "__init__" = some (some (.ref fI))) (tI : PySem.W.typeIn K (.ref fI) = some (.type "function")) : Cl P w K mg base "HasWait" "name" C := by
  have bC : Binds K dC ["value"] [] := FC.binds fun _ _ _ _ _ _ us hl => match us, hl with | [_], _ => rfl
  have oC : FnOk P w K mg base CX0 3 fC dC ["value"] spCopy := ok_copied FC B aC bC
  refine ⟨g, t, no, fI, fd, iC, tI, F.ok scHasWait (fun vs H Q E h => ?_) (fun cdv A outer s H vs Q E hr h => ?_), fun_kb F (g := fun us ws => us ++ ws) (fun a b => a.append b) (fun _ _ _ _ _ _ us ws h1 h2 => match us, ws, h1, h2 with | [_, _], [], _, _ => rfl),
    fun_kb F (g := fun us ws => us ++ ws) (fun a b => a.append b) (fun _ _ _ _ _ _ us ws h1 h2 => match us, ws, h1, h2 with | [_], [_], _, _ => rfl)⟩
  · obtain ⟨a, C, v, fl, rfl, _⟩ := h
    rfl
  · obtain ⟨a, C, v, fl, rfl, T, hno, ha, hF, q⟩ := h
    exact ⟨_, pss_one (ps_xst (pv 0) (pe_call oC hr (by rfl) aC.g aC.k bC .nil pass0 (pa_cons (pv 1) pa_nil))), ini_read T hno ha hF q rfl⟩
abbrev sTaken : Stmt := (inClass (top 15) 0)
theorem scTaken : FnScope ["self", "name"] ["self", "name"] (defScope sTaken) := ⟨rfl, rfl, rfl, by decide +kernel, rfl, by decide +kernel, by decide +kernel⟩
theorem clTaken {C fI : Addr} {fd : FuncData} (F : Fun K "__init__" "Taken.__init__" sTaken fI fd) (FC : Fun K "copied" "copied" sCopied fC dC) (B : Bt mg) (aC : At K mg "copied" fC) (g : mg "Taken" = some (.ref C)) (t : XC K C) (no : PySem.W.findIn K (.ref C) "name" = some none)
    (iC : PySem.W.findIn K (.ref C) "__init__" = some (some (.ref fI))) (tI : PySem.W.typeIn K (.ref fI) = some (.type "function")) : Cl P w K mg base "Taken" "name" C := by
  have bC : Binds K dC ["value"] [] := FC.binds fun _ _ _ _ _ _ us hl => match us, hl with | [_], _ => rfl
  have oC : FnOk P w K mg base CX0 3 fC dC ["value"] spCopy := ok_copied FC B aC bC
  refine ⟨g, t, no, fI, fd, iC, tI, F.ok scTaken (fun vs H Q E h => ?_) (fun cdv A outer s H vs Q E hr h => ?_), fun_kb F (g := fun us ws => us ++ ws) (fun a b => a.append b) (fun _ _ _ _ _ _ us ws h1 h2 => match us, ws, h1, h2 with | [_, _], [], _, _ => rfl),
    fun_kb F (g := fun us ws => us ++ ws) (fun a b => a.append b) (fun _ _ _ _ _ _ us ws h1 h2 => match us, ws, h1, h2 with | [_], [_], _, _ => rfl)⟩
  · obtain ⟨a, C, v, fl, rfl, _⟩ := h
    rfl
  · obtain ⟨a, C, v, fl, rfl, T, hno, ha, hF, q⟩ := h
    exact ⟨_, pss_one (ps_xst (pv 0) (pe_call oC hr (by rfl) aC.g aC.k bC .nil pass0 (pa_cons (pv 1) pa_nil))), ini_read T hno ha hF q rfl⟩
abbrev sTooLong : Stmt := (inClass (top 18) 0)
theorem scTooLong : FnScope ["self", "cells"] ["self", "cells"] (defScope sTooLong) := ⟨rfl, rfl, rfl, by decide +kernel, rfl, by decide +kernel, by decide +kernel⟩
theorem clTooLong {C fI : Addr} {fd : FuncData} (F : Fun K "__init__" "TooLong.__init__" sTooLong fI fd) (FC : Fun K "copied" "copied" sCopied fC dC) (B : Bt mg) (aC : At K mg "copied" fC) (g : mg "TooLong" = some (.ref C)) (t : XC K C) (no : PySem.W.findIn K (.ref C) "cells" = some none)
    (iC : PySem.W.findIn K (.ref C) "__init__" = some (some (.ref fI))) (tI : PySem.W.typeIn K (.ref fI) = some (.type "function")) : Cl P w K mg base "TooLong" "cells" C := by
  have bC : Binds K dC ["value"] [] := FC.binds fun _ _ _ _ _ _ us hl => match us, hl with | [_], _ => rfl
  have oC : FnOk P w K mg base CX0 3 fC dC ["value"] spCopy := ok_copied FC B aC bC
  refine ⟨g, t, no, fI, fd, iC, tI, F.ok scTooLong (fun vs H Q E h => ?_) (fun cdv A outer s H vs Q E hr h => ?_), fun_kb F (g := fun us ws => us ++ ws) (fun a b => a.append b) (fun _ _ _ _ _ _ us ws h1 h2 => match us, ws, h1, h2 with | [_, _], [], _, _ => rfl),
    fun_kb F (g := fun us ws => us ++ ws) (fun a b => a.append b) (fun _ _ _ _ _ _ us ws h1 h2 => match us, ws, h1, h2 with | [_], [_], _, _ => rfl)⟩
  · obtain ⟨a, C, v, fl, rfl, _⟩ := h
    rfl
  · obtain ⟨a, C, v, fl, rfl, T, hno, ha, hF, q⟩ := h
    exact ⟨_, pss_one (ps_xst (pv 0) (pe_call oC hr (by rfl) aC.g aC.k bC .nil pass0 (pa_cons (pv 1) pa_nil))), ini_read T hno ha hF q rfl⟩
abbrev sMisplaced : Stmt := (inClass (top 19) 0)
theorem scMisplaced : FnScope ["self", "name"] ["self", "name"] (defScope sMisplaced) := ⟨rfl, rfl, rfl, by decide +kernel, rfl, by decide +kernel, by decide +kernel⟩
theorem clMisplaced {C fI : Addr} {fd : FuncData} (F : Fun K "__init__" "Misplaced.__init__" sMisplaced fI fd) (FC : Fun K "copied" "copied" sCopied fC dC) (B : Bt mg) (aC : At K mg "copied" fC) (g : mg "Misplaced" = some (.ref C)) (t : XC K C) (no : PySem.W.findIn K (.ref C) "name" = some none)
    (iC : PySem.W.findIn K (.ref C) "__init__" = some (some (.ref fI))) (tI : PySem.W.typeIn K (.ref fI) = some (.type "function")) : Cl P w K mg base "Misplaced" "name" C := by
  have bC : Binds K dC ["value"] [] := FC.binds fun _ _ _ _ _ _ us hl => match us, hl with | [_], _ => rfl
  have oC : FnOk P w K mg base CX0 3 fC dC ["value"] spCopy := ok_copied FC B aC bC
  refine ⟨g, t, no, fI, fd, iC, tI, F.ok scMisplaced (fun vs H Q E h => ?_) (fun cdv A outer s H vs Q E hr h => ?_), fun_kb F (g := fun us ws => us ++ ws) (fun a b => a.append b) (fun _ _ _ _ _ _ us ws h1 h2 => match us, ws, h1, h2 with | [_, _], [], _, _ => rfl),
    fun_kb F (g := fun us ws => us ++ ws) (fun a b => a.append b) (fun _ _ _ _ _ _ us ws h1 h2 => match us, ws, h1, h2 with | [_], [_], _, _ => rfl)⟩
  · obtain ⟨a, C, v, fl, rfl, _⟩ := h
    rfl
  · obtain ⟨a, C, v, fl, rfl, T, hno, ha, hF, q⟩ := h
    exact ⟨_, pss_one (ps_xst (pv 0) (pe_call oC hr (by rfl) aC.g aC.k bC .nil pass0 (pa_cons (pv 1) pa_nil))), ini_read T hno ha hF q rfl⟩
abbrev sBusy : Stmt := (inClass (top 20) 0)
theorem scBusy : FnScope ["self", "name"] ["self", "name"] (defScope sBusy) := ⟨rfl, rfl, rfl, by decide +kernel, rfl, by decide +kernel, by decide +kernel⟩
theorem clBusy {C fI : Addr} {fd : FuncData} (F : Fun K "__init__" "Busy.__init__" sBusy fI fd) (FC : Fun K "copied" "copied" sCopied fC dC) (B : Bt mg) (aC : At K mg "copied" fC) (g : mg "Busy" = some (.ref C)) (t : XC K C) (no : PySem.W.findIn K (.ref C) "name" = some none)
    (iC : PySem.W.findIn K (.ref C) "__init__" = some (some (.ref fI))) (tI : PySem.W.typeIn K (.ref fI) = some (.type "function")) : Cl P w K mg base "Busy" "name" C := by
  have bC : Binds K dC ["value"] [] := FC.binds fun _ _ _ _ _ _ us hl => match us, hl with | [_], _ => rfl
  have oC : FnOk P w K mg base CX0 3 fC dC ["value"] spCopy := ok_copied FC B aC bC
  refine ⟨g, t, no, fI, fd, iC, tI, F.ok scBusy (fun vs H Q E h => ?_) (fun cdv A outer s H vs Q E hr h => ?_), fun_kb F (g := fun us ws => us ++ ws) (fun a b => a.append b) (fun _ _ _ _ _ _ us ws h1 h2 => match us, ws, h1, h2 with | [_, _], [], _, _ => rfl),
    fun_kb F (g := fun us ws => us ++ ws) (fun a b => a.append b) (fun _ _ _ _ _ _ us ws h1 h2 => match us, ws, h1, h2 with | [_], [_], _, _ => rfl)⟩
  · obtain ⟨a, C, v, fl, rfl, _⟩ := h
    rfl
  · obtain ⟨a, C, v, fl, rfl, T, hno, ha, hF, q⟩ := h
    exact ⟨_, pss_one (ps_xst (pv 0) (pe_call oC hr (by rfl) aC.g aC.k bC .nil pass0 (pa_cons (pv 1) pa_nil))), ini_read T hno ha hF q rfl⟩
theorem vals_rev : ∀ {vs : List V} {us : List Value}, Vals vs us → Vals vs.reverse us.reverse
  | _, _, .nil => .nil
  | _, _, .cons a b => by
    rw [List.reverse_cons, List.reverse_cons]
    exact (vals_rev b).append (.cons a .nil)
/-- the class of errors with two fields -/
structure ClR (P : Program) (w : World) (K : PySem.W.Frag) (mg : Str → Option Value) (base : Heap) (x f y : Str) (C : Addr) : Prop where
  g : mg x = some (.ref C)
  t : XC K C
  no : PySem.W.findIn K (.ref C) f = some none
  no2 : PySem.W.findIn K (.ref C) y = some none
  ini : ∃ (fI : Addr) (fd : FuncData), PySem.W.findIn K (.ref C) "__init__" = some (some (.ref fI)) ∧ PySem.W.typeIn K (.ref fI) = some (.type "function") ∧ FnOk P w K mg base CX0 4 fI fd ["self", f, y] (spIni2 K f y) ∧
    KBn K fd ["self", f, y] 3 [] (fun us ws => us ++ ws.reverse) (fun us ws => us ++ ws.reverse) ∧ KBn K fd ["self", f, y] 1 [y, f] (fun us ws => us ++ ws.reverse) (fun us ws => us ++ ws.reverse)
abbrev sRing : Stmt := (inClass (top 16) 0)
theorem scRing : FnScope ["self", "effects", "cells"] ["self", "effects", "cells"] (defScope sRing) := ⟨rfl, rfl, rfl, by decide +kernel, rfl, by decide +kernel, by decide +kernel⟩
theorem clRing {C fI : Addr} {fd : FuncData} (F : Fun K "__init__" "Ring.__init__" sRing fI fd) (FC : Fun K "copied" "copied" sCopied fC dC) (B : Bt mg) (aC : At K mg "copied" fC) (g : mg "Ring" = some (.ref C)) (t : XC K C) (no : PySem.W.findIn K (.ref C) "effects" = some none) (no2 : PySem.W.findIn K (.ref C) "cells" = some none)
    (iC : PySem.W.findIn K (.ref C) "__init__" = some (some (.ref fI))) (tI : PySem.W.typeIn K (.ref fI) = some (.type "function")) : ClR P w K mg base "Ring" "effects" "cells" C := by
  have bC : Binds K dC ["value"] [] := FC.binds fun _ _ _ _ _ _ us hl => match us, hl with | [_], _ => rfl
  have oC : FnOk P w K mg base CX0 3 fC dC ["value"] spCopy := ok_copied FC B aC bC
  refine ⟨g, t, no, no2, fI, fd, iC, tI, F.ok scRing (fun vs H Q E h => ?_) (fun cdv A outer s H vs Q E hr h => ?_), fun_kb F (g := fun us ws => us ++ ws.reverse) (fun a b => a.append (vals_rev b)) (fun _ _ _ _ _ _ us ws h1 h2 => match us, ws, h1, h2 with | [_, _, _], [], _, _ => rfl),
    fun_kb F (g := fun us ws => us ++ ws.reverse) (fun a b => a.append (vals_rev b)) (fun _ _ _ _ _ _ us ws h1 h2 => match us, ws, h1, h2 with | [_], [_, _], _, _ => rfl)⟩
  · obtain ⟨a, C, v, u, fl, gl, rfl, _⟩ := h
    rfl
  · obtain ⟨a, C, v, u, fl, gl, rfl, T, hno, hno2, ha, hF, hG, q⟩ := h
    refine ⟨_, pss_cons (ps_xst (pv 0) (pe_call oC hr (by rfl) aC.g aC.k bC .nil pass0 (pa_cons (pv 1) pa_nil))) (pss_one (ps_xst (pv 0) (pe_call oC hr (by rfl) aC.g aC.k bC .nil pass0 (pa_cons (pv 2) pa_nil)))), ?_⟩
    refine ⟨_, rfl, v, fl, rfl, hF, fun H1 v' k1 hF1 => ⟨_, rfl, a, C, rfl, T, hno, .inl ⟨k1 _ _ (by simp) ha, fun dx hdx hne => ?_⟩⟩⟩
    have ha1 := k1 _ _ (by simp) ha
    have ne : a ≠ dx := hne.symm
    have k2 : Kp [a] H1 (upd (upd H1 dx (exd dx [("effects", v')])) a (exo a C (some dx))) := fun b o nb e => by
      rw [upd_ne (fun z => nb (by rw [z]; simp)), upd_ne (ne_of_none e hdx)]
      exact e
    have xa : ∀ x ∈ [a], ∀ o, H1 x = some o → ∃ φ, o = .ext φ := fun x hx o e => by
      rw [List.mem_singleton.mp hx, ha1] at e
      cases e
      exact ⟨_, rfl⟩
    have hF2 := hF1.but k2 xa
    have hG2 := (hG.same k1).but k2 xa
    have ea : upd (upd H1 dx (exd dx [("effects", v')])) a (exo a C (some dx)) a = some (exo a C (some dx)) := upd_same
    have ed : upd (upd H1 dx (exd dx [("effects", v')])) a (exo a C (some dx)) dx = some (exd dx [("effects", v')]) := by rw [upd_ne hne]; exact upd_same
    generalize upd (upd H1 dx (exd dx [("effects", v')])) a (exo a C (some dx)) = H2 at k2 hF2 hG2 ea ed ⊢
    refine ⟨_, rfl, u, gl, rfl, hG2, fun H3 u' k3 hG3 => ⟨_, rfl, a, C, rfl, T, hno2, .inr ⟨dx, _, k3 _ _ (by simp) ea, k3 _ _ (by simp) ed, (by show 1 ≤ 900; decide), ?_⟩⟩⟩
    have ed3 := k3 _ _ (by simp) ed
    have k4 : Kp [dx] H3 (upd H3 dx (exd dx [("cells", u'), ("effects", v')])) := Kp.put (by simp)
    have xd : ∀ x ∈ [dx], ∀ o, H3 x = some o → ∃ φ, o = .ext φ := fun x hx o e => by
      rw [List.mem_singleton.mp hx, ed3] at e
      cases e
      exact ⟨_, rfl⟩
    have hdx0 : H dx = none := back0 k1 (by simp) hdx
    refine q _ dx v' u' (fun b o nb e => ?_) hdx0 hne ((hF2.same k3).but k4 xd) (hG3.but k4 xd) (by rw [upd_ne ne]; exact k3 _ _ (by simp) ea) upd_same
    rw [upd_ne (ne_of_none e hdx0)]
    exact k3 _ _ (by simp) (k2 _ _ nb (k1 _ _ (by simp) e))
end
end My

set_option Elab.async false
set_option linter.all false
set_option maxRecDepth 100000
set_option maxHeartbeats 4000000
/-! K3: errors made, in short. -/
namespace My
open PySem PySem.Spec PyProof.Rows L2
/-- a is an error of the class C whose fields are fs -/
def Err (H : Hp) (C a : Addr) (fs : List (Str × Fld)) : Prop := ∃ (dx : Addr) (vs : List (Str × V)), XO H a C (some dx) ∧ XD H dx vs ∧ ∀ f fl, fs.lookup f = some fl → ∃ v, vs.lookup f = some v ∧ FAt H fl v
theorem XO.same {H H' : Hp} {a C : Addr} {d : Option Addr} (h : XO H a C d) (k : Kp [] H H') : XO H' a C d := by
  rcases h with e | e
  · exact .a (k _ _ (by simp) e)
  · exact .b (k _ _ (by simp) e)
theorem XD.same {H H' : Hp} {dx : Addr} {fs : List (Str × V)} (h : XD H dx fs) (k : Kp [] H H') : XD H' dx fs := by
  rcases h with e | e
  · exact .a (k _ _ (by simp) e)
  · exact .b (k _ _ (by simp) e)
theorem Err.same {H H' : Hp} {a C : Addr} {fs : List (Str × Fld)} (h : Err H C a fs) (k : Kp [] H H') : Err H' C a fs := by
  obtain ⟨dx, vs, h1, h2, h3⟩ := h
  refine ⟨dx, vs, h1.same k, h2.same k, fun f fl e => ?_⟩
  obtain ⟨v, e1, e2⟩ := h3 f fl e
  exact ⟨v, e1, e2.same k⟩
def tMk1 (C : Addr) (f : Str) (i : Nat) : TE := fun σ H Q => tVar i σ H fun v H1 => ∃ fl, FAt H1 fl v ∧ ∀ H' a, Kp [] H1 H' → Err H' C a [(f, fl)] → Q (.ref a) H'
def tMk2 (C : Addr) (f g : Str) (i j : Nat) : TE := fun σ H Q => tVar i σ H fun v H1 => tVar j σ H1 fun u H2 => ∃ fl gl, FAt H2 fl v ∧ FAt H2 gl u ∧ ∀ H' a, Kp [] H2 H' → Err H' C a [(f, fl), (g, gl)] → Q (.ref a) H'
theorem PE.imp {X : Cx} {e : Expr} {t t' : TE} (h : PE X e t) (i : ∀ σ H Q, t' σ H Q → t σ H Q) : PE X e t' := ⟨fun pins s σ H Q I q => h.run pins s σ H Q I (i σ H Q q)⟩
theorem lk_cons {α : Type} (f g : Str) (y : α) (fs : List (Str × α)) : ((f, y) :: fs).lookup g = if g = f then some y else fs.lookup g := by
  by_cases h : g = f
  · subst h
    rw [if_pos rfl]
    simp [List.lookup]
  · have e : (g == f) = false := by simpa using h
    rw [if_neg h]
    simp only [List.lookup, e]
theorem lk_nil {α : Type} (g : Str) : ([] : List (Str × α)).lookup g = none := rfl
theorem err_of {H1 H' : Hp} {a C dx : Addr} {f : Str} {fl : Fld} {v' : V} (na : H1 a = none) (k : Kp [a] (upd H1 a (exo a C none)) H') (ha : H' a = some (exo a C (some dx))) (hd : H' dx = some (exd dx [(f, v')])) (hF : FAt H' fl v') : Kp [] H1 H' ∧ Err H' C a [(f, fl)] := by
  refine ⟨fun b o _ e => k b o (fun z => ?_) (by rw [upd_ne (ne_of_none e na)]; exact e), dx, _, .a ha, .a hd, fun y fy e => ?_⟩
  · rw [List.mem_singleton.mp z, na] at e; cases e
  · rw [lk_cons, lk_nil] at e ⊢
    split at e
    · cases e
      exact ⟨v', by rename_i c; rw [if_pos c], hF⟩
    · cases e
theorem err_of2 {H1 H' : Hp} {a C dx : Addr} {f g : Str} {fl gl : Fld} {v' u' : V} (fg : f ≠ g) (na : H1 a = none) (k : Kp [a] (upd H1 a (exo a C none)) H') (ha : H' a = some (exo a C (some dx))) (hd : H' dx = some (exd dx [(g, u'), (f, v')])) (hF : FAt H' fl v') (hG : FAt H' gl u') :
    Kp [] H1 H' ∧ Err H' C a [(f, fl), (g, gl)] := by
  refine ⟨fun b o _ e => k b o (fun z => ?_) (by rw [upd_ne (ne_of_none e na)]; exact e), dx, _, .a ha, .a hd, fun y fy e => ?_⟩
  · rw [List.mem_singleton.mp z, na] at e; cases e
  · rw [lk_cons, lk_cons, lk_nil] at e ⊢
    split at e
    · cases e
      rename_i c
      exact ⟨v', by rw [if_neg (by rw [c]; exact fg), if_pos c], hF⟩
    · split at e
      · cases e
        rename_i c
        exact ⟨u', by rw [if_pos c], hG⟩
      · cases e
theorem FAt.put {H : Hp} {a C : Addr} {f : Fld} {v : V} (na : H a = none) (h : FAt H f v) : FAt (upd H a (exo a C none)) f v := h.same (Kp.new na)
section
variable {X : Cx} {C : Addr} {x f g : Str} {e e2 : Expr} {i j : Nat} {p pos kp kp2 : Pos}
theorem pe_mk1 (c : Cl X.prog X.w X.K X.mg X.base x f C) (hr : Room 5 X.A) (hg : Gl X x) (he : PE X e (tVar i)) (hdb : (x == ("__debug__" : Str)) = false := by decide) (hs : starEach [e] X.env = (false, eval e X.env) :: starEach [] X.env := by rfl) : PE X (.Call (.Name x p) [e] [] pos) (tMk1 C f i) := by
  obtain ⟨fI, fd, iC, tI, F1, b1, b2⟩ := c.ini
  refine PE.imp (pe_new c.t iC tI F1 hr hg c.g b1 pass0 (pa_cons he pa_nil hs) hdb hs (by rfl)) fun σ H Q ⟨v, hv, fl, hF, q⟩ => ⟨v, hv, rfl, rfl, by decide, fun a na => ?_⟩
  refine ⟨a, C, v, fl, rfl, c.t, c.no, upd_same, hF.put na, fun H' dx v' k _ _ hF' ha hd => ⟨rfl, ?_⟩⟩
  obtain ⟨k', er⟩ := err_of (f := f) (fl := fl) na k ha hd hF'
  exact q H' a k' er
theorem pe_mkk (c : Cl X.prog X.w X.K X.mg X.base x f C) (hr : Room 5 X.A) (hg : Gl X x) (he : PE X e (tVar i)) (hdb : (x == ("__debug__" : Str)) = false := by decide) (hall : (backToKw pos (keywordEach [⟨some f, e, kp⟩] X.env)).all (·.1.isSome) = true := by rfl)
    (hks : (backToKw pos (keywordEach [⟨some f, e, kp⟩] X.env)).filterMap (·.1) = [f] := by rfl) (hpl : ((backTo pos (starEach [] X.env)).any (·.1) || (backToKw pos (keywordEach [⟨some f, e, kp⟩] X.env)).any (·.1.isNone)) = false := by rfl) : PE X (.Call (.Name x p) [] [⟨some f, e, kp⟩] pos) (tMk1 C f i) := by
  obtain ⟨fI, fd, iC, tI, F1, b1, b2⟩ := c.ini
  refine PE.imp (pe_newk c.t iC tI F1 hr hg c.g b2 pass0 (pk_cons he pk_nil) hall hks hdb hpl) fun σ H Q ⟨v, hv, fl, hF, q⟩ => ⟨v, hv, rfl, rfl, by decide, fun a na => ?_⟩
  refine ⟨a, C, v, fl, rfl, c.t, c.no, upd_same, hF.put na, fun H' dx v' k _ _ hF' ha hd => ⟨rfl, ?_⟩⟩
  obtain ⟨k', er⟩ := err_of (f := f) (fl := fl) na k ha hd hF'
  exact q H' a k' er
theorem pe_mk2 (c : ClR X.prog X.w X.K X.mg X.base x f g C) (fg : f ≠ g) (hr : Room 5 X.A) (hg : Gl X x) (he : PE X e (tVar i)) (he2 : PE X e2 (tVar j)) (hdb : (x == ("__debug__" : Str)) = false := by decide) (hs : starEach [e, e2] X.env = (false, eval e X.env) :: starEach [e2] X.env := by rfl)
    (hpl : (backTo pos (starEach [e2] X.env)).any (·.1) = false := by rfl) (ha : PA X [e, e2] (tCons (tVar i) (tCons (tVar j) tNil)) := by exact pa_cons (by assumption) (pa_cons (by assumption) pa_nil)) : PE X (.Call (.Name x p) [e, e2] [] pos) (tMk2 C f g i j) := by
  obtain ⟨fI, fd, iC, tI, F1, b1, b2⟩ := c.ini
  refine PE.imp (pe_new c.t iC tI F1 hr hg c.g b1 pass0 ha hdb hs hpl) fun σ H Q ⟨v, hv, u, hu, fl, gl, hF, hG, q⟩ => ⟨v, hv, u, hu, rfl, rfl, by decide, fun a na => ?_⟩
  refine ⟨a, C, v, u, fl, gl, rfl, c.t, c.no, c.no2, upd_same, hF.put na, hG.put na, fun H' dx v' u' k _ _ hF' hG' ha hd => ⟨rfl, ?_⟩⟩
  obtain ⟨k', er⟩ := err_of2 (f := f) (g := g) (fl := fl) (gl := gl) fg na k ha hd hF' hG'
  exact q H' a k' er
/-- C(g = e, f = e2) -/
theorem pe_mk2k (c : ClR X.prog X.w X.K X.mg X.base x f g C) (fg : f ≠ g) (hr : Room 5 X.A) (hg : Gl X x) (he : PE X e (tVar j)) (he2 : PE X e2 (tVar i)) (hdb : (x == ("__debug__" : Str)) = false := by decide) (hall : (backToKw pos (keywordEach [⟨some g, e, kp⟩, ⟨some f, e2, kp2⟩] X.env)).all (·.1.isSome) = true := by rfl)
    (hks : (backToKw pos (keywordEach [⟨some g, e, kp⟩, ⟨some f, e2, kp2⟩] X.env)).filterMap (·.1) = [g, f] := by rfl) (hpl : ((backTo pos (starEach [] X.env)).any (·.1) || (backToKw pos (keywordEach [⟨some g, e, kp⟩, ⟨some f, e2, kp2⟩] X.env)).any (·.1.isNone)) = false := by rfl) :
    PE X (.Call (.Name x p) [] [⟨some g, e, kp⟩, ⟨some f, e2, kp2⟩] pos) (tMk2 C f g i j) := by
  obtain ⟨fI, fd, iC, tI, F1, b1, b2⟩ := c.ini
  refine PE.imp (pe_newk c.t iC tI F1 hr hg c.g b2 pass0 (pk_cons he (pk_cons he2 pk_nil)) hall hks hdb hpl) fun σ H Q ⟨v, hv, u, hu, fl, gl, hF, hG, q⟩ => ⟨u, hu, v, hv, rfl, rfl, by decide, fun a na => ?_⟩
  refine ⟨a, C, v, u, fl, gl, rfl, c.t, c.no, c.no2, upd_same, hF.put na, hG.put na, fun H' dx v' u' k _ _ hF' hG' ha hd => ⟨rfl, ?_⟩⟩
  obtain ⟨k', er⟩ := err_of2 (f := f) (g := g) (fl := fl) (gl := gl) fg na k ha hd hF' hG'
  exact q H' a k' er
/-- x.f -/
def tEg (f : Str) (te : TE) (K : PySem.W.Frag) : TE := fun σ H Q => te σ H fun x H1 => ∃ (a C : Addr) (fs : List (Str × Fld)) (fl : Fld), x = .ref a ∧ XC K C ∧ PySem.W.findIn K (.ref C) f = some none ∧ Err H1 C a fs ∧ fs.lookup f = some fl ∧ ∀ v, FAt H1 fl v → Q v H1
theorem pe_eg {te : TE} (he : PE X e te) (hb : attributeBase e f X.env (eval e X.env) = eval e X.env := by rfl) : PE X (.Attribute e f pos) (tEg f te X.K) := by
  refine ⟨fun pins s σ H Q I h => attr_of hb (thn (he.run pins s σ H _ I h) fun u s1 ⟨x, H1, I1, rx, a, C, fs, fl, ex, T, hno, ⟨dx, vs, h1, h2, h3⟩, hl, q⟩ => ?_)⟩
  obtain ⟨v, e1, e2⟩ := h3 f fl hl
  subst ex
  obtain rfl : u = Value.ref a := rx
  obtain ⟨oe, fv, ha, hz, hdt⟩ := h1.get (X := X) I1.hok
  obtain ⟨mA, hns, hr⟩ := h2.get (X := X) I1.hok
  obtain ⟨od, ho, hl2⟩ := lookIn_ns hns
  obtain ⟨u2, hu, ru⟩ := RelO.some_of (v := v) (o := mA f) (by rw [← e1]; exact hr f)
  have J : PySem.W.InstAt s1.heap a oe C (some od) := ⟨ha, hz.1, by unfold PySem.W.notCls; rw [hdt] <;> rfl, by rw [hz.2]; exact ho⟩
  exact HandSPX.exc_get I1.kIn J T.is.hg T.is.hk T.is.hs (PySem.W.findObj_own T.is.hd hno rfl (by rw [hl2, hu])) (handed_of ru) ⟨v, H1, I1.tok _, ru, q v e2⟩
end
end My

set_option Elab.async false
set_option linter.all false
set_option maxRecDepth 100000
set_option maxHeartbeats 4000000
/-! K4: a drawn field. -/
namespace My
open PySem PySem.Spec PyProof.Rows L2
theorem ok_fold {c : Array Nat} (hc : c.all (· < 0x110000) = true) : ∀ (n : Nat) (acc : Array Nat), acc.all (· < 0x110000) = true → ((List.replicate n c).foldl (· ++ ·) acc).all (· < 0x110000) = true
  | 0, _, h => h
  | n + 1, acc, h => by
    rw [List.replicate_succ, List.foldl_cons]
    refine ok_fold hc n _ ?_
    rw [Array.all_append, h, hc]; rfl
theorem sz_fold {c : Array Nat} : ∀ (n : Nat) (acc : Array Nat), ((List.replicate n c).foldl (· ++ ·) acc).size = acc.size + n * c.size
  | 0, _ => by simp
  | n + 1, acc => by
    rw [List.replicate_succ, List.foldl_cons, sz_fold n, Array.size_append, Nat.succ_mul]
    omega
/-- a sign many times -/
def rRpt : R2 := fun x y H Q => ∃ (z : Str) (k : Int), x = .str z ∧ y = .int k ∧ 0 ≤ k ∧ k < 1000 ∧ z.cps.size = 1 ∧ PyData.strOk z = true ∧ ∀ r, PyData.strOk r = true → Q (.str r) H
theorem op_rpt {X : Cx} : OpR X (binaryOp .Mult) rRpt := by
  intro pins s σ H x y v u Q I rx ry h
  obtain ⟨z, k, rfl, rfl, k0, k1, hz, ok, q⟩ := h
  obtain ⟨t, rfl⟩ := rx
  obtain ⟨t2, rfl⟩ := ry
  have zl : z.length = 1 := hz
  refine PySem.P.mul_str ?_ (fun a b => ?_) (fun a b => ?_) ?_
  · rw [decide_eq_false (show ¬ k < -(2 ^ 63 : Int) by omega), decide_eq_false (show ¬ k ≥ 2 ^ 63 by omega)]; rfl
  · rw [zl]
    have : (1 : Int) ≤ (2 ^ 63 - 1) / k := (Int.le_ediv_iff_mul_le (by omega)).mpr (by omega)
    omega
  · rw [zl]
    have hk : 1 * k.toNat ≤ 1000 := by omega
    exact decide_eq_false (by have := sizeLine_eq; omega)
  · have kp : ∀ {tk : Nat}, Inv X pins σ H { s with toks := tk } := fun {tk} => I.tok tk
    by_cases a : k < 1
    · rw [if_pos a]
      exact ⟨by decide, ⟨.str Str.empty, H, kp, ⟨_, rfl⟩, q _ (by decide +kernel)⟩⟩
    · rw [if_neg a]
      by_cases b : (k == 1 || z.length == 0) = true
      · rw [if_pos b]
        exact ⟨.str z, H, I, ⟨_, rfl⟩, q _ ok⟩
      · rw [if_neg b]
        refine ⟨?_, ⟨.str _, H, kp, ⟨_, rfl⟩, q _ (ok_fold ok _ _ (by simp))⟩⟩
        show Array.size _ ≤ sizeLine
        rw [sz_fold, hz, sizeLine_eq]
        have : k.toNat ≤ 1000 := by omega
        simp
        omega
section
variable {P : Program} {w : World} {K : PySem.W.Frag} {mg : Str → Option Value} {base : Heap}
/-- _law_field(bag) -/
def spField : Sp := fun vs H Q _ => ∃ b l : Addr, vs = [.ref b] ∧ BagAt H b l ∧ ∀ (H' : Hp) (fl : Fld) (v : V), Kp [b] H H' → BagAt H' b l → FAt H' fl v → Q v H'
abbrev sField : Stmt := (top 24)
theorem scField : FnScope ["_law_bag_here", "_law_pick"] ["_law_bag_here"] (defScope sField) := ⟨rfl, rfl, rfl, by decide +kernel, rfl, by decide +kernel, by decide +kernel⟩
theorem ok_field {f fD : Addr} {fd fdD : FuncData} (F : Fun K "_law_field" "_law_field" sField f fd) (B : Bt mg) (FD : Fun K "_law_draw" "_law_draw" sDraw fD fdD) (aD : At K mg "_law_draw" fD) (bD : Binds K fdD ["_law_bag_here", "_law_many"] []) : FnOk P w K mg base CX0 2 f fd ["_law_bag_here"] spField := by
  have GD : FnOk P w K mg base CX0 1 fD fdD ["_law_bag_here", "_law_many"] spDraw := ok_draw FD B
  refine F.ok scField (fun vs H Q E h => ?_) (fun cdv A outer s H vs Q E hr h => ?_)
  · obtain ⟨b, l, rfl, _⟩ := h
    rfl
  · obtain ⟨b, l, rfl, hB, k⟩ := h
    have nd := scField.nd
    refine ⟨_, pss_cons (ps_set (i := 1) nd rfl (Or.inl rfl) (pe_call GD hr (by rfl) aD.g aD.k bD .nil pass0 (pa_cons (pv 0) (pa_cons pe_int pa_nil))))
      (pss_cons (ps_if (pt_cmpR op_eq (pv 1) pe_int (nomark _)) (pss_one (ps_ret (pe_op op_add (pe_op op_sub (pe_call GD hr (by rfl) aD.g aD.k bD .nil pass0 (pa_cons (pv 0) (pa_cons (pe_op op_sub (pe_op op_mul pe_int (pe_op op_pow pe_int pe_int)) pe_int) pa_nil))) (pe_op op_pow pe_int pe_int)) pe_int))) pss_nil)
      (pss_cons (ps_if (pt_cmpR op_eq (pv 1) pe_int (nomark _)) (pss_one (ps_ret (pe_tup (pa_cons pe_str (pa_cons (pe_call GD hr (by rfl) aD.g aD.k bD .nil pass0 (pa_cons (pv 0) (pa_cons (pe_op op_pow pe_int pe_int) pa_nil))) (pa_cons (pe_lst pa_nil) pa_nil)))))) pss_nil)
      (pss_cons (ps_if (pt_cmpR op_eq (pv 1) pe_int (nomark _)) (pss_one (ps_ret (pe_op op_rpt (pe_ix ix_str pe_str (pe_call GD hr (by rfl) aD.g aD.k bD .nil pass0 (pa_cons (pv 0) (pa_cons pe_int pa_nil))) (fun _ _ => rfl)) (pe_call GD hr (by rfl) aD.g aD.k bD .nil pass0 (pa_cons (pv 0) (pa_cons pe_int pa_nil)))))) pss_nil)
      (pss_one (ps_ret pe_non))))), ?_⟩
    refine ⟨_, rfl, b, l, 4, rfl, hB, by decide, by decide, fun H1 pk k1 B1 p0 p1 => ?_⟩
    refine ⟨_, rfl, rfl, _, rfl, ?_⟩
    refine ite2 (fun c => ?_) (fun c => ?_)
    · refine ⟨_, rfl, _, _, rfl, rfl, ⟨by decide, by decide, by decide⟩, _, _, rfl, rfl, .inl ⟨by decide, by decide⟩, _, _, rfl, rfl, b, l, _, rfl, B1, by decide, by decide, fun H2 r k2 B2 r0 r1 => ?_⟩
      refine ⟨_, _, rfl, rfl, ⟨by decide, by decide, by decide⟩, _, _, rfl, rfl, _, _, rfl, rfl, ?_⟩
      exact k H2 (.int _) _ (k1.trans k2) B2 rfl
    · refine ⟨_, rfl, rfl, _, rfl, ?_⟩
      refine ite2 (fun c1 => ?_) (fun c1 => ?_)
      · refine ⟨_, rfl, _, _, rfl, rfl, ⟨by decide, by decide, by decide⟩, b, l, _, rfl, B1, by decide, by decide, fun H2 r k2 B2 r0 r1 => ?_⟩
        refine ⟨(by show 0 ≤ sizeLine; decide), fun p hp => ⟨(by show 3 ≤ sizeLine; decide), fun t ht => ?_⟩⟩
        have pt : p ≠ t := fun z => by rw [z, upd_same] at ht; cases ht
        have ht0 : H2 t = none := by rw [upd_ne pt.symm] at ht; exact ht
        have k3 : Kp [] H2 (upd (upd H2 p (.lst [])) t (.tup [.str "e", .int r, .ref p])) := (Kp.new hp).trans (Kp.new ht)
        have nb : b ≠ p ∧ b ≠ t ∧ l ≠ p ∧ l ≠ t := by
          obtain ⟨ns, i, c, s, e1, e2, _⟩ := B2
          exact ⟨ne_of_none e1 hp, ne_of_none e1 ht0, ne_of_none e2 hp, ne_of_none e2 ht0⟩
        exact k _ (.tup r) _ (k1.trans (k2.trans (k3.mono (by simp)))) (B2.kp k3 (by simp) (by simp)) ⟨t, p, rfl, upd_same, by rw [upd_ne pt]; exact upd_same⟩
      · refine ⟨_, rfl, rfl, _, rfl, ?_⟩
        refine ite2 (fun c2 => ?_) (fun c2 => ?_)
        · refine ⟨_, rfl, b, l, 3, rfl, B1, by decide, by decide, fun H2 r k2 B2 r0 r1 => ?_⟩
          obtain ⟨n, rfl⟩ := Int.eq_ofNat_of_zero_le r0
          have hn : n < 3 := by omega
          obtain ⟨ch, hch, hok⟩ : ∃ ch, ("abc" : Str).cps.toList[n]? = some ch ∧ ch < 0x110000 := by
            match n, hn with
            | 0, _ => exact ⟨_, rfl, by decide⟩
            | 1, _ => exact ⟨_, rfl, by decide⟩
            | 2, _ => exact ⟨_, rfl, by decide⟩
          refine ⟨_, _, ch, rfl, rfl, (by decide), atI_nat hch, _, rfl, b, l, 20, rfl, B2, by decide, by decide, fun H3 m k3 B3 m0 m1 => ?_⟩
          refine ⟨_, m, rfl, rfl, m0, by omega, rfl, ?_, fun r hr => ?_⟩
          · show (#[ch] : Array Nat).all (· < 0x110000) = true
            simpa using hok
          · exact k H3 (.str r) _ (k1.trans (k2.trans k3)) B3 ⟨rfl, hr⟩
        · exact k H1 .non _ k1 B1 rfl
end
end My

set_option Elab.async false
set_option linter.all false
set_option maxRecDepth 100000
set_option maxHeartbeats 4000000
/-! K5: the kinds of an error. -/
namespace My
open PySem PySem.Spec PyProof.Rows L2
/-- where the classes stand -/
structure Ad where
  C0 : Addr
  C1 : Addr
  C2 : Addr
  C3 : Addr
  C4 : Addr
  C5 : Addr
  C6 : Addr
  C7 : Addr
  C8 : Addr
  C9 : Addr
  C10 : Addr
  C11 : Addr
  C12 : Addr
  C13 : Addr
  C14 : Addr
  C15 : Addr
  C16 : Addr
  TE : Addr
def Ad.cl (A : Ad) : Nat → Addr
  | 0 => A.C0
  | 1 => A.C1
  | 2 => A.C2
  | 3 => A.C3
  | 4 => A.C4
  | 5 => A.C5
  | 6 => A.C6
  | 7 => A.C7
  | 8 => A.C8
  | 9 => A.C9
  | 10 => A.C10
  | 11 => A.C11
  | 12 => A.C12
  | 13 => A.C13
  | 14 => A.C14
  | 15 => A.C15
  | _ => A.C16
/-- what isinstance says of them -/
def kinB (K : PySem.W.Frag) (A : Ad) : Bool := (List.range 17).all fun i => ((List.range 17).all fun j => PySem.W.kitOne K (.ref (A.cl i)) (.ref (A.cl j)) == some (decide (j = i))) &&
  (PySem.W.kitOne K (.ref (A.cl i)) (.type "RuntimeError") == some (decide (12 ≤ i)) && (PySem.W.kitOne K (.ref (A.cl i)) (.ref A.TE) == some (decide (i < 12)) && PySem.W.kitOne K (.ref (A.cl i)) (.type "ValueError") == some (decide (i < 12))))
theorem kin_of {K : PySem.W.Frag} {A : Ad} (h : kinB K A = true) {i : Nat} (hi : i < 17) : (∀ j, j < 17 → PySem.W.kitOne K (.ref (A.cl i)) (.ref (A.cl j)) = some (decide (j = i))) ∧ PySem.W.kitOne K (.ref (A.cl i)) (.type "RuntimeError") = some (decide (12 ≤ i)) ∧
    PySem.W.kitOne K (.ref (A.cl i)) (.ref A.TE) = some (decide (i < 12)) ∧ PySem.W.kitOne K (.ref (A.cl i)) (.type "ValueError") = some (decide (i < 12)) := by
  have h1 := List.all_eq_true.mp h i (List.mem_range.mpr hi)
  simp only [Bool.and_eq_true, beq_iff_eq, List.all_eq_true, List.mem_range] at h1
  exact ⟨h1.1, h1.2.1, h1.2.2.1, h1.2.2.2⟩
structure Tab (P : Program) (w : World) (K : PySem.W.Frag) (mg : Str → Option Value) (base : Heap) (A : Ad) : Prop where
  c0 : Cl P w K mg base "BadBook" "at" A.C0
  c1 : Cl P w K mg base "TooMany" "what" A.C1
  c2 : Cl P w K mg base "NoName" "name" A.C2
  c3 : Cl P w K mg base "BadArguments" "count" A.C3
  c4 : Cl P w K mg base "NotWaiting" "name" A.C4
  c5 : Cl P w K mg base "BadState" "part" A.C5
  c6 : Cl P w K mg base "BadRow" "at" A.C6
  c7 : Cl P w K mg base "BadAsk" "ask" A.C7
  c8 : Cl P w K mg base "BadStep" "at" A.C8
  c9 : Cl P w K mg base "Unlike" "what" A.C9
  c10 : Cl P w K mg base "HasWait" "name" A.C10
  c11 : Cl P w K mg base "Taken" "name" A.C11
  c12 : ClR P w K mg base "Ring" "effects" "cells" A.C12
  g13 : mg "Over" = some (.ref A.C13)
  x13 : XC K A.C13
  e13 : PySem.W.excIn K A.C13 [.type "RuntimeError", .type "Exception", .type "BaseException", .type "object"] "RuntimeError.__new__" = true
  c14 : Cl P w K mg base "TooLong" "cells" A.C14
  c15 : Cl P w K mg base "Misplaced" "name" A.C15
  c16 : Cl P w K mg base "Busy" "name" A.C16
  gT : mg "TrackedError" = some (.ref A.TE)
  nV : mg "ValueError" = none
  nR : mg "RuntimeError" = none
  kin : kinB K A = true
  ex : PySem.W.exmOne K (.ref A.C8) (.ref A.TE) = some true
/-- an error of the n-th class stands at a -/
structure Stands (K : PySem.W.Frag) (A : Ad) (H : Hp) (a n : Nat) : Prop where
  n17 : n < 17
  xc : XC K (A.cl n)
  o : ∃ d, XO H a (A.cl n) d ∧ XDo H d
theorem Stands.same {K : PySem.W.Frag} {A : Ad} {H H' : Hp} {a n : Nat} (h : Stands K A H a n) (k : Kp [] H H') : Stands K A H' a n := by
  obtain ⟨d, h1, h2⟩ := h.o
  refine ⟨h.n17, h.xc, d, h1.same k, fun dx e => ?_⟩
  obtain ⟨fs, hf⟩ := h2 dx e
  exact ⟨fs, hf.same k⟩
def bools (n : Nat) : List V := [.bl (decide (0 = n)), .bl (decide (1 = n)), .bl (decide (2 = n)), .bl (decide (3 = n)), .bl (decide (4 = n)), .bl (decide (5 = n)), .bl (decide (6 = n)), .bl (decide (7 = n)), .bl (decide (8 = n)), .bl (decide (9 = n)), .bl (decide (10 = n)), .bl (decide (11 = n)), .bl (decide (12 = n)), .bl (decide (13 = n)), .bl (decide (14 = n)), .bl (decide (15 = n)), .bl (decide (16 = n))]
theorem bools_get (n : Nat) : ∀ k, k < 17 → (bools n)[k]? = some (.bl (decide (k = n)))
  | 0, _ => rfl
  | 1, _ => rfl
  | 2, _ => rfl
  | 3, _ => rfl
  | 4, _ => rfl
  | 5, _ => rfl
  | 6, _ => rfl
  | 7, _ => rfl
  | 8, _ => rfl
  | 9, _ => rfl
  | 10, _ => rfl
  | 11, _ => rfl
  | 12, _ => rfl
  | 13, _ => rfl
  | 14, _ => rfl
  | 15, _ => rfl
  | 16, _ => rfl
  | k + 17, h => absurd h (by omega)
def spKinds (K : PySem.W.Frag) (A : Ad) : Sp := fun vs H Q _ => ∃ a n, vs = [.ref a] ∧ Stands K A H a n ∧ ∀ p, H p = none → Q (.ref p) (upd H p (.lst (bools n)))
def spAlone (K : PySem.W.Frag) (A : Ad) : Sp := fun vs H Q _ => ∃ a n : Nat, vs = [.ref a, .int n] ∧ Stands K A H a n ∧ ∀ H', Kp [] H H' → Q (.bl true) H'
theorem boot_VE : bootBuiltins "ValueError" = some (.type "ValueError") := by decide +kernel
theorem boot_RE : bootBuiltins "RuntimeError" = some (.type "RuntimeError") := by decide +kernel
section
variable {P : Program} {w : World} {K : PySem.W.Frag} {mg : Str → Option Value} {base : Heap} {A : Ad}
abbrev sKinds : Stmt := (top 25)
abbrev sAlone : Stmt := (top 26)
theorem scKinds : FnScope ["_law_why"] ["_law_why"] (defScope sKinds) := ⟨rfl, rfl, rfl, by decide +kernel, rfl, by decide +kernel, by decide +kernel⟩
theorem scAlone : FnScope ["_law_why", "_law_at", "_law_kinds_here", "_law_k"] ["_law_why", "_law_at"] (defScope sAlone) := ⟨rfl, rfl, rfl, by decide +kernel, rfl, by decide +kernel, by decide +kernel⟩
theorem ok_kinds {f : Addr} {fd : FuncData} (F : Fun K "_law_kinds" "_law_kinds" sKinds f fd) (B : Bt mg) (T : Tab P w K mg base A) : FnOk P w K mg base CX0 1 f fd ["_law_why"] (spKinds K A) := by
  refine F.ok scKinds (fun vs H Q E h => ?_) (fun cdv A' outer s H vs Q E hr h => ?_)
  · obtain ⟨a, n, rfl, _⟩ := h
    rfl
  · obtain ⟨a, n, rfl, ⟨hn, hX, d, hO, hD⟩, k⟩ := h
    obtain ⟨hk, _, _, _⟩ := kin_of T.kin hn
    refine ⟨_, pss_one (ps_ret (pe_lst (pa_cons (pe_callB call_xis (by rfl) B.isinstance boot_isi' (pa_cons (pv 0) (pa_cons (pe_glob (v := .ref A.C0) (by rfl) T.c0.g rfl) pa_nil))) (pa_cons (pe_callB call_xis (by rfl) B.isinstance boot_isi' (pa_cons (pv 0) (pa_cons (pe_glob (v := .ref A.C1) (by rfl) T.c1.g rfl) pa_nil))) (pa_cons (pe_callB call_xis (by rfl) B.isinstance boot_isi' (pa_cons (pv 0) (pa_cons (pe_glob (v := .ref A.C2) (by rfl) T.c2.g rfl) pa_nil))) (pa_cons (pe_callB call_xis (by rfl) B.isinstance boot_isi' (pa_cons (pv 0) (pa_cons (pe_glob (v := .ref A.C3) (by rfl) T.c3.g rfl) pa_nil))) (pa_cons (pe_callB call_xis (by rfl) B.isinstance boot_isi' (pa_cons (pv 0) (pa_cons (pe_glob (v := .ref A.C4) (by rfl) T.c4.g rfl) pa_nil))) (pa_cons (pe_callB call_xis (by rfl) B.isinstance boot_isi' (pa_cons (pv 0) (pa_cons (pe_glob (v := .ref A.C5) (by rfl) T.c5.g rfl) pa_nil))) (pa_cons (pe_callB call_xis (by rfl) B.isinstance boot_isi' (pa_cons (pv 0) (pa_cons (pe_glob (v := .ref A.C6) (by rfl) T.c6.g rfl) pa_nil))) (pa_cons (pe_callB call_xis (by rfl) B.isinstance boot_isi' (pa_cons (pv 0) (pa_cons (pe_glob (v := .ref A.C7) (by rfl) T.c7.g rfl) pa_nil))) (pa_cons (pe_callB call_xis (by rfl) B.isinstance boot_isi' (pa_cons (pv 0) (pa_cons (pe_glob (v := .ref A.C8) (by rfl) T.c8.g rfl) pa_nil))) (pa_cons (pe_callB call_xis (by rfl) B.isinstance boot_isi' (pa_cons (pv 0) (pa_cons (pe_glob (v := .ref A.C9) (by rfl) T.c9.g rfl) pa_nil))) (pa_cons (pe_callB call_xis (by rfl) B.isinstance boot_isi' (pa_cons (pv 0) (pa_cons (pe_glob (v := .ref A.C10) (by rfl) T.c10.g rfl) pa_nil))) (pa_cons (pe_callB call_xis (by rfl) B.isinstance boot_isi' (pa_cons (pv 0) (pa_cons (pe_glob (v := .ref A.C11) (by rfl) T.c11.g rfl) pa_nil))) (pa_cons (pe_callB call_xis (by rfl) B.isinstance boot_isi' (pa_cons (pv 0) (pa_cons (pe_glob (v := .ref A.C12) (by rfl) T.c12.g rfl) pa_nil))) (pa_cons (pe_callB call_xis (by rfl) B.isinstance boot_isi' (pa_cons (pv 0) (pa_cons (pe_glob (v := .ref A.C13) (by rfl) T.g13 rfl) pa_nil))) (pa_cons (pe_callB call_xis (by rfl) B.isinstance boot_isi' (pa_cons (pv 0) (pa_cons (pe_glob (v := .ref A.C14) (by rfl) T.c14.g rfl) pa_nil))) (pa_cons (pe_callB call_xis (by rfl) B.isinstance boot_isi' (pa_cons (pv 0) (pa_cons (pe_glob (v := .ref A.C15) (by rfl) T.c15.g rfl) pa_nil))) (pa_cons (pe_callB call_xis (by rfl) B.isinstance boot_isi' (pa_cons (pv 0) (pa_cons (pe_glob (v := .ref A.C16) (by rfl) T.c16.g rfl) pa_nil))) pa_nil))))))))))))))))))), ?_⟩
    refine ⟨_, rfl, a, _, d, _, _, _, rfl, hO, hD, hX, fun _ r => r, hk 0 (by decide), ?_⟩
    refine ⟨_, rfl, a, _, d, _, _, _, rfl, hO, hD, hX, fun _ r => r, hk 1 (by decide), ?_⟩
    refine ⟨_, rfl, a, _, d, _, _, _, rfl, hO, hD, hX, fun _ r => r, hk 2 (by decide), ?_⟩
    refine ⟨_, rfl, a, _, d, _, _, _, rfl, hO, hD, hX, fun _ r => r, hk 3 (by decide), ?_⟩
    refine ⟨_, rfl, a, _, d, _, _, _, rfl, hO, hD, hX, fun _ r => r, hk 4 (by decide), ?_⟩
    refine ⟨_, rfl, a, _, d, _, _, _, rfl, hO, hD, hX, fun _ r => r, hk 5 (by decide), ?_⟩
    refine ⟨_, rfl, a, _, d, _, _, _, rfl, hO, hD, hX, fun _ r => r, hk 6 (by decide), ?_⟩
    refine ⟨_, rfl, a, _, d, _, _, _, rfl, hO, hD, hX, fun _ r => r, hk 7 (by decide), ?_⟩
    refine ⟨_, rfl, a, _, d, _, _, _, rfl, hO, hD, hX, fun _ r => r, hk 8 (by decide), ?_⟩
    refine ⟨_, rfl, a, _, d, _, _, _, rfl, hO, hD, hX, fun _ r => r, hk 9 (by decide), ?_⟩
    refine ⟨_, rfl, a, _, d, _, _, _, rfl, hO, hD, hX, fun _ r => r, hk 10 (by decide), ?_⟩
    refine ⟨_, rfl, a, _, d, _, _, _, rfl, hO, hD, hX, fun _ r => r, hk 11 (by decide), ?_⟩
    refine ⟨_, rfl, a, _, d, _, _, _, rfl, hO, hD, hX, fun _ r => r, hk 12 (by decide), ?_⟩
    refine ⟨_, rfl, a, _, d, _, _, _, rfl, hO, hD, hX, fun _ r => r, hk 13 (by decide), ?_⟩
    refine ⟨_, rfl, a, _, d, _, _, _, rfl, hO, hD, hX, fun _ r => r, hk 14 (by decide), ?_⟩
    refine ⟨_, rfl, a, _, d, _, _, _, rfl, hO, hD, hX, fun _ r => r, hk 15 (by decide), ?_⟩
    refine ⟨_, rfl, a, _, d, _, _, _, rfl, hO, hD, hX, fun _ r => r, hk 16 (by decide), ?_⟩
    exact ⟨(by show 17 ≤ sizeLine; decide), fun p hp => k p hp⟩
theorem ok_alone {f fK : Addr} {fd fdK : FuncData} (F : Fun K "_law_alone" "_law_alone" sAlone f fd) (B : Bt mg) (T : Tab P w K mg base A) (FK : Fun K "_law_kinds" "_law_kinds" sKinds fK fdK) (aK : At K mg "_law_kinds" fK) (bK : Binds K fdK ["_law_why"] []) :
    FnOk P w K mg base CX0 2 f fd ["_law_why", "_law_at"] (spAlone K A) := by
  have GK : FnOk P w K mg base CX0 1 fK fdK ["_law_why"] (spKinds K A) := ok_kinds FK B T
  refine F.ok scAlone (fun vs H Q E h => ?_) (fun cdv A' outer s H vs Q E hr h => ?_)
  · obtain ⟨a, n, rfl, _⟩ := h
    rfl
  · obtain ⟨a, n, rfl, S0, k⟩ := h
    have nd := scAlone.nd
    obtain ⟨hk, kR, kT, kV⟩ := kin_of T.kin S0.n17
    refine ⟨_, pss_cons (ps_set (i := 2) nd rfl (Or.inl rfl) (pe_call GK hr (by rfl) aK.g aK.k bK .nil pass0 (pa_cons (pv 0) pa_nil)))
      (pss_cons (ps_for PassesOwn.never rfl (pi_range1 (by rfl) B.range (pa_cons pe_int pa_nil)) (pg_name (i := 3) nd rfl (Or.inl rfl))
        (pss_one (ps_if (pt_cmpR op_ne (ixl (pv 2) (pv 3)) (pe_cmpR op_eq (pv 3) (pv 1) (nomark _)) (by with_unfolding_all rfl)) (pss_one (ps_ret pe_bl)) pss_nil)))
      (pss_cons (ps_if (pt_cmpR op_ge (pv 1) pe_int (nomark _))
        (pss_one (ps_ret (pe_and (pe_callB call_xis (by rfl) B.isinstance boot_isi' (pa_cons (pv 0) (pa_cons (pe_bltn (v := .ty "RuntimeError") (by rfl) T.nR boot_RE rfl) pa_nil)))
          (pe_and (pe_not (pe_callB call_xis (by rfl) B.isinstance boot_isi' (pa_cons (pv 0) (pa_cons (pe_glob (v := .ref A.TE) (by rfl) T.gT rfl) pa_nil))))
          (pe_one (pe_not (pe_callB call_xis (by rfl) B.isinstance boot_isi' (pa_cons (pv 0) (pa_cons (pe_bltn (v := .ty "ValueError") (by rfl) T.nV boot_VE rfl) pa_nil))))))))) pss_nil)
      (pss_one (ps_ret (pe_and (pe_callB call_xis (by rfl) B.isinstance boot_isi' (pa_cons (pv 0) (pa_cons (pe_glob (v := .ref A.TE) (by rfl) T.gT rfl) pa_nil)))
          (pe_one (pe_callB call_xis (by rfl) B.isinstance boot_isi' (pa_cons (pv 0) (pa_cons (pe_bltn (v := .ty "ValueError") (by rfl) T.nV boot_VE rfl) pa_nil))))))))), ?_⟩
    refine ⟨_, rfl, a, n, rfl, S0, fun p hp => ?_⟩
    obtain ⟨H1, hH1⟩ : ∃ H1, upd H p (.lst (bools n)) = H1 := ⟨_, rfl⟩
    rw [hH1]
    have hp1 : H1 p = some (.lst (bools n)) := by rw [← hH1]; exact upd_same
    have S1 : Stands K A H1 a n := S0.same (by rw [← hH1]; exact Kp.new hp)
    have k1 : Kp [] H H1 := by rw [← hH1]; exact Kp.new hp
    refine ⟨17, rfl, by decide, by decide, for_range (lo := 0) (n := 17) (fun i σ H' => ∃ v3, σ = [some (.ref a), some (.int n), some (.ref p), v3] ∧ H' = H1) ⟨none, rfl, rfl⟩ ?_ ?_⟩
    · rintro i σ H' hi ⟨v3, rfl, rfl⟩
      have e1 : decide (V.int (0 + (i : Int)) = V.int (n : Int)) = decide (i = n) := by
        rw [Int.zero_add]
        by_cases c : i = n
        · rw [c]; simp
        · rw [decide_eq_false c]
          exact decide_eq_false fun z => c (by injection z with z; omega)
      refine ⟨_, rfl, _, rfl, p, _, _, .bl (decide (i = n)), rfl, rfl, SqL.of hp1, (by rw [Int.zero_add]; exact atI_nat (bools_get n i hi)), _, rfl, _, rfl, rfl, rfl, _, rfl, ?_⟩
      have e2 : (!decide (V.bl (decide (i = n)) = V.bl (decide (i = n)))) = false := by simp
      rw [e1, e2]
      exact iteF ⟨_, rfl, rfl⟩
    · rintro σ H' ⟨v3, rfl, rfl⟩
      obtain ⟨hn, hX, d, hO, hD⟩ := S1
      refine ⟨_, rfl, _, _, rfl, rfl, _, rfl, ?_⟩
      refine ite2 (fun c => ?_) (fun c => ?_)
      · have c' : 12 ≤ n := by
          have := of_decide_eq_true c
          omega
        refine ⟨_, rfl, a, _, d, _, _, _, rfl, hO, hD, hX, fun _ r => r, kR, _, rfl, ?_⟩
        rw [decide_eq_true c']
        refine iteT ⟨_, rfl, a, _, d, _, _, _, rfl, hO, hD, hX, fun _ r => r, kT, _, rfl, _, rfl, ?_⟩
        rw [decide_eq_false (show ¬ n < 12 by omega)]
        refine iteT ⟨_, rfl, a, _, d, _, _, _, rfl, hO, hD, hX, fun _ r => r, kV, _, rfl, ?_⟩
        rw [decide_eq_false (show ¬ n < 12 by omega)]
        exact k _ k1
      · have c' : n < 12 := by
          have : ¬ (12 : Int) ≤ (n : Int) := fun z => c (decide_eq_true z)
          omega
        refine ⟨_, rfl, a, _, d, _, _, _, rfl, hO, hD, hX, fun _ r => r, kT, _, rfl, ?_⟩
        rw [decide_eq_true c']
        refine iteT ⟨_, rfl, a, _, d, _, _, _, rfl, hO, hD, hX, fun _ r => r, kV, ?_⟩
        rw [decide_eq_true c']
        exact k _ k1
end
end My

set_option Elab.async false
set_option linter.all false
set_option maxRecDepth 100000
set_option maxHeartbeats 4000000
/-! K6: errors by name; one caught. -/
namespace My
open PySem PySem.Spec PyProof.Rows L2
def spBy : Sp := fun vs H Q _ => ∃ (v u : V) (fl gl : Fld), vs = [v, u] ∧ FAt H fl v ∧ FAt H gl u ∧ ∀ H', Kp [] H H' → Q (.bl true) H'
def spCaught : Sp := fun vs H Q _ => ∃ (v : V) (fl : Fld), vs = [v] ∧ FAt H fl v ∧ ∀ H', Kp [] H H' → Q (.bl true) H'
section
variable {P : Program} {w : World} {K : PySem.W.Frag} {mg : Str → Option Value} {base : Heap} {A : Ad}
theorem one_ne {x f : Str} {C : Addr} {i : Nat} {σ : L2.St} {H : Hp} {Q : VK} {v : V} {fl : Fld} (T : Cl P w K mg base x f C) (hv : σ[i]? = some (some v)) (hF : FAt H fl v) (q : ∀ H', Kp [] H H' → Q (.bl false) H') : tOp (rNeD K) (tEg f (tMk1 C f i) K) (tVar i) σ H Q := by
  refine ⟨v, hv, fl, hF, fun H1 a k1 er => ⟨a, C, _, fl, rfl, T.t, T.no, er, by rw [lk_cons, if_pos rfl], fun y hy => ⟨v, hv, fl.data, fl.data, Fld.dp hy, Fld.dp (hF.same k1), Fld.shaped hF, Fld.shaped hF, ?_⟩⟩⟩
  rw [fl.eqv]
  exact q H1 k1
theorem one_eq {x f : Str} {C : Addr} {i : Nat} {σ : L2.St} {H : Hp} {Q : VK} {v : V} {fl : Fld} (T : Cl P w K mg base x f C) (hv : σ[i]? = some (some v)) (hF : FAt H fl v) (q : ∀ H', Kp [] H H' → Q (.bl true) H') : tOp (rEqD K) (tEg f (tMk1 C f i) K) (tVar i) σ H Q := by
  refine ⟨v, hv, fl, hF, fun H1 a k1 er => ⟨a, C, _, fl, rfl, T.t, T.no, er, by rw [lk_cons, if_pos rfl], fun y hy => ⟨v, hv, fl.data, fl.data, Fld.dp hy, Fld.dp (hF.same k1), Fld.shaped hF, Fld.shaped hF, ?_⟩⟩⟩
  rw [fl.eqv]
  exact q H1 k1
/-- a field of an error that stands, beside the value -/
theorem fld_ne {C a : Addr} {f : Str} {i j : Nat} {σ : L2.St} {H : Hp} {Q : VK} {v : V} {fl : Fld} {fs : List (Str × Fld)} (t : XC K C) (no : PySem.W.findIn K (.ref C) f = some none) (er : Err H C a fs) (hl : fs.lookup f = some fl) (ha : σ[j]? = some (some (.ref a))) (hv : σ[i]? = some (some v)) (hF : FAt H fl v) (q : Q (.bl false) H) :
    tOp (rNeD K) (tEg f (tVar j) K) (tVar i) σ H Q := by
  refine ⟨_, ha, a, C, fs, fl, rfl, t, no, er, hl, fun y hy => ⟨v, hv, fl.data, fl.data, Fld.dp hy, Fld.dp hF, Fld.shaped hF, Fld.shaped hF, ?_⟩⟩
  rw [fl.eqv]
  exact q
theorem fld_eq {C a : Addr} {f : Str} {i j : Nat} {σ : L2.St} {H : Hp} {Q : VK} {v : V} {fl : Fld} {fs : List (Str × Fld)} (t : XC K C) (no : PySem.W.findIn K (.ref C) f = some none) (er : Err H C a fs) (hl : fs.lookup f = some fl) (ha : σ[j]? = some (some (.ref a))) (hv : σ[i]? = some (some v)) (hF : FAt H fl v) (q : Q (.bl true) H) :
    tOp (rEqD K) (tEg f (tVar j) K) (tVar i) σ H Q := by
  refine ⟨_, ha, a, C, fs, fl, rfl, t, no, er, hl, fun y hy => ⟨v, hv, fl.data, fl.data, Fld.dp hy, Fld.dp hF, Fld.shaped hF, Fld.shaped hF, ?_⟩⟩
  rw [fl.eqv]
  exact q
abbrev sBy : Stmt := (top 27)
theorem scBy : FnScope ["_law_one", "_law_two", "_law_ring"] ["_law_one", "_law_two"] (defScope sBy) := ⟨rfl, rfl, rfl, by decide +kernel, rfl, by decide +kernel, by decide +kernel⟩
theorem ok_by {f : Addr} {fd : FuncData} (F : Fun K "_law_by_name" "_law_by_name" sBy f fd) (T : Tab P w K mg base A) : FnOk P w K mg base CX0 6 f fd ["_law_one", "_law_two"] spBy := by
  refine F.ok scBy (fun vs H Q E h => ?_) (fun cdv A' outer s H vs Q E hr h => ?_)
  · obtain ⟨v, u, fl, gl, rfl, _⟩ := h
    rfl
  · obtain ⟨v, u, fl, gl, rfl, hF, hG, k⟩ := h
    have nd := scBy.nd
    refine ⟨_, pss_cons (ps_if (PW.pt (pw_or (pt_cmpR (op_neD hr.units) (pe_eg (pe_mkk T.c0 hr (by rfl) (pv 0))) (pv 0) (nomark _)) (pw_or (pt_cmpR (op_neD hr.units) (pe_eg (pe_mkk T.c1 hr (by rfl) (pv 0))) (pv 0) (nomark _)) (pw_or1 (pt_cmpR (op_neD hr.units) (pe_eg (pe_mkk T.c2 hr (by rfl) (pv 0))) (pv 0) (nomark _)))))) (pss_one (ps_ret pe_bl)) pss_nil)
      (pss_cons (ps_if (PW.pt (pw_or (pt_cmpR (op_neD hr.units) (pe_eg (pe_mkk T.c3 hr (by rfl) (pv 0))) (pv 0) (nomark _)) (pw_or (pt_cmpR (op_neD hr.units) (pe_eg (pe_mkk T.c4 hr (by rfl) (pv 0))) (pv 0) (nomark _)) (pw_or1 (pt_cmpR (op_neD hr.units) (pe_eg (pe_mkk T.c5 hr (by rfl) (pv 0))) (pv 0) (nomark _)))))) (pss_one (ps_ret pe_bl)) pss_nil)
      (pss_cons (ps_if (PW.pt (pw_or (pt_cmpR (op_neD hr.units) (pe_eg (pe_mkk T.c6 hr (by rfl) (pv 0))) (pv 0) (nomark _)) (pw_or (pt_cmpR (op_neD hr.units) (pe_eg (pe_mkk T.c7 hr (by rfl) (pv 0))) (pv 0) (nomark _)) (pw_or1 (pt_cmpR (op_neD hr.units) (pe_eg (pe_mkk T.c8 hr (by rfl) (pv 0))) (pv 0) (nomark _)))))) (pss_one (ps_ret pe_bl)) pss_nil)
      (pss_cons (ps_if (PW.pt (pw_or (pt_cmpR (op_neD hr.units) (pe_eg (pe_mkk T.c9 hr (by rfl) (pv 0))) (pv 0) (nomark _)) (pw_or (pt_cmpR (op_neD hr.units) (pe_eg (pe_mkk T.c10 hr (by rfl) (pv 0))) (pv 0) (nomark _)) (pw_or1 (pt_cmpR (op_neD hr.units) (pe_eg (pe_mkk T.c11 hr (by rfl) (pv 0))) (pv 0) (nomark _)))))) (pss_one (ps_ret pe_bl)) pss_nil)
      (pss_cons (ps_set (i := 2) nd rfl (Or.inl rfl) (pe_mk2k T.c12 (by decide) hr (by rfl) (pv 1) (pv 0)))
      (pss_cons (ps_if (PW.pt (pw_or (pt_cmpR (op_neD hr.units) (pe_eg (pv 2)) (pv 0) (nomark _)) (pw_or (pt_cmpR (op_neD hr.units) (pe_eg (pv 2)) (pv 1) (nomark _)) (pw_or1 (pt_cmpR (op_neD hr.units) (pe_eg (pe_mkk T.c14 hr (by rfl) (pv 0))) (pv 0) (nomark _)))))) (pss_one (ps_ret pe_bl)) pss_nil)
      (pss_one (ps_ret (pe_and (pe_cmpR (op_eqD hr.units) (pe_eg (pe_mkk T.c15 hr (by rfl) (pv 0))) (pv 0) (nomark _)) (pe_one (pe_cmpR (op_eqD hr.units) (pe_eg (pe_mkk T.c16 hr (by rfl) (pv 0))) (pv 0) (nomark _))))))))))), ?_⟩
    have k0 : Kp [] H H := Kp.refl H
    refine one_ne T.c0 rfl (hF.same k0) fun H1 q1 => ⟨_, rfl, iteF ?_⟩
    have k1 := k0.trans q1
    refine one_ne T.c1 rfl (hF.same k1) fun H2 q2 => ⟨_, rfl, iteF ?_⟩
    have k2 := k1.trans q2
    refine one_ne T.c2 rfl (hF.same k2) fun H3 q3 => ⟨_, rfl, iteF ?_⟩
    have k3 := k2.trans q3
    refine one_ne T.c3 rfl (hF.same k3) fun H4 q4 => ⟨_, rfl, iteF ?_⟩
    have k4 := k3.trans q4
    refine one_ne T.c4 rfl (hF.same k4) fun H5 q5 => ⟨_, rfl, iteF ?_⟩
    have k5 := k4.trans q5
    refine one_ne T.c5 rfl (hF.same k5) fun H6 q6 => ⟨_, rfl, iteF ?_⟩
    have k6 := k5.trans q6
    refine one_ne T.c6 rfl (hF.same k6) fun H7 q7 => ⟨_, rfl, iteF ?_⟩
    have k7 := k6.trans q7
    refine one_ne T.c7 rfl (hF.same k7) fun H8 q8 => ⟨_, rfl, iteF ?_⟩
    have k8 := k7.trans q8
    refine one_ne T.c8 rfl (hF.same k8) fun H9 q9 => ⟨_, rfl, iteF ?_⟩
    have k9 := k8.trans q9
    refine one_ne T.c9 rfl (hF.same k9) fun H10 q10 => ⟨_, rfl, iteF ?_⟩
    have k10 := k9.trans q10
    refine one_ne T.c10 rfl (hF.same k10) fun H11 q11 => ⟨_, rfl, iteF ?_⟩
    have k11 := k10.trans q11
    refine one_ne T.c11 rfl (hF.same k11) fun H12 q12 => ⟨_, rfl, iteF ?_⟩
    have k12 := k11.trans q12
    refine ⟨v, rfl, u, rfl, fl, gl, hF.same k12, hG.same k12, fun H13 r q13 er => ?_⟩
    have k13 := k12.trans q13
    refine fld_ne T.c12.t T.c12.no er (by rw [lk_cons, if_pos rfl]) rfl rfl (hF.same k13) ⟨_, rfl, iteF ?_⟩
    refine fld_ne T.c12.t T.c12.no2 er (by rw [lk_cons, if_neg (by decide), lk_cons, if_pos rfl]) rfl rfl (hG.same k13) ⟨_, rfl, iteF ?_⟩
    refine one_ne T.c14 rfl (hF.same k13) fun H14 q14 => ⟨_, rfl, iteF ?_⟩
    have k14 := k13.trans q14
    refine one_eq T.c15 rfl (hF.same k14) fun H15 q15 => ⟨_, rfl, iteT ?_⟩
    have k15 := k14.trans q15
    exact one_eq T.c16 rfl (hF.same k15) fun H16 q16 => k H16 (k15.trans q16)
abbrev sCaught : Stmt := (top 28)
theorem scCaught : FnScope ["_law_one", "_law_found", "_law_why"] ["_law_one"] (defScope sCaught) := ⟨rfl, rfl, rfl, by decide +kernel, rfl, by decide +kernel, by decide +kernel⟩
def gApp {α : Type} (us ws : List α) : List α := us ++ ws
theorem ok_caught {f : Addr} {fd : FuncData} (F : Fun K "_law_caught" "_law_caught" sCaught f fd) (B : Bt mg) (T : Tab P w K mg base A) : FnOk P w K mg base CX0 6 f fd ["_law_one"] spCaught := by
  obtain ⟨fI, dI, iC, tI, F1, b1, b2⟩ := T.c8.ini
  refine F.ok scCaught (fun vs H Q E h => ?_) (fun cdv A' outer s H vs Q E hr h => ?_)
  · obtain ⟨v, fl, rfl, _⟩ := h
    rfl
  · obtain ⟨v, fl, rfl, hF, k⟩ := h
    have nd := scCaught.nd
    refine ⟨_, pss_cons (ps_set (i := 1) nd rfl (Or.inl rfl) pe_non)
      (pss_cons (ps_try_keep (i := 2) (tb := fun W _ σ H => tRz A.C8 1 (spIni K "at") (fun us ws => us ++ ws) (tCons (tVar 0) tNil) σ H fun cls d H' => W cls d σ H') (ts := fun _ _ _ => tAsg (tVar 2) (gName 1)) rfl rfl rfl rfl nd rfl rfl ⟨rfl, by decide, Or.inl T.gT⟩
        (fun W pn xe tk _ => pss_one (ps_raise rfl tk (pmk_new T.c8.t iC tI F1 hr (by rfl) T.c8.g b1 pass0 (pa_cons (pv 0) pa_nil))))
        (fun a oe cls d pn hz hf => pss_one (ps_set (i := 1) nd rfl (Or.inl rfl) (pv 2))))
      (pss_one (ps_ret (pe_and (pe_callB call_xis (by rfl) B.isinstance boot_isi' (pa_cons (pv 1) (pa_cons (pe_glob (v := .ref A.C8) (by rfl) T.c8.g rfl) pa_nil)))
        (pe_one (pe_cmpR (op_eqD hr.units) (pe_eg (pv 1)) (pv 0) (nomark _))))))), ?_⟩
    refine ⟨v, rfl, rfl, by decide, fun a na => ⟨a, A.C8, v, fl, rfl, T.c8.t, T.c8.no, upd_same, hF.put na, fun H2 dx v' k2 hd0 hda hF2 ha hd => ⟨rfl, dx, _, ha, hd, ?_, T.ex, fun b hb => ?_⟩⟩⟩
    · rw [upd_ne hda] at hd0; exact hd0
    · refine ⟨_, rfl, fun nb => ?_⟩
      have hd1 : H dx = none := by rw [upd_ne hda] at hd0; exact hd0
      have kk : Kp [] H (upd (upd (del H2 a) dx (.xd [("at", v')])) b (xv b (.ref A.C8) (some dx))) := fun c o _ e => by
        have nca : c ≠ a := ne_of_none e na
        have ncd : c ≠ dx := ne_of_none e hd1
        have e2 : H2 c = some o := k2 c o (fun z => nca (List.mem_singleton.mp z)) (by rw [upd_ne nca]; exact e)
        have e3 : upd (del H2 a) dx (.xd [("at", v')]) c = some o := by rw [upd_ne ncd, del_ne nca]; exact e2
        rw [upd_ne (ne_of_none e3 nb)]
        exact e3
      have edx : upd (upd (del H2 a) dx (.xd [("at", v')])) b (xv b (.ref A.C8) (some dx)) dx = some (.xd [("at", v')]) := by
        rw [upd_ne (ne_of_none (upd_same (H := del H2 a) (a := dx)) nb)]
        exact upd_same
      have hF3 : FAt (upd (upd (del H2 a) dx (.xd [("at", v')])) b (xv b (.ref A.C8) (some dx))) fl v' := by
        refine hF2.but (S := [a, dx]) (fun c o nc e => ?_) fun c hc o e => ?_
        · have nca : c ≠ a := fun z => nc (by rw [z]; simp)
          have ncd : c ≠ dx := fun z => nc (by rw [z]; simp)
          have e3 : upd (del H2 a) dx (.xd [("at", v')]) c = some o := by rw [upd_ne ncd, del_ne nca]; exact e
          rw [upd_ne (ne_of_none e3 nb)]
          exact e3
        · simp only [List.mem_cons, List.mem_nil_iff, or_false] at hc
          rcases hc with rfl | rfl
          · rw [ha] at e; cases e; exact ⟨_, rfl⟩
          · rw [hd] at e; cases e; exact ⟨_, rfl⟩
      have eb : upd (upd (del H2 a) dx (.xd [("at", v')])) b (xv b (.ref A.C8) (some dx)) b = some (xv b (.ref A.C8) (some dx)) := upd_same
      obtain ⟨H9, hH9⟩ : ∃ H9, upd (upd (del H2 a) dx (.xd [("at", v')])) b (xv b (.ref A.C8) (some dx)) = H9 := ⟨_, rfl⟩
      rw [hH9] at kk edx hF3 eb ⊢
      have er : Err H9 A.C8 b [("at", fl)] := ⟨dx, _, .b eb, .b edx, fun y fy e => by
        rw [lk_cons, lk_nil] at e ⊢
        split at e
        · cases e
          exact ⟨v', by rename_i c; rw [if_pos c], hF3⟩
        · cases e⟩
      have k8 := (kin_of T.kin (i := 8) (by decide)).1 8 (by decide)
      refine ⟨_, rfl, b, A.C8, some dx, _, _, true, rfl, .b eb, fun z ez => ?_, T.c8.t, fun _ r => r, k8, _, rfl, ?_⟩
      · cases ez
        exact ⟨_, .b edx⟩
      · refine iteT (fld_eq T.c8.t T.c8.no er (by rw [lk_cons, if_pos rfl]) rfl rfl (hF.same kk) ?_)
        exact k H9 kk
end
end My

set_option Elab.async false
set_option linter.all false
set_option maxRecDepth 100000
set_option maxHeartbeats 8000000
/-! K7: the law. -/
namespace My
open PySem PySem.Spec PyProof.Rows L2
def spLaw (K : PySem.W.Frag) : Sp := fun vs H Q _ => ∃ (a : Addr) (ns : List Int), vs = [.ref a] ∧ SqL K H a (ns.map V.int) ∧ ns.length ≤ 63 ∧ ∀ H', Q (.bl true) H'
theorem stands_of {K : PySem.W.Frag} {A : Ad} {H : Hp} {a n : Nat} {fs : List (Str × Fld)} (h : Err H (A.cl n) a fs) (hn : n < 17) (x : XC K (A.cl n)) : Stands K A H a n := by
  obtain ⟨dx, vs, h1, h2, _⟩ := h
  exact ⟨hn, x, some dx, h1, fun z e => by cases e; exact ⟨_, h2⟩⟩
theorem FAt.bag {H H' : Hp} {b l : Addr} (hB : BagAt H b l) (k : Kp [b] H H') : ∀ {f : Fld} {v : V}, FAt H f v → FAt H' f v
  | .non, _, h => h
  | .int _, _, h => h
  | .str _, _, h => h
  | .tup _, _, ⟨p, m, e, hp, hm⟩ => by
    obtain ⟨ns, i, c, s, e1, _⟩ := hB
    refine ⟨p, m, e, k _ _ (fun z => ?_) hp, k _ _ (fun z => ?_) hm⟩
    · rw [List.mem_singleton.mp z, e1] at hp; cases hp
    · rw [List.mem_singleton.mp z, e1] at hm; cases hm
section
variable {P : Program} {w : World} {K : PySem.W.Frag} {mg : Str → Option Value} {base : Heap} {A : Ad}
abbrev sLaw : Stmt := (top 29)
theorem scLaw : FnScope ["_law_script", "_law_bag_here", "_law_one", "_law_two", "_law_whys", "_law_at", "_law_fields", "_law_field_here"] ["_law_script"] (defScope sLaw) := ⟨rfl, rfl, rfl, by decide +kernel, rfl, by decide +kernel, by decide +kernel⟩
/-- a def of the law's own -/
structure Df (P : Program) (w : World) (K : PySem.W.Frag) (mg : Str → Option Value) (base : Heap) (x : Str) (k : Nat) (ps : List Str) (sp : Sp) (f : Addr) (fd : FuncData) : Prop where
  o : FnOk P w K mg base CX0 k f fd ps sp
  a : At K mg x f
  b : Binds K fd ps []
theorem ok_law {f fB fF fA fN fC : Addr} {fd dB dF dA dN dC : FuncData} (F : Fun K "law" "law" sLaw f fd) (B : Bt mg) (T : Tab P w K mg base A) (GB : Df P w K mg base "_law_bag" 1 ["_law_script"] (spBag K) fB dB) (GF : Df P w K mg base "_law_field" 2 ["_law_bag_here"] spField fF dF)
    (GA : Df P w K mg base "_law_alone" 2 ["_law_why", "_law_at"] (spAlone K A) fA dA) (GN : Df P w K mg base "_law_by_name" 6 ["_law_one", "_law_two"] spBy fN dN) (GC : Df P w K mg base "_law_caught" 6 ["_law_one"] spCaught fC dC) : FnOk P w K mg base CX0 7 f fd ["_law_script"] (spLaw K) := by
  refine F.ok scLaw (fun vs H Q E h => ?_) (fun cdv A' outer s H vs Q E hr h => ?_)
  · obtain ⟨a, ns, rfl, _⟩ := h
    rfl
  · obtain ⟨a, ns, rfl, hS, hlen, q⟩ := h
    have nd := scLaw.nd
    have h5 := hr.mono (by decide : 5 ≤ 6)
    have h2 := hr.mono (by decide : 2 ≤ 6)
    have h1 := hr.mono (by decide : 1 ≤ 6)
    refine ⟨_, pss_cons (ps_set (i := 1) nd rfl (Or.inl rfl) (pe_call GB.o h1 (by rfl) GB.a.g GB.a.k GB.b .nil pass0 (pa_cons (pv 0) pa_nil)))
      (pss_cons (ps_set (i := 2) nd rfl (Or.inl rfl) (pe_call GF.o h2 (by rfl) GF.a.g GF.a.k GF.b .nil pass0 (pa_cons (pv 1) pa_nil)))
      (pss_cons (ps_set (i := 3) nd rfl (Or.inl rfl) (pe_call GF.o h2 (by rfl) GF.a.g GF.a.k GF.b .nil pass0 (pa_cons (pv 1) pa_nil)))
      (pss_cons (ps_set (i := 4) nd rfl (Or.inl rfl) (pe_lst (pa_cons (pe_mk1 T.c0 h5 (by rfl) (pv 2)) (pa_cons (pe_mk1 T.c1 h5 (by rfl) (pv 2)) (pa_cons (pe_mk1 T.c2 h5 (by rfl) (pv 2)) (pa_cons (pe_mk1 T.c3 h5 (by rfl) (pv 2)) (pa_cons (pe_mk1 T.c4 h5 (by rfl) (pv 2)) (pa_cons (pe_mk1 T.c5 h5 (by rfl) (pv 2)) (pa_cons (pe_mk1 T.c6 h5 (by rfl) (pv 2)) (pa_cons (pe_mk1 T.c7 h5 (by rfl) (pv 2)) (pa_cons (pe_mk1 T.c8 h5 (by rfl) (pv 2)) (pa_cons (pe_mk1 T.c9 h5 (by rfl) (pv 2)) (pa_cons (pe_mk1 T.c10 h5 (by rfl) (pv 2)) (pa_cons (pe_mk1 T.c11 h5 (by rfl) (pv 2)) (pa_cons (pe_mk2 T.c12 (by decide) h5 (by rfl) (pv 2) (pv 3) (by decide) (by rfl) (by rfl) (pa_cons (pv 2) (pa_cons (pv 3) pa_nil))) (pa_cons (pe_new0 PySem.F.excBase_RuntimeError T.e13 T.g13 T.x13.kC (by rfl)) (pa_cons (pe_mk1 T.c14 h5 (by rfl) (pv 2)) (pa_cons (pe_mk1 T.c15 h5 (by rfl) (pv 2)) (pa_cons (pe_mk1 T.c16 h5 (by rfl) (pv 2)) pa_nil)))))))))))))))))))
      (pss_cons (ps_for PassesOwn.never rfl (pi_range1 (by rfl) B.range (pa_cons pe_int pa_nil)) (pg_name (i := 5) nd rfl (Or.inl rfl))
        (pss_one (ps_if (pt_not (pt_val (pe_call GA.o h2 (by rfl) GA.a.g GA.a.k GA.b .nil pass0 (pa_cons (ixl (pv 4) (pv 5)) (pa_cons (pv 5) pa_nil))))) (pss_one (ps_ret pe_bl)) pss_nil)))
      (pss_cons (ps_set (i := 6) nd rfl (Or.inl rfl) (pe_lst (pa_cons (pe_eg (ixl (pv 4) pe_int)) (pa_cons (pe_eg (ixl (pv 4) pe_int)) (pa_cons (pe_eg (ixl (pv 4) pe_int)) (pa_cons (pe_eg (ixl (pv 4) pe_int)) (pa_cons (pe_eg (ixl (pv 4) pe_int)) (pa_cons (pe_eg (ixl (pv 4) pe_int)) (pa_cons (pe_eg (ixl (pv 4) pe_int)) (pa_cons (pe_eg (ixl (pv 4) pe_int)) (pa_cons (pe_eg (ixl (pv 4) pe_int)) (pa_cons (pe_eg (ixl (pv 4) pe_int)) (pa_cons (pe_eg (ixl (pv 4) pe_int)) (pa_cons (pe_eg (ixl (pv 4) pe_int)) (pa_cons (pe_eg (ixl (pv 4) pe_int)) (pa_cons (pe_eg (ixl (pv 4) pe_int)) (pa_cons (pe_eg (ixl (pv 4) pe_int)) (pa_cons (pe_eg (ixl (pv 4) pe_int)) pa_nil))))))))))))))))))
      (pss_cons (ps_for PassesOwn.never rfl (pi_list (pv 6)) (pg_name (i := 7) nd rfl (Or.inl rfl)) (pss_one (ps_if (pt_cmpR (op_neD hr.units) (pv 7) (pv 2) (nomark _)) (pss_one (ps_ret pe_bl)) pss_nil)))
      (pss_one (ps_ret (pe_and (pe_cmpR (op_eqD hr.units) (pe_eg (ixl (pv 4) pe_int)) (pv 3) (nomark _)) (pe_and (pe_call GN.o hr (by rfl) GN.a.g GN.a.k GN.b .nil pass0 (pa_cons (pv 2) (pa_cons (pv 3) pa_nil))) (pe_one (pe_call GC.o hr (by rfl) GC.a.g GC.a.k GC.b .nil pass0 (pa_cons (pv 2) pa_nil))))))))))))), ?_⟩
    refine ⟨_, rfl, a, ns, rfl, hS, hlen, fun Ha b l ka nb nl hB => ?_⟩
    refine ⟨_, rfl, b, l, rfl, hB, fun Hb fl v kb hBb hF0 => ?_⟩
    refine ⟨_, rfl, b, l, rfl, hBb, fun H0 gl u kc hBc hG => ?_⟩
    have hF : FAt H0 fl v := hF0.bag hBb kc
    have k0 : Kp [] H0 H0 := Kp.refl H0
    refine ⟨_, rfl, fl, hF.same k0, fun H1 a0 q1 e0 => ?_⟩
    have k1 := k0.trans q1
    refine ⟨_, rfl, fl, hF.same k1, fun H2 a1 q2 e1 => ?_⟩
    have k2 := k1.trans q2
    refine ⟨_, rfl, fl, hF.same k2, fun H3 a2 q3 e2 => ?_⟩
    have k3 := k2.trans q3
    refine ⟨_, rfl, fl, hF.same k3, fun H4 a3 q4 e3 => ?_⟩
    have k4 := k3.trans q4
    refine ⟨_, rfl, fl, hF.same k4, fun H5 a4 q5 e4 => ?_⟩
    have k5 := k4.trans q5
    refine ⟨_, rfl, fl, hF.same k5, fun H6 a5 q6 e5 => ?_⟩
    have k6 := k5.trans q6
    refine ⟨_, rfl, fl, hF.same k6, fun H7 a6 q7 e6 => ?_⟩
    have k7 := k6.trans q7
    refine ⟨_, rfl, fl, hF.same k7, fun H8 a7 q8 e7 => ?_⟩
    have k8 := k7.trans q8
    refine ⟨_, rfl, fl, hF.same k8, fun H9 a8 q9 e8 => ?_⟩
    have k9 := k8.trans q9
    refine ⟨_, rfl, fl, hF.same k9, fun H10 a9 q10 e9 => ?_⟩
    have k10 := k9.trans q10
    refine ⟨_, rfl, fl, hF.same k10, fun H11 a10 q11 e10 => ?_⟩
    have k11 := k10.trans q11
    refine ⟨_, rfl, fl, hF.same k11, fun H12 a11 q12 e11 => ?_⟩
    have k12 := k11.trans q12
    refine ⟨_, rfl, _, rfl, fl, gl, hF.same k12, hG.same k12, fun H13 a12 q13 e12 => ?_⟩
    have k13 := k12.trans q13
    refine fun a13 n13 => ?_
    obtain ⟨H14, h14⟩ : ∃ H14, upd H13 a13 (exo a13 A.C13 none) = H14 := ⟨_, rfl⟩
    rw [h14]
    have q14 : Kp [] H13 H14 := by rw [← h14]; exact Kp.new n13
    have e13 : H14 a13 = some (exo a13 A.C13 none) := by rw [← h14]; exact upd_same
    clear h14
    have k14 := k13.trans q14
    refine ⟨_, rfl, fl, hF.same k14, fun H15 a14 q15 e14 => ?_⟩
    have k15 := k14.trans q15
    refine ⟨_, rfl, fl, hF.same k15, fun H16 a15 q16 e15 => ?_⟩
    have k16 := k15.trans q16
    refine ⟨_, rfl, fl, hF.same k16, fun H17 a16 q17 e16 => ?_⟩
    have k17 := k16.trans q17
    refine ⟨(by show 17 ≤ sizeLine; decide), fun L nL => ?_⟩
    obtain ⟨as, has⟩ : ∃ as, [V.ref a0, V.ref a1, V.ref a2, V.ref a3, V.ref a4, V.ref a5, V.ref a6, V.ref a7, V.ref a8, V.ref a9, V.ref a10, V.ref a11, V.ref a12, V.ref a13, V.ref a14, V.ref a15, V.ref a16] = as := ⟨_, rfl⟩
    rw [has]
    obtain ⟨H18, h18⟩ : ∃ H18, upd H17 L (.lst as) = H18 := ⟨_, rfl⟩
    rw [h18]
    have q18 : Kp [] H17 H18 := by rw [← h18]; exact Kp.new nL
    have hL : H18 L = some (.lst as) := by rw [← h18]; exact upd_same
    clear h18
    have k18 := k17.trans q18
    have f0 := e0.same (q2.trans (q3.trans (q4.trans (q5.trans (q6.trans (q7.trans (q8.trans (q9.trans (q10.trans (q11.trans (q12.trans (q13.trans (q14.trans (q15.trans (q16.trans (q17.trans q18))))))))))))))))
    have s0 : Stands K A H18 a0 0 := stands_of f0 (by decide) T.c0.t
    have f1 := e1.same (q3.trans (q4.trans (q5.trans (q6.trans (q7.trans (q8.trans (q9.trans (q10.trans (q11.trans (q12.trans (q13.trans (q14.trans (q15.trans (q16.trans (q17.trans q18)))))))))))))))
    have s1 : Stands K A H18 a1 1 := stands_of f1 (by decide) T.c1.t
    have f2 := e2.same (q4.trans (q5.trans (q6.trans (q7.trans (q8.trans (q9.trans (q10.trans (q11.trans (q12.trans (q13.trans (q14.trans (q15.trans (q16.trans (q17.trans q18))))))))))))))
    have s2 : Stands K A H18 a2 2 := stands_of f2 (by decide) T.c2.t
    have f3 := e3.same (q5.trans (q6.trans (q7.trans (q8.trans (q9.trans (q10.trans (q11.trans (q12.trans (q13.trans (q14.trans (q15.trans (q16.trans (q17.trans q18)))))))))))))
    have s3 : Stands K A H18 a3 3 := stands_of f3 (by decide) T.c3.t
    have f4 := e4.same (q6.trans (q7.trans (q8.trans (q9.trans (q10.trans (q11.trans (q12.trans (q13.trans (q14.trans (q15.trans (q16.trans (q17.trans q18))))))))))))
    have s4 : Stands K A H18 a4 4 := stands_of f4 (by decide) T.c4.t
    have f5 := e5.same (q7.trans (q8.trans (q9.trans (q10.trans (q11.trans (q12.trans (q13.trans (q14.trans (q15.trans (q16.trans (q17.trans q18)))))))))))
    have s5 : Stands K A H18 a5 5 := stands_of f5 (by decide) T.c5.t
    have f6 := e6.same (q8.trans (q9.trans (q10.trans (q11.trans (q12.trans (q13.trans (q14.trans (q15.trans (q16.trans (q17.trans q18))))))))))
    have s6 : Stands K A H18 a6 6 := stands_of f6 (by decide) T.c6.t
    have f7 := e7.same (q9.trans (q10.trans (q11.trans (q12.trans (q13.trans (q14.trans (q15.trans (q16.trans (q17.trans q18)))))))))
    have s7 : Stands K A H18 a7 7 := stands_of f7 (by decide) T.c7.t
    have f8 := e8.same (q10.trans (q11.trans (q12.trans (q13.trans (q14.trans (q15.trans (q16.trans (q17.trans q18))))))))
    have s8 : Stands K A H18 a8 8 := stands_of f8 (by decide) T.c8.t
    have f9 := e9.same (q11.trans (q12.trans (q13.trans (q14.trans (q15.trans (q16.trans (q17.trans q18)))))))
    have s9 : Stands K A H18 a9 9 := stands_of f9 (by decide) T.c9.t
    have f10 := e10.same (q12.trans (q13.trans (q14.trans (q15.trans (q16.trans (q17.trans q18))))))
    have s10 : Stands K A H18 a10 10 := stands_of f10 (by decide) T.c10.t
    have f11 := e11.same (q13.trans (q14.trans (q15.trans (q16.trans (q17.trans q18)))))
    have s11 : Stands K A H18 a11 11 := stands_of f11 (by decide) T.c11.t
    have f12 := e12.same (q14.trans (q15.trans (q16.trans (q17.trans q18))))
    have s12 : Stands K A H18 a12 12 := stands_of f12 (by decide) T.c12.t
    have s13 : Stands K A H18 a13 13 := ⟨by decide, T.x13, none, .a ((q15.trans (q16.trans (q17.trans q18))) _ _ (by simp) e13), fun z e => by cases e⟩
    have f14 := e14.same (q16.trans (q17.trans q18))
    have s14 : Stands K A H18 a14 14 := stands_of f14 (by decide) T.c14.t
    have f15 := e15.same (q17.trans q18)
    have s15 : Stands K A H18 a15 15 := stands_of f15 (by decide) T.c15.t
    have f16 := e16.same q18
    have s16 : Stands K A H18 a16 16 := stands_of f16 (by decide) T.c16.t
    have hst : ∀ i, i < 17 → ∃ a : Addr, as[i]? = some (.ref a) ∧ Stands K A H18 a i := by
      intro i hi
      rw [← has]
      match i, hi with
      | 0, _ => exact ⟨a0, rfl, s0⟩
      | 1, _ => exact ⟨a1, rfl, s1⟩
      | 2, _ => exact ⟨a2, rfl, s2⟩
      | 3, _ => exact ⟨a3, rfl, s3⟩
      | 4, _ => exact ⟨a4, rfl, s4⟩
      | 5, _ => exact ⟨a5, rfl, s5⟩
      | 6, _ => exact ⟨a6, rfl, s6⟩
      | 7, _ => exact ⟨a7, rfl, s7⟩
      | 8, _ => exact ⟨a8, rfl, s8⟩
      | 9, _ => exact ⟨a9, rfl, s9⟩
      | 10, _ => exact ⟨a10, rfl, s10⟩
      | 11, _ => exact ⟨a11, rfl, s11⟩
      | 12, _ => exact ⟨a12, rfl, s12⟩
      | 13, _ => exact ⟨a13, rfl, s13⟩
      | 14, _ => exact ⟨a14, rfl, s14⟩
      | 15, _ => exact ⟨a15, rfl, s15⟩
      | 16, _ => exact ⟨a16, rfl, s16⟩
      | i + 17, h => exact absurd h (by omega)
    refine ⟨17, rfl, by decide, by decide, for_range (lo := 0) (n := 17) (fun i σ H' => ∃ v5, σ = [some (.ref a), some (.ref b), some v, some u, some (.ref L), v5, none, none] ∧ Kp [] H18 H') ⟨none, rfl, Kp.refl _⟩ ?_ ?_⟩
    · rintro i σ H' hi ⟨v5, rfl, kk⟩
      obtain ⟨x, hx, st⟩ := hst i hi
      refine ⟨_, rfl, _, rfl, L, as, _, _, rfl, rfl, SqL.of (kk _ _ (by simp) hL), (by rw [Int.zero_add]; exact atI_nat hx), _, rfl, x, i, (by rw [Int.zero_add]; rfl), st.same kk, fun H2 k2 => ?_⟩
      exact ⟨_, rfl, iteF ⟨_, rfl, kk.trans k2⟩⟩
    · rintro σ H19 ⟨v5, rfl, k19⟩
      have hL9 := k19 _ _ (by simp) hL
      refine ⟨_, rfl, L, as, _, V.ref a0, rfl, rfl, SqL.of hL9, (by rw [← has]; rfl), a0, A.C0, _, fl, rfl, T.c0.t, T.c0.no, f0.same k19, (by rw [lk_cons, if_pos rfl]), fun y0 g0 => ?_⟩
      refine ⟨_, rfl, L, as, _, V.ref a1, rfl, rfl, SqL.of hL9, (by rw [← has]; rfl), a1, A.C1, _, fl, rfl, T.c1.t, T.c1.no, f1.same k19, (by rw [lk_cons, if_pos rfl]), fun y1 g1 => ?_⟩
      refine ⟨_, rfl, L, as, _, V.ref a2, rfl, rfl, SqL.of hL9, (by rw [← has]; rfl), a2, A.C2, _, fl, rfl, T.c2.t, T.c2.no, f2.same k19, (by rw [lk_cons, if_pos rfl]), fun y2 g2 => ?_⟩
      refine ⟨_, rfl, L, as, _, V.ref a3, rfl, rfl, SqL.of hL9, (by rw [← has]; rfl), a3, A.C3, _, fl, rfl, T.c3.t, T.c3.no, f3.same k19, (by rw [lk_cons, if_pos rfl]), fun y3 g3 => ?_⟩
      refine ⟨_, rfl, L, as, _, V.ref a4, rfl, rfl, SqL.of hL9, (by rw [← has]; rfl), a4, A.C4, _, fl, rfl, T.c4.t, T.c4.no, f4.same k19, (by rw [lk_cons, if_pos rfl]), fun y4 g4 => ?_⟩
      refine ⟨_, rfl, L, as, _, V.ref a5, rfl, rfl, SqL.of hL9, (by rw [← has]; rfl), a5, A.C5, _, fl, rfl, T.c5.t, T.c5.no, f5.same k19, (by rw [lk_cons, if_pos rfl]), fun y5 g5 => ?_⟩
      refine ⟨_, rfl, L, as, _, V.ref a6, rfl, rfl, SqL.of hL9, (by rw [← has]; rfl), a6, A.C6, _, fl, rfl, T.c6.t, T.c6.no, f6.same k19, (by rw [lk_cons, if_pos rfl]), fun y6 g6 => ?_⟩
      refine ⟨_, rfl, L, as, _, V.ref a7, rfl, rfl, SqL.of hL9, (by rw [← has]; rfl), a7, A.C7, _, fl, rfl, T.c7.t, T.c7.no, f7.same k19, (by rw [lk_cons, if_pos rfl]), fun y7 g7 => ?_⟩
      refine ⟨_, rfl, L, as, _, V.ref a8, rfl, rfl, SqL.of hL9, (by rw [← has]; rfl), a8, A.C8, _, fl, rfl, T.c8.t, T.c8.no, f8.same k19, (by rw [lk_cons, if_pos rfl]), fun y8 g8 => ?_⟩
      refine ⟨_, rfl, L, as, _, V.ref a9, rfl, rfl, SqL.of hL9, (by rw [← has]; rfl), a9, A.C9, _, fl, rfl, T.c9.t, T.c9.no, f9.same k19, (by rw [lk_cons, if_pos rfl]), fun y9 g9 => ?_⟩
      refine ⟨_, rfl, L, as, _, V.ref a10, rfl, rfl, SqL.of hL9, (by rw [← has]; rfl), a10, A.C10, _, fl, rfl, T.c10.t, T.c10.no, f10.same k19, (by rw [lk_cons, if_pos rfl]), fun y10 g10 => ?_⟩
      refine ⟨_, rfl, L, as, _, V.ref a11, rfl, rfl, SqL.of hL9, (by rw [← has]; rfl), a11, A.C11, _, fl, rfl, T.c11.t, T.c11.no, f11.same k19, (by rw [lk_cons, if_pos rfl]), fun y11 g11 => ?_⟩
      refine ⟨_, rfl, L, as, _, V.ref a12, rfl, rfl, SqL.of hL9, (by rw [← has]; rfl), a12, A.C12, _, fl, rfl, T.c12.t, T.c12.no, f12.same k19, (by rw [lk_cons, if_pos rfl]), fun y12 g12 => ?_⟩
      refine ⟨_, rfl, L, as, _, V.ref a14, rfl, rfl, SqL.of hL9, (by rw [← has]; rfl), a14, A.C14, _, fl, rfl, T.c14.t, T.c14.no, f14.same k19, (by rw [lk_cons, if_pos rfl]), fun y13 g13 => ?_⟩
      refine ⟨_, rfl, L, as, _, V.ref a15, rfl, rfl, SqL.of hL9, (by rw [← has]; rfl), a15, A.C15, _, fl, rfl, T.c15.t, T.c15.no, f15.same k19, (by rw [lk_cons, if_pos rfl]), fun y14 g14 => ?_⟩
      refine ⟨_, rfl, L, as, _, V.ref a16, rfl, rfl, SqL.of hL9, (by rw [← has]; rfl), a16, A.C16, _, fl, rfl, T.c16.t, T.c16.no, f16.same k19, (by rw [lk_cons, if_pos rfl]), fun y15 g15 => ?_⟩
      refine ⟨(by show 16 ≤ sizeLine; decide), fun M nM => ?_⟩
      obtain ⟨bs, hbs⟩ : ∃ bs, [y0, y1, y2, y3, y4, y5, y6, y7, y8, y9, y10, y11, y12, y13, y14, y15] = bs := ⟨_, rfl⟩
      rw [hbs]
      obtain ⟨H20, h20⟩ : ∃ H20, upd H19 M (.lst bs) = H20 := ⟨_, rfl⟩
      rw [h20]
      have q20 : Kp [] H19 H20 := by rw [← h20]; exact Kp.new nM
      have hM : H20 M = some (.lst bs) := by rw [← h20]; exact upd_same
      clear h20
      have k20 := k18.trans (k19.trans q20)
      have hall : ∀ x ∈ bs, FAt H20 fl x := by
        intro x hx
        rw [← hbs] at hx
        simp only [List.mem_cons, List.mem_nil_iff, or_false] at hx
        rcases hx with rfl | rfl | rfl | rfl | rfl | rfl | rfl | rfl | rfl | rfl | rfl | rfl | rfl | rfl | rfl | rfl
        · exact g0.same q20
        · exact g1.same q20
        · exact g2.same q20
        · exact g3.same q20
        · exact g4.same q20
        · exact g5.same q20
        · exact g6.same q20
        · exact g7.same q20
        · exact g8.same q20
        · exact g9.same q20
        · exact g10.same q20
        · exact g11.same q20
        · exact g12.same q20
        · exact g13.same q20
        · exact g14.same q20
        · exact g15.same q20
      refine ⟨_, rfl, M, rfl, ⟨_, SqL.of hM⟩, for_list (K := K) (a := M) (xs := bs) (fun i σ H' => ∃ v7, σ = [some (.ref a), some (.ref b), some v, some u, some (.ref L), v5, some (.ref M), v7] ∧ H' = H20) ⟨none, rfl, rfl⟩ (fun i σ H' _ ⟨_, _, e⟩ => by rw [e]; exact SqL.of hM) ?_ ?_⟩
      · rintro i x σ H' hi ⟨v7, rfl, rfl⟩
        have gx := hall x (List.mem_of_getElem? hi)
        refine ⟨_, rfl, _, rfl, fl.data, fl.data, Fld.dp gx, Fld.dp (hF.same k20), Fld.shaped gx, Fld.shaped gx, _, rfl, ?_⟩
        rw [fl.eqv]
        exact iteF ⟨_, rfl, rfl⟩
      · rintro σ H' ⟨v7, rfl, rfl⟩
        refine ⟨_, rfl, L, as, _, V.ref a12, rfl, rfl, SqL.of (q20 _ _ (by simp) hL9), (by rw [← has]; rfl), a12, A.C12, _, gl, rfl, T.c12.t, T.c12.no2, f12.same (k19.trans q20), (by rw [lk_cons, if_neg (by decide), lk_cons, if_pos rfl]), fun z gz => ?_⟩
        refine ⟨_, rfl, gl.data, gl.data, Fld.dp gz, Fld.dp (hG.same k20), Fld.shaped gz, Fld.shaped gz, _, rfl, ?_⟩
        rw [gl.eqv]
        refine iteT ⟨_, rfl, _, rfl, v, u, fl, gl, rfl, hF.same k20, hG.same k20, fun H21 k21 => ⟨_, rfl, iteT ?_⟩⟩
        exact ⟨_, rfl, v, fl, rfl, hF.same (k20.trans k21), fun H22 _ => q H22⟩
end
end My

set_option Elab.async false
set_option linter.all false
set_option maxRecDepth 100000
set_option maxHeartbeats 8000000
/-! K8: from the written part to the promise. -/
namespace My
open PySem PySem.Spec PyProof.Rows L2
abbrev bmV : List Value := [.type "ValueError", .type "Exception", .type "BaseException", .type "object"]
abbrev bmR : List Value := [.type "RuntimeError", .type "Exception", .type "BaseException", .type "object"]
/-- a look at what the written part says of a class of errors -/
def xcB (K : PySem.W.Frag) (C : Addr) (bm : List Value) (nw : String) : Bool := PySem.W.excInitIn K C bm nw && (decide (PySem.W.findIn K (.ref C) "__setattr__" = some (some (.builtin "object.__setattr__"))) && (decide (PySem.W.typeIn K (.ref C) = some (.type "type")) && (PySem.W.keepIn K (.ref C) &&
  (decide (PySem.W.findIn K (.ref C) "__getattribute__" = some (some (.builtin "BaseException.__getattribute__"))) && (decide (PySem.W.findIn K (.ref C) "__getattr__" = some none) && (decide (PySem.W.subIn K (.ref C) (.type "BaseException") = some true) && (PySem.W.hasDictIn K C &&
  (decide (PySem.W.findIn K (.ref C) "__class__" = some (some (.builtin "object.__class__"))) && (decide (PySem.W.specialIn K (.builtin "object.__class__") "__get__" = some (some (.builtin "getset_descriptor.__get__"))) && (decide (PySem.W.takesIn K (.builtin "object.__class__") = some true) &&
  decide (PySem.W.mroIn K C (.type "object") = some true)))))))))))
theorem xc_of {K : PySem.W.Frag} {C : Addr} {bm : List Value} {B nw ini : String} (F : ExcBaseFacts B nw ini bm) (hp : ∀ self : Value, refuseLoop self "__setattr__" bm = pure ()) (h : xcB K C bm nw = true) : XC K C := by
  unfold xcB at h
  simp only [Bool.and_eq_true, decide_eq_true_eq] at h
  obtain ⟨h1, h2, h3, h4, h5, h6, h7, h8, h9, h10, h11, h12⟩ := h
  exact ⟨⟨B, nw, ini, bm, F, h1, hp⟩, h2, h3, h4, ⟨h5, h6, h7, h8, h9, h10, h11, h12⟩⟩
def noB (K : PySem.W.Frag) (C : Addr) (f : Str) : Bool := decide (PySem.W.findIn K (.ref C) f = some none)
theorem no_of {K : PySem.W.Frag} {C : Addr} {f : Str} (h : noB K C f = true) : PySem.W.findIn K (.ref C) f = some none := of_decide_eq_true h
def btB (K : PySem.W.Frag) : Bool := [("int" : Str), ("len" : Str), ("abs" : Str), ("list" : Str), ("str" : Str), ("range" : Str), ("enumerate" : Str), ("isinstance" : Str), ("tuple" : Str), ("set" : Str), ("all" : Str), ("any" : Str), ("max" : Str), ("min" : Str), ("sorted" : Str), ("bool" : Str), ("ValueError" : Str), ("RuntimeError" : Str)].all fun x => decide (PySem.W.nsIn K mainGlobals x = some none)
theorem bt_of {K : PySem.W.Frag} {h : Heap} {mg : Str → Option Value} (X : K.In h) (G : h.Ns mainGlobals mg) (b : btB K = true) : Bt mg ∧ mg "ValueError" = none ∧ mg "RuntimeError" = none := by
  have go : ∀ x ∈ [("int" : Str), ("len" : Str), ("abs" : Str), ("list" : Str), ("str" : Str), ("range" : Str), ("enumerate" : Str), ("isinstance" : Str), ("tuple" : Str), ("set" : Str), ("all" : Str), ("any" : Str), ("max" : Str), ("min" : Str), ("sorted" : Str), ("bool" : Str), ("ValueError" : Str), ("RuntimeError" : Str)], mg x = none := fun x hx => PySem.W.mg_none_of X G (of_decide_eq_true (List.all_eq_true.mp b x hx))
  exact ⟨⟨go _ (by simp), go _ (by simp), go _ (by simp), go _ (by simp), go _ (by simp), go _ (by simp), go _ (by simp), go _ (by simp), go _ (by simp), go _ (by simp), go _ (by simp), go _ (by simp), go _ (by simp), go _ (by simp), go _ (by simp), go _ (by simp)⟩, go _ (by simp), go _ (by simp)⟩
structure Fn (K : PySem.W.Frag) (x qual : Str) (st : Stmt) (f : Addr) : Prop where
  f : ∃ fd, Fun K x qual st f fd
theorem all_mk {l : PySem.W.OpenLaw} {w : World} {K : PySem.W.Frag} {h : Heap} {mg : Str → Option Value} {fa : Addr} (X : K.In h) (G : h.Ns mainGlobals mg) (hfa : mg "law" = some (.ref fa)) {f_copied : Addr} {od_copied an_copied : Option Addr} {sl_copied : Array (Option Value)} {oc_copied kV_copied dc_copied pm_copied cd_copied ct_copied : Value} {f_bag : Addr} {od_bag an_bag : Option Addr} {sl_bag : Array (Option Value)} {oc_bag kV_bag dc_bag pm_bag cd_bag ct_bag : Value} {f_draw : Addr} {od_draw an_draw : Option Addr} {sl_draw : Array (Option Value)} {oc_draw kV_draw dc_draw pm_draw cd_draw ct_draw : Value} {f_field : Addr} {od_field an_field : Option Addr} {sl_field : Array (Option Value)} {oc_field kV_field dc_field pm_field cd_field ct_field : Value} {f_kinds : Addr} {od_kinds an_kinds : Option Addr} {sl_kinds : Array (Option Value)} {oc_kinds kV_kinds dc_kinds pm_kinds cd_kinds ct_kinds : Value} {f_alone : Addr} {od_alone an_alone : Option Addr} {sl_alone : Array (Option Value)} {oc_alone kV_alone dc_alone pm_alone cd_alone ct_alone : Value} {f_by_name : Addr} {od_by_name an_by_name : Option Addr} {sl_by_name : Array (Option Value)} {oc_by_name kV_by_name dc_by_name pm_by_name cd_by_name ct_by_name : Value} {f_caught : Addr} {od_caught an_caught : Option Addr} {sl_caught : Array (Option Value)} {oc_caught kV_caught dc_caught pm_caught cd_caught ct_caught : Value} {f_law : Addr} {od_law an_law : Option Addr} {sl_law : Array (Option Value)} {oc_law kV_law dc_law pm_law cd_law ct_law : Value} {C0 : Addr} {i0 : Addr} {od0 an0 : Option Addr} {sl0 : Array (Option Value)} {oc0 kV0 dc0 pm0 cd0 ct0 : Value} {C1 : Addr} {i1 : Addr} {od1 an1 : Option Addr} {sl1 : Array (Option Value)} {oc1 kV1 dc1 pm1 cd1 ct1 : Value} {C2 : Addr} {i2 : Addr} {od2 an2 : Option Addr} {sl2 : Array (Option Value)} {oc2 kV2 dc2 pm2 cd2 ct2 : Value} {C3 : Addr} {i3 : Addr} {od3 an3 : Option Addr} {sl3 : Array (Option Value)} {oc3 kV3 dc3 pm3 cd3 ct3 : Value} {C4 : Addr} {i4 : Addr} {od4 an4 : Option Addr} {sl4 : Array (Option Value)} {oc4 kV4 dc4 pm4 cd4 ct4 : Value} {C5 : Addr} {i5 : Addr} {od5 an5 : Option Addr} {sl5 : Array (Option Value)} {oc5 kV5 dc5 pm5 cd5 ct5 : Value} {C6 : Addr} {i6 : Addr} {od6 an6 : Option Addr} {sl6 : Array (Option Value)} {oc6 kV6 dc6 pm6 cd6 ct6 : Value} {C7 : Addr} {i7 : Addr} {od7 an7 : Option Addr} {sl7 : Array (Option Value)} {oc7 kV7 dc7 pm7 cd7 ct7 : Value} {C8 : Addr} {i8 : Addr} {od8 an8 : Option Addr} {sl8 : Array (Option Value)} {oc8 kV8 dc8 pm8 cd8 ct8 : Value} {C9 : Addr} {i9 : Addr} {od9 an9 : Option Addr} {sl9 : Array (Option Value)} {oc9 kV9 dc9 pm9 cd9 ct9 : Value} {C10 : Addr} {i10 : Addr} {od10 an10 : Option Addr} {sl10 : Array (Option Value)} {oc10 kV10 dc10 pm10 cd10 ct10 : Value} {C11 : Addr} {i11 : Addr} {od11 an11 : Option Addr} {sl11 : Array (Option Value)} {oc11 kV11 dc11 pm11 cd11 ct11 : Value} {C12 : Addr} {i12 : Addr} {od12 an12 : Option Addr} {sl12 : Array (Option Value)} {oc12 kV12 dc12 pm12 cd12 ct12 : Value} {C13 : Addr} {C14 : Addr} {i14 : Addr} {od14 an14 : Option Addr} {sl14 : Array (Option Value)} {oc14 kV14 dc14 pm14 cd14 ct14 : Value} {C15 : Addr} {i15 : Addr} {od15 an15 : Option Addr} {sl15 : Array (Option Value)} {oc15 kV15 dc15 pm15 cd15 ct15 : Value} {C16 : Addr} {i16 : Addr} {od16 an16 : Option Addr} {sl16 : Array (Option Value)} {oc16 kV16 dc16 pm16 cd16 ct16 : Value} {TE : Addr}
    (a_copied : PySem.W.nsIn K mainGlobals "copied" = some (some (.ref f_copied))) (l_copied : K.lookup f_copied = some ⟨oc_copied, od_copied, .func (PySem.W.fnOf "copied" "copied" (defArgs sCopied) (defBody sCopied) (defScope sCopied) .none kV_copied dc_copied pm_copied an_copied cd_copied ct_copied), sl_copied⟩) (c_copied : PySem.W.codeIn K cd_copied "copied" = true) (k_copied : PySem.W.keepIn K (.ref f_copied) = true)
    (a_bag : PySem.W.nsIn K mainGlobals "_law_bag" = some (some (.ref f_bag))) (l_bag : K.lookup f_bag = some ⟨oc_bag, od_bag, .func (PySem.W.fnOf "_law_bag" "_law_bag" (defArgs sBag) (defBody sBag) (defScope sBag) .none kV_bag dc_bag pm_bag an_bag cd_bag ct_bag), sl_bag⟩) (c_bag : PySem.W.codeIn K cd_bag "_law_bag" = true) (k_bag : PySem.W.keepIn K (.ref f_bag) = true)
    (a_draw : PySem.W.nsIn K mainGlobals "_law_draw" = some (some (.ref f_draw))) (l_draw : K.lookup f_draw = some ⟨oc_draw, od_draw, .func (PySem.W.fnOf "_law_draw" "_law_draw" (defArgs sDraw) (defBody sDraw) (defScope sDraw) .none kV_draw dc_draw pm_draw an_draw cd_draw ct_draw), sl_draw⟩) (c_draw : PySem.W.codeIn K cd_draw "_law_draw" = true) (k_draw : PySem.W.keepIn K (.ref f_draw) = true)
    (a_field : PySem.W.nsIn K mainGlobals "_law_field" = some (some (.ref f_field))) (l_field : K.lookup f_field = some ⟨oc_field, od_field, .func (PySem.W.fnOf "_law_field" "_law_field" (defArgs sField) (defBody sField) (defScope sField) .none kV_field dc_field pm_field an_field cd_field ct_field), sl_field⟩) (c_field : PySem.W.codeIn K cd_field "_law_field" = true) (k_field : PySem.W.keepIn K (.ref f_field) = true)
    (a_kinds : PySem.W.nsIn K mainGlobals "_law_kinds" = some (some (.ref f_kinds))) (l_kinds : K.lookup f_kinds = some ⟨oc_kinds, od_kinds, .func (PySem.W.fnOf "_law_kinds" "_law_kinds" (defArgs sKinds) (defBody sKinds) (defScope sKinds) .none kV_kinds dc_kinds pm_kinds an_kinds cd_kinds ct_kinds), sl_kinds⟩) (c_kinds : PySem.W.codeIn K cd_kinds "_law_kinds" = true) (k_kinds : PySem.W.keepIn K (.ref f_kinds) = true)
    (a_alone : PySem.W.nsIn K mainGlobals "_law_alone" = some (some (.ref f_alone))) (l_alone : K.lookup f_alone = some ⟨oc_alone, od_alone, .func (PySem.W.fnOf "_law_alone" "_law_alone" (defArgs sAlone) (defBody sAlone) (defScope sAlone) .none kV_alone dc_alone pm_alone an_alone cd_alone ct_alone), sl_alone⟩) (c_alone : PySem.W.codeIn K cd_alone "_law_alone" = true) (k_alone : PySem.W.keepIn K (.ref f_alone) = true)
    (a_by_name : PySem.W.nsIn K mainGlobals "_law_by_name" = some (some (.ref f_by_name))) (l_by_name : K.lookup f_by_name = some ⟨oc_by_name, od_by_name, .func (PySem.W.fnOf "_law_by_name" "_law_by_name" (defArgs sBy) (defBody sBy) (defScope sBy) .none kV_by_name dc_by_name pm_by_name an_by_name cd_by_name ct_by_name), sl_by_name⟩) (c_by_name : PySem.W.codeIn K cd_by_name "_law_by_name" = true) (k_by_name : PySem.W.keepIn K (.ref f_by_name) = true)
    (a_caught : PySem.W.nsIn K mainGlobals "_law_caught" = some (some (.ref f_caught))) (l_caught : K.lookup f_caught = some ⟨oc_caught, od_caught, .func (PySem.W.fnOf "_law_caught" "_law_caught" (defArgs sCaught) (defBody sCaught) (defScope sCaught) .none kV_caught dc_caught pm_caught an_caught cd_caught ct_caught), sl_caught⟩) (c_caught : PySem.W.codeIn K cd_caught "_law_caught" = true) (k_caught : PySem.W.keepIn K (.ref f_caught) = true)
    (a_law : PySem.W.nsIn K mainGlobals "law" = some (some (.ref f_law))) (l_law : K.lookup f_law = some ⟨oc_law, od_law, .func (PySem.W.fnOf "law" "law" (defArgs sLaw) (defBody sLaw) (defScope sLaw) .none kV_law dc_law pm_law an_law cd_law ct_law), sl_law⟩) (c_law : PySem.W.codeIn K cd_law "law" = true) (k_law : PySem.W.keepIn K (.ref f_law) = true)
    (g_0 : PySem.W.nsIn K mainGlobals "BadBook" = some (some (.ref C0))) (iC_0 : PySem.W.findIn K (.ref C0) "__init__" = some (some (.ref i0))) (tI_0 : PySem.W.typeIn K (.ref i0) = some (.type "function")) (l_0 : K.lookup i0 = some ⟨oc0, od0, .func (PySem.W.fnOf "__init__" "BadBook.__init__" (defArgs sBadBook) (defBody sBadBook) (defScope sBadBook) .none kV0 dc0 pm0 an0 cd0 ct0), sl0⟩) (c_0 : PySem.W.codeIn K cd0 "BadBook.__init__" = true) (k_0 : PySem.W.keepIn K (.ref i0) = true) (x_0 : xcB K C0 bmV "ValueError.__new__" = true) (n_0 : noB K C0 "at" = true)
    (g_1 : PySem.W.nsIn K mainGlobals "TooMany" = some (some (.ref C1))) (iC_1 : PySem.W.findIn K (.ref C1) "__init__" = some (some (.ref i1))) (tI_1 : PySem.W.typeIn K (.ref i1) = some (.type "function")) (l_1 : K.lookup i1 = some ⟨oc1, od1, .func (PySem.W.fnOf "__init__" "TooMany.__init__" (defArgs sTooMany) (defBody sTooMany) (defScope sTooMany) .none kV1 dc1 pm1 an1 cd1 ct1), sl1⟩) (c_1 : PySem.W.codeIn K cd1 "TooMany.__init__" = true) (k_1 : PySem.W.keepIn K (.ref i1) = true) (x_1 : xcB K C1 bmV "ValueError.__new__" = true) (n_1 : noB K C1 "what" = true)
    (g_2 : PySem.W.nsIn K mainGlobals "NoName" = some (some (.ref C2))) (iC_2 : PySem.W.findIn K (.ref C2) "__init__" = some (some (.ref i2))) (tI_2 : PySem.W.typeIn K (.ref i2) = some (.type "function")) (l_2 : K.lookup i2 = some ⟨oc2, od2, .func (PySem.W.fnOf "__init__" "NoName.__init__" (defArgs sNoName) (defBody sNoName) (defScope sNoName) .none kV2 dc2 pm2 an2 cd2 ct2), sl2⟩) (c_2 : PySem.W.codeIn K cd2 "NoName.__init__" = true) (k_2 : PySem.W.keepIn K (.ref i2) = true) (x_2 : xcB K C2 bmV "ValueError.__new__" = true) (n_2 : noB K C2 "name" = true)
    (g_3 : PySem.W.nsIn K mainGlobals "BadArguments" = some (some (.ref C3))) (iC_3 : PySem.W.findIn K (.ref C3) "__init__" = some (some (.ref i3))) (tI_3 : PySem.W.typeIn K (.ref i3) = some (.type "function")) (l_3 : K.lookup i3 = some ⟨oc3, od3, .func (PySem.W.fnOf "__init__" "BadArguments.__init__" (defArgs sBadArguments) (defBody sBadArguments) (defScope sBadArguments) .none kV3 dc3 pm3 an3 cd3 ct3), sl3⟩) (c_3 : PySem.W.codeIn K cd3 "BadArguments.__init__" = true) (k_3 : PySem.W.keepIn K (.ref i3) = true) (x_3 : xcB K C3 bmV "ValueError.__new__" = true) (n_3 : noB K C3 "count" = true)
    (g_4 : PySem.W.nsIn K mainGlobals "NotWaiting" = some (some (.ref C4))) (iC_4 : PySem.W.findIn K (.ref C4) "__init__" = some (some (.ref i4))) (tI_4 : PySem.W.typeIn K (.ref i4) = some (.type "function")) (l_4 : K.lookup i4 = some ⟨oc4, od4, .func (PySem.W.fnOf "__init__" "NotWaiting.__init__" (defArgs sNotWaiting) (defBody sNotWaiting) (defScope sNotWaiting) .none kV4 dc4 pm4 an4 cd4 ct4), sl4⟩) (c_4 : PySem.W.codeIn K cd4 "NotWaiting.__init__" = true) (k_4 : PySem.W.keepIn K (.ref i4) = true) (x_4 : xcB K C4 bmV "ValueError.__new__" = true) (n_4 : noB K C4 "name" = true)
    (g_5 : PySem.W.nsIn K mainGlobals "BadState" = some (some (.ref C5))) (iC_5 : PySem.W.findIn K (.ref C5) "__init__" = some (some (.ref i5))) (tI_5 : PySem.W.typeIn K (.ref i5) = some (.type "function")) (l_5 : K.lookup i5 = some ⟨oc5, od5, .func (PySem.W.fnOf "__init__" "BadState.__init__" (defArgs sBadState) (defBody sBadState) (defScope sBadState) .none kV5 dc5 pm5 an5 cd5 ct5), sl5⟩) (c_5 : PySem.W.codeIn K cd5 "BadState.__init__" = true) (k_5 : PySem.W.keepIn K (.ref i5) = true) (x_5 : xcB K C5 bmV "ValueError.__new__" = true) (n_5 : noB K C5 "part" = true)
    (g_6 : PySem.W.nsIn K mainGlobals "BadRow" = some (some (.ref C6))) (iC_6 : PySem.W.findIn K (.ref C6) "__init__" = some (some (.ref i6))) (tI_6 : PySem.W.typeIn K (.ref i6) = some (.type "function")) (l_6 : K.lookup i6 = some ⟨oc6, od6, .func (PySem.W.fnOf "__init__" "BadRow.__init__" (defArgs sBadRow) (defBody sBadRow) (defScope sBadRow) .none kV6 dc6 pm6 an6 cd6 ct6), sl6⟩) (c_6 : PySem.W.codeIn K cd6 "BadRow.__init__" = true) (k_6 : PySem.W.keepIn K (.ref i6) = true) (x_6 : xcB K C6 bmV "ValueError.__new__" = true) (n_6 : noB K C6 "at" = true)
    (g_7 : PySem.W.nsIn K mainGlobals "BadAsk" = some (some (.ref C7))) (iC_7 : PySem.W.findIn K (.ref C7) "__init__" = some (some (.ref i7))) (tI_7 : PySem.W.typeIn K (.ref i7) = some (.type "function")) (l_7 : K.lookup i7 = some ⟨oc7, od7, .func (PySem.W.fnOf "__init__" "BadAsk.__init__" (defArgs sBadAsk) (defBody sBadAsk) (defScope sBadAsk) .none kV7 dc7 pm7 an7 cd7 ct7), sl7⟩) (c_7 : PySem.W.codeIn K cd7 "BadAsk.__init__" = true) (k_7 : PySem.W.keepIn K (.ref i7) = true) (x_7 : xcB K C7 bmV "ValueError.__new__" = true) (n_7 : noB K C7 "ask" = true)
    (g_8 : PySem.W.nsIn K mainGlobals "BadStep" = some (some (.ref C8))) (iC_8 : PySem.W.findIn K (.ref C8) "__init__" = some (some (.ref i8))) (tI_8 : PySem.W.typeIn K (.ref i8) = some (.type "function")) (l_8 : K.lookup i8 = some ⟨oc8, od8, .func (PySem.W.fnOf "__init__" "BadStep.__init__" (defArgs sBadStep) (defBody sBadStep) (defScope sBadStep) .none kV8 dc8 pm8 an8 cd8 ct8), sl8⟩) (c_8 : PySem.W.codeIn K cd8 "BadStep.__init__" = true) (k_8 : PySem.W.keepIn K (.ref i8) = true) (x_8 : xcB K C8 bmV "ValueError.__new__" = true) (n_8 : noB K C8 "at" = true)
    (g_9 : PySem.W.nsIn K mainGlobals "Unlike" = some (some (.ref C9))) (iC_9 : PySem.W.findIn K (.ref C9) "__init__" = some (some (.ref i9))) (tI_9 : PySem.W.typeIn K (.ref i9) = some (.type "function")) (l_9 : K.lookup i9 = some ⟨oc9, od9, .func (PySem.W.fnOf "__init__" "Unlike.__init__" (defArgs sUnlike) (defBody sUnlike) (defScope sUnlike) .none kV9 dc9 pm9 an9 cd9 ct9), sl9⟩) (c_9 : PySem.W.codeIn K cd9 "Unlike.__init__" = true) (k_9 : PySem.W.keepIn K (.ref i9) = true) (x_9 : xcB K C9 bmV "ValueError.__new__" = true) (n_9 : noB K C9 "what" = true)
    (g_10 : PySem.W.nsIn K mainGlobals "HasWait" = some (some (.ref C10))) (iC_10 : PySem.W.findIn K (.ref C10) "__init__" = some (some (.ref i10))) (tI_10 : PySem.W.typeIn K (.ref i10) = some (.type "function")) (l_10 : K.lookup i10 = some ⟨oc10, od10, .func (PySem.W.fnOf "__init__" "HasWait.__init__" (defArgs sHasWait) (defBody sHasWait) (defScope sHasWait) .none kV10 dc10 pm10 an10 cd10 ct10), sl10⟩) (c_10 : PySem.W.codeIn K cd10 "HasWait.__init__" = true) (k_10 : PySem.W.keepIn K (.ref i10) = true) (x_10 : xcB K C10 bmV "ValueError.__new__" = true) (n_10 : noB K C10 "name" = true)
    (g_11 : PySem.W.nsIn K mainGlobals "Taken" = some (some (.ref C11))) (iC_11 : PySem.W.findIn K (.ref C11) "__init__" = some (some (.ref i11))) (tI_11 : PySem.W.typeIn K (.ref i11) = some (.type "function")) (l_11 : K.lookup i11 = some ⟨oc11, od11, .func (PySem.W.fnOf "__init__" "Taken.__init__" (defArgs sTaken) (defBody sTaken) (defScope sTaken) .none kV11 dc11 pm11 an11 cd11 ct11), sl11⟩) (c_11 : PySem.W.codeIn K cd11 "Taken.__init__" = true) (k_11 : PySem.W.keepIn K (.ref i11) = true) (x_11 : xcB K C11 bmV "ValueError.__new__" = true) (n_11 : noB K C11 "name" = true)
    (g_12 : PySem.W.nsIn K mainGlobals "Ring" = some (some (.ref C12))) (iC_12 : PySem.W.findIn K (.ref C12) "__init__" = some (some (.ref i12))) (tI_12 : PySem.W.typeIn K (.ref i12) = some (.type "function")) (l_12 : K.lookup i12 = some ⟨oc12, od12, .func (PySem.W.fnOf "__init__" "Ring.__init__" (defArgs sRing) (defBody sRing) (defScope sRing) .none kV12 dc12 pm12 an12 cd12 ct12), sl12⟩) (c_12 : PySem.W.codeIn K cd12 "Ring.__init__" = true) (k_12 : PySem.W.keepIn K (.ref i12) = true) (x_12 : xcB K C12 bmR "RuntimeError.__new__" = true) (n_12 : noB K C12 "effects" = true) (m_12 : noB K C12 "cells" = true)
    (g_13 : PySem.W.nsIn K mainGlobals "Over" = some (some (.ref C13))) (x_13 : xcB K C13 bmR "RuntimeError.__new__" = true) (e_13 : PySem.W.excIn K C13 bmR "RuntimeError.__new__" = true)
    (g_14 : PySem.W.nsIn K mainGlobals "TooLong" = some (some (.ref C14))) (iC_14 : PySem.W.findIn K (.ref C14) "__init__" = some (some (.ref i14))) (tI_14 : PySem.W.typeIn K (.ref i14) = some (.type "function")) (l_14 : K.lookup i14 = some ⟨oc14, od14, .func (PySem.W.fnOf "__init__" "TooLong.__init__" (defArgs sTooLong) (defBody sTooLong) (defScope sTooLong) .none kV14 dc14 pm14 an14 cd14 ct14), sl14⟩) (c_14 : PySem.W.codeIn K cd14 "TooLong.__init__" = true) (k_14 : PySem.W.keepIn K (.ref i14) = true) (x_14 : xcB K C14 bmR "RuntimeError.__new__" = true) (n_14 : noB K C14 "cells" = true)
    (g_15 : PySem.W.nsIn K mainGlobals "Misplaced" = some (some (.ref C15))) (iC_15 : PySem.W.findIn K (.ref C15) "__init__" = some (some (.ref i15))) (tI_15 : PySem.W.typeIn K (.ref i15) = some (.type "function")) (l_15 : K.lookup i15 = some ⟨oc15, od15, .func (PySem.W.fnOf "__init__" "Misplaced.__init__" (defArgs sMisplaced) (defBody sMisplaced) (defScope sMisplaced) .none kV15 dc15 pm15 an15 cd15 ct15), sl15⟩) (c_15 : PySem.W.codeIn K cd15 "Misplaced.__init__" = true) (k_15 : PySem.W.keepIn K (.ref i15) = true) (x_15 : xcB K C15 bmR "RuntimeError.__new__" = true) (n_15 : noB K C15 "name" = true)
    (g_16 : PySem.W.nsIn K mainGlobals "Busy" = some (some (.ref C16))) (iC_16 : PySem.W.findIn K (.ref C16) "__init__" = some (some (.ref i16))) (tI_16 : PySem.W.typeIn K (.ref i16) = some (.type "function")) (l_16 : K.lookup i16 = some ⟨oc16, od16, .func (PySem.W.fnOf "__init__" "Busy.__init__" (defArgs sBusy) (defBody sBusy) (defScope sBusy) .none kV16 dc16 pm16 an16 cd16 ct16), sl16⟩) (c_16 : PySem.W.codeIn K cd16 "Busy.__init__" = true) (k_16 : PySem.W.keepIn K (.ref i16) = true) (x_16 : xcB K C16 bmR "RuntimeError.__new__" = true) (n_16 : noB K C16 "name" = true)
    (g_TE : PySem.W.nsIn K mainGlobals "TrackedError" = some (some (.ref TE))) (z_b : btB K = true) (z_k : kinB K ⟨C0, C1, C2, C3, C4, C5, C6, C7, C8, C9, C10, C11, C12, C13, C14, C15, C16, TE⟩ = true) (z_e : PySem.W.exmOne K (.ref C8) (.ref TE) = some true) :
    ∃ fd : FuncData, (∀ (s : Shared) (v : Value), BindsTo s fd ⟨[v], []⟩ [("_law_script", v)]) ∧ ∀ base : Heap, K.In base → base.Ns mainGlobals mg → FnOk l.prog w K mg base CX0 7 fa fd ["_law_script"] (spLaw K) := by
  have e := hfa.symm.trans (PySem.W.mg_of X G a_law)
  cases e
  obtain ⟨B, nV, nR⟩ := bt_of X G z_b
  have F_copied := fun_mk (st := sCopied) l_copied c_copied k_copied
  have A_copied : At K mg "copied" f_copied := ⟨PySem.W.mg_of X G a_copied, k_copied⟩
  have F_bag := fun_mk (st := sBag) l_bag c_bag k_bag
  have A_bag : At K mg "_law_bag" f_bag := ⟨PySem.W.mg_of X G a_bag, k_bag⟩
  have F_draw := fun_mk (st := sDraw) l_draw c_draw k_draw
  have A_draw : At K mg "_law_draw" f_draw := ⟨PySem.W.mg_of X G a_draw, k_draw⟩
  have F_field := fun_mk (st := sField) l_field c_field k_field
  have A_field : At K mg "_law_field" f_field := ⟨PySem.W.mg_of X G a_field, k_field⟩
  have F_kinds := fun_mk (st := sKinds) l_kinds c_kinds k_kinds
  have A_kinds : At K mg "_law_kinds" f_kinds := ⟨PySem.W.mg_of X G a_kinds, k_kinds⟩
  have F_alone := fun_mk (st := sAlone) l_alone c_alone k_alone
  have A_alone : At K mg "_law_alone" f_alone := ⟨PySem.W.mg_of X G a_alone, k_alone⟩
  have F_by_name := fun_mk (st := sBy) l_by_name c_by_name k_by_name
  have A_by_name : At K mg "_law_by_name" f_by_name := ⟨PySem.W.mg_of X G a_by_name, k_by_name⟩
  have F_caught := fun_mk (st := sCaught) l_caught c_caught k_caught
  have A_caught : At K mg "_law_caught" f_caught := ⟨PySem.W.mg_of X G a_caught, k_caught⟩
  have F_law := fun_mk (st := sLaw) l_law c_law k_law
  have b_bag := F_bag.binds (ps := ["_law_script"]) fun _ _ _ _ _ _ us hl => match us, hl with | [_], _ => rfl
  have b_draw := F_draw.binds (ps := ["_law_bag_here", "_law_many"]) fun _ _ _ _ _ _ us hl => match us, hl with | [_, _], _ => rfl
  have b_field := F_field.binds (ps := ["_law_bag_here"]) fun _ _ _ _ _ _ us hl => match us, hl with | [_], _ => rfl
  have b_kinds := F_kinds.binds (ps := ["_law_why"]) fun _ _ _ _ _ _ us hl => match us, hl with | [_], _ => rfl
  have b_alone := F_alone.binds (ps := ["_law_why", "_law_at"]) fun _ _ _ _ _ _ us hl => match us, hl with | [_, _], _ => rfl
  have b_by_name := F_by_name.binds (ps := ["_law_one", "_law_two"]) fun _ _ _ _ _ _ us hl => match us, hl with | [_, _], _ => rfl
  have b_caught := F_caught.binds (ps := ["_law_one"]) fun _ _ _ _ _ _ us hl => match us, hl with | [_], _ => rfl
  refine ⟨PySem.W.fnOf "law" "law" (defArgs sLaw) (defBody sLaw) (defScope sLaw) .none kV_law dc_law pm_law an_law cd_law ct_law, fun s v => .of_eq rfl, fun base _ _ => ?_⟩
  have T : Tab l.prog w K mg base ⟨C0, C1, C2, C3, C4, C5, C6, C7, C8, C9, C10, C11, C12, C13, C14, C15, C16, TE⟩ := {
    c0 := clBadBook (fun_mk (st := sBadBook) l_0 c_0 k_0) F_copied B A_copied (PySem.W.mg_of X G g_0) (xc_of PySem.F.excBase_ValueError PySem.F.store_ValueError.passes x_0) (no_of n_0) iC_0 tI_0,
    c1 := clTooMany (fun_mk (st := sTooMany) l_1 c_1 k_1) F_copied B A_copied (PySem.W.mg_of X G g_1) (xc_of PySem.F.excBase_ValueError PySem.F.store_ValueError.passes x_1) (no_of n_1) iC_1 tI_1,
    c2 := clNoName (fun_mk (st := sNoName) l_2 c_2 k_2) F_copied B A_copied (PySem.W.mg_of X G g_2) (xc_of PySem.F.excBase_ValueError PySem.F.store_ValueError.passes x_2) (no_of n_2) iC_2 tI_2,
    c3 := clBadArguments (fun_mk (st := sBadArguments) l_3 c_3 k_3) F_copied B A_copied (PySem.W.mg_of X G g_3) (xc_of PySem.F.excBase_ValueError PySem.F.store_ValueError.passes x_3) (no_of n_3) iC_3 tI_3,
    c4 := clNotWaiting (fun_mk (st := sNotWaiting) l_4 c_4 k_4) F_copied B A_copied (PySem.W.mg_of X G g_4) (xc_of PySem.F.excBase_ValueError PySem.F.store_ValueError.passes x_4) (no_of n_4) iC_4 tI_4,
    c5 := clBadState (fun_mk (st := sBadState) l_5 c_5 k_5) F_copied B A_copied (PySem.W.mg_of X G g_5) (xc_of PySem.F.excBase_ValueError PySem.F.store_ValueError.passes x_5) (no_of n_5) iC_5 tI_5,
    c6 := clBadRow (fun_mk (st := sBadRow) l_6 c_6 k_6) F_copied B A_copied (PySem.W.mg_of X G g_6) (xc_of PySem.F.excBase_ValueError PySem.F.store_ValueError.passes x_6) (no_of n_6) iC_6 tI_6,
    c7 := clBadAsk (fun_mk (st := sBadAsk) l_7 c_7 k_7) F_copied B A_copied (PySem.W.mg_of X G g_7) (xc_of PySem.F.excBase_ValueError PySem.F.store_ValueError.passes x_7) (no_of n_7) iC_7 tI_7,
    c8 := clBadStep (fun_mk (st := sBadStep) l_8 c_8 k_8) F_copied B A_copied (PySem.W.mg_of X G g_8) (xc_of PySem.F.excBase_ValueError PySem.F.store_ValueError.passes x_8) (no_of n_8) iC_8 tI_8,
    c9 := clUnlike (fun_mk (st := sUnlike) l_9 c_9 k_9) F_copied B A_copied (PySem.W.mg_of X G g_9) (xc_of PySem.F.excBase_ValueError PySem.F.store_ValueError.passes x_9) (no_of n_9) iC_9 tI_9,
    c10 := clHasWait (fun_mk (st := sHasWait) l_10 c_10 k_10) F_copied B A_copied (PySem.W.mg_of X G g_10) (xc_of PySem.F.excBase_ValueError PySem.F.store_ValueError.passes x_10) (no_of n_10) iC_10 tI_10,
    c11 := clTaken (fun_mk (st := sTaken) l_11 c_11 k_11) F_copied B A_copied (PySem.W.mg_of X G g_11) (xc_of PySem.F.excBase_ValueError PySem.F.store_ValueError.passes x_11) (no_of n_11) iC_11 tI_11,
    c12 := clRing (fun_mk (st := sRing) l_12 c_12 k_12) F_copied B A_copied (PySem.W.mg_of X G g_12) (xc_of PySem.F.excBase_RuntimeError PySem.F.store_RuntimeError.passes x_12) (no_of n_12) (no_of m_12) iC_12 tI_12,
    g13 := PySem.W.mg_of X G g_13, x13 := xc_of PySem.F.excBase_RuntimeError PySem.F.store_RuntimeError.passes x_13, e13 := e_13,
    c14 := clTooLong (fun_mk (st := sTooLong) l_14 c_14 k_14) F_copied B A_copied (PySem.W.mg_of X G g_14) (xc_of PySem.F.excBase_RuntimeError PySem.F.store_RuntimeError.passes x_14) (no_of n_14) iC_14 tI_14,
    c15 := clMisplaced (fun_mk (st := sMisplaced) l_15 c_15 k_15) F_copied B A_copied (PySem.W.mg_of X G g_15) (xc_of PySem.F.excBase_RuntimeError PySem.F.store_RuntimeError.passes x_15) (no_of n_15) iC_15 tI_15,
    c16 := clBusy (fun_mk (st := sBusy) l_16 c_16 k_16) F_copied B A_copied (PySem.W.mg_of X G g_16) (xc_of PySem.F.excBase_RuntimeError PySem.F.store_RuntimeError.passes x_16) (no_of n_16) iC_16 tI_16,
    gT := PySem.W.mg_of X G g_TE, nV := nV, nR := nR, kin := z_k, ex := z_e }
  exact ok_law F_law B T ⟨ok_bag F_bag B, A_bag, b_bag⟩ ⟨ok_field F_field B F_draw A_draw b_draw, A_field, b_field⟩ ⟨ok_alone F_alone B T F_kinds A_kinds b_kinds, A_alone, b_alone⟩ ⟨ok_by F_by_name T, A_by_name, b_by_name⟩ ⟨ok_caught F_caught B T, A_caught, b_caught⟩
theorem walk {l : PySem.W.OpenLaw} {q : Program} {loose : List Str} {XP : (Str → Option Value) → Heap → Prop} {YP : World → Heap → Prop} {d : DefRec} {K : Params → PySem.W.Frag} (hn : l.most = some 63) (hdf : d.params.defaults = []) (hY : ∀ (w : World) (h : Heap), YP w h → (K w.params).In h)
    (F : ∀ (w : World) (mg : Str → Option Value) (fa : Addr) (h : Heap), (K w.params).In h → h.Ns mainGlobals mg → mg d.name = some (.ref fa) → ∃ fd : FuncData, (∀ (s : Shared) (u : Value), BindsTo s fd ⟨[u], []⟩ [("_law_script", u)]) ∧ ∀ base : Heap, (K w.params).In base → base.Ns mainGlobals mg → FnOk l.prog w (K w.params) mg base CX0 7 fa fd ["_law_script"] (spLaw (K w.params))) :
    PySem.W.WalkO q loose XP YP l.row.toRowW d [] (fun f vs => PySem.call f vs) :=
  L2.walk_of (n := 63) (k := 7) (x := "_law_script") (CX := fun _ => CX0) (sp := fun w => spLaw (K w.params)) hn (by decide) hdf ⟨rfl, by decide, by decide⟩ hY F (fun _ _ a ns hl _ hS => ⟨a, ns, rfl, hS, hl, fun _ => rfl⟩) fun _ _ _ _ _ z => z
end My

set_option Elab.async false
set_option linter.all false
set_option maxRecDepth 100000
set_option maxHeartbeats 0
open PySem PySem.W PyProof.Rows in
set_option maxRecDepth 100000 in
set_option maxHeartbeats 0 in
theorem PySem.Challenge.cw_trackedreads_k01_errors_made_holds : PySem.Challenge.rw_trackedreads_k01_errors_made.Holds := by
  w_on; o_law; k_head; (case hw => w_witness2)
  k_fill
  refine My.walk (l := PySem.Challenge.rw_trackedreads_k01_errors_made) rfl rfl (fun w h Y => PySem.W.kIn_of Y) ?F
  case F =>
    intro w mg fa h KX G hmg
    refine' My.all_mk KX G hmg ?a_copied ?l_copied ?c_copied ?k_copied ?a_bag ?l_bag ?c_bag ?k_bag ?a_draw ?l_draw ?c_draw ?k_draw ?a_field ?l_field ?c_field ?k_field ?a_kinds ?l_kinds ?c_kinds ?k_kinds ?a_alone ?l_alone ?c_alone ?k_alone ?a_by_name ?l_by_name ?c_by_name ?k_by_name ?a_caught ?l_caught ?c_caught ?k_caught ?a_law ?l_law ?c_law ?k_law ?g_0 ?iC_0 ?tI_0 ?l_0 ?c_0 ?k_0 ?x_0 ?n_0 ?g_1 ?iC_1 ?tI_1 ?l_1 ?c_1 ?k_1 ?x_1 ?n_1 ?g_2 ?iC_2 ?tI_2 ?l_2 ?c_2 ?k_2 ?x_2 ?n_2 ?g_3 ?iC_3 ?tI_3 ?l_3 ?c_3 ?k_3 ?x_3 ?n_3 ?g_4 ?iC_4 ?tI_4 ?l_4 ?c_4 ?k_4 ?x_4 ?n_4 ?g_5 ?iC_5 ?tI_5 ?l_5 ?c_5 ?k_5 ?x_5 ?n_5 ?g_6 ?iC_6 ?tI_6 ?l_6 ?c_6 ?k_6 ?x_6 ?n_6 ?g_7 ?iC_7 ?tI_7 ?l_7 ?c_7 ?k_7 ?x_7 ?n_7 ?g_8 ?iC_8 ?tI_8 ?l_8 ?c_8 ?k_8 ?x_8 ?n_8 ?g_9 ?iC_9 ?tI_9 ?l_9 ?c_9 ?k_9 ?x_9 ?n_9 ?g_10 ?iC_10 ?tI_10 ?l_10 ?c_10 ?k_10 ?x_10 ?n_10 ?g_11 ?iC_11 ?tI_11 ?l_11 ?c_11 ?k_11 ?x_11 ?n_11 ?g_12 ?iC_12 ?tI_12 ?l_12 ?c_12 ?k_12 ?x_12 ?n_12 ?m_12 ?g_13 ?x_13 ?e_13 ?g_14 ?iC_14 ?tI_14 ?l_14 ?c_14 ?k_14 ?x_14 ?n_14 ?g_15 ?iC_15 ?tI_15 ?l_15 ?c_15 ?k_15 ?x_15 ?n_15 ?g_16 ?iC_16 ?tI_16 ?l_16 ?c_16 ?k_16 ?x_16 ?n_16 ?g_TE ?z_b ?z_k ?z_e
    (case a_copied => k_is)
    (case l_copied => k_is)
    (case c_copied => k_is)
    (case k_copied => k_is)
    (case a_bag => k_is)
    (case l_bag => k_is)
    (case c_bag => k_is)
    (case k_bag => k_is)
    (case a_draw => k_is)
    (case l_draw => k_is)
    (case c_draw => k_is)
    (case k_draw => k_is)
    (case a_field => k_is)
    (case l_field => k_is)
    (case c_field => k_is)
    (case k_field => k_is)
    (case a_kinds => k_is)
    (case l_kinds => k_is)
    (case c_kinds => k_is)
    (case k_kinds => k_is)
    (case a_alone => k_is)
    (case l_alone => k_is)
    (case c_alone => k_is)
    (case k_alone => k_is)
    (case a_by_name => k_is)
    (case l_by_name => k_is)
    (case c_by_name => k_is)
    (case k_by_name => k_is)
    (case a_caught => k_is)
    (case l_caught => k_is)
    (case c_caught => k_is)
    (case k_caught => k_is)
    (case a_law => k_is)
    (case l_law => k_is)
    (case c_law => k_is)
    (case k_law => k_is)
    (case g_0 => k_is)
    (case iC_0 => k_is)
    (case tI_0 => k_is)
    (case l_0 => k_is)
    (case c_0 => k_is)
    (case k_0 => k_is)
    (case x_0 => kernel_rfl)
    (case n_0 => kernel_rfl)
    (case g_1 => k_is)
    (case iC_1 => k_is)
    (case tI_1 => k_is)
    (case l_1 => k_is)
    (case c_1 => k_is)
    (case k_1 => k_is)
    (case x_1 => kernel_rfl)
    (case n_1 => kernel_rfl)
    (case g_2 => k_is)
    (case iC_2 => k_is)
    (case tI_2 => k_is)
    (case l_2 => k_is)
    (case c_2 => k_is)
    (case k_2 => k_is)
    (case x_2 => kernel_rfl)
    (case n_2 => kernel_rfl)
    (case g_3 => k_is)
    (case iC_3 => k_is)
    (case tI_3 => k_is)
    (case l_3 => k_is)
    (case c_3 => k_is)
    (case k_3 => k_is)
    (case x_3 => kernel_rfl)
    (case n_3 => kernel_rfl)
    (case g_4 => k_is)
    (case iC_4 => k_is)
    (case tI_4 => k_is)
    (case l_4 => k_is)
    (case c_4 => k_is)
    (case k_4 => k_is)
    (case x_4 => kernel_rfl)
    (case n_4 => kernel_rfl)
    (case g_5 => k_is)
    (case iC_5 => k_is)
    (case tI_5 => k_is)
    (case l_5 => k_is)
    (case c_5 => k_is)
    (case k_5 => k_is)
    (case x_5 => kernel_rfl)
    (case n_5 => kernel_rfl)
    (case g_6 => k_is)
    (case iC_6 => k_is)
    (case tI_6 => k_is)
    (case l_6 => k_is)
    (case c_6 => k_is)
    (case k_6 => k_is)
    (case x_6 => kernel_rfl)
    (case n_6 => kernel_rfl)
    (case g_7 => k_is)
    (case iC_7 => k_is)
    (case tI_7 => k_is)
    (case l_7 => k_is)
    (case c_7 => k_is)
    (case k_7 => k_is)
    (case x_7 => kernel_rfl)
    (case n_7 => kernel_rfl)
    (case g_8 => k_is)
    (case iC_8 => k_is)
    (case tI_8 => k_is)
    (case l_8 => k_is)
    (case c_8 => k_is)
    (case k_8 => k_is)
    (case x_8 => kernel_rfl)
    (case n_8 => kernel_rfl)
    (case g_9 => k_is)
    (case iC_9 => k_is)
    (case tI_9 => k_is)
    (case l_9 => k_is)
    (case c_9 => k_is)
    (case k_9 => k_is)
    (case x_9 => kernel_rfl)
    (case n_9 => kernel_rfl)
    (case g_10 => k_is)
    (case iC_10 => k_is)
    (case tI_10 => k_is)
    (case l_10 => k_is)
    (case c_10 => k_is)
    (case k_10 => k_is)
    (case x_10 => kernel_rfl)
    (case n_10 => kernel_rfl)
    (case g_11 => k_is)
    (case iC_11 => k_is)
    (case tI_11 => k_is)
    (case l_11 => k_is)
    (case c_11 => k_is)
    (case k_11 => k_is)
    (case x_11 => kernel_rfl)
    (case n_11 => kernel_rfl)
    (case g_12 => k_is)
    (case iC_12 => k_is)
    (case tI_12 => k_is)
    (case l_12 => k_is)
    (case c_12 => k_is)
    (case k_12 => k_is)
    (case x_12 => kernel_rfl)
    (case n_12 => kernel_rfl)
    (case m_12 => kernel_rfl)
    (case g_13 => k_is)
    (case x_13 => kernel_rfl)
    (case e_13 => kernel_rfl)
    (case g_14 => k_is)
    (case iC_14 => k_is)
    (case tI_14 => k_is)
    (case l_14 => k_is)
    (case c_14 => k_is)
    (case k_14 => k_is)
    (case x_14 => kernel_rfl)
    (case n_14 => kernel_rfl)
    (case g_15 => k_is)
    (case iC_15 => k_is)
    (case tI_15 => k_is)
    (case l_15 => k_is)
    (case c_15 => k_is)
    (case k_15 => k_is)
    (case x_15 => kernel_rfl)
    (case n_15 => kernel_rfl)
    (case g_16 => k_is)
    (case iC_16 => k_is)
    (case tI_16 => k_is)
    (case l_16 => k_is)
    (case c_16 => k_is)
    (case k_16 => k_is)
    (case x_16 => kernel_rfl)
    (case n_16 => kernel_rfl)
    (case g_TE => k_is)
    (case z_b => kernel_rfl)
    (case z_k => kernel_rfl)
    (case z_e => kernel_rfl)
