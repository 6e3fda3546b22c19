import PyProof.Rows.All
import Wide.All
import OpenK.AllK
import Wide.FinOn
import HandS.ForMost
import HandS.ExcInit
import HandS.ExcIs
import HandS.ExcOwn
import HandS.ExcValue
import HandS.ExcCtx
import HandS.ExcField
import KE.KExcInit
import KE.KExcIs
import HandS.MakeKwOnly
import HandS.Wide
import HandS.Codes
import HandS.Star
import HandS.Property
import HandS.OwnIter
import HandS.IterVal
import HandS.IterNext
import HandS.Defaults
import PySem.Challenge.RW_trackedreads_k67_cells
import HandS.IsInst
import HandS.WordsExc
import HandS.Text
import HandS.Zip
import HandS.Style
import HandS.Ends
set_option Elab.async false
set_option linter.all false
set_option maxRecDepth 100000
set_option maxHeartbeats 4000000
/-! X1: exceptions of own classes over ValueError or RuntimeError: their fields, as values. -/
namespace My
open PySem PySem.Spec PyProof.Rows L2
/-- what the written part says of an own exception class -/
structure XC (K : PySem.W.Frag) (C : Addr) : Prop where
  mks : ∃ (B newId initId : String) (bmB : List Value), ExcBaseFacts B newId initId bmB ∧ PySem.W.excInitIn K C bmB newId = true ∧ ∀ self : Value, refuseLoop self "__setattr__" bmB = pure ()
  sa : PySem.W.findIn K (.ref C) "__setattr__" = some (some (.builtin "object.__setattr__"))
  ty : PySem.W.typeIn K (.ref C) = some (.type "type")
  kC : PySem.W.keepIn K (.ref C) = true
  is : ExcC K C
theorem pass_tail {bmB : List Value} (hp : ∀ self : Value, refuseLoop self "__setattr__" bmB = pure ()) (self : Value) : ∀ l : List Value, PySem.W.excTail bmB l = true → refuseLoop self "__setattr__" l = pure ()
  | [], e => by
    rcases PySem.W.excTail_cases [] e with ⟨c, r, q, _⟩ | q
    · cases q
    · rw [q]; exact hp self
  | a :: r, e => by
    rcases PySem.W.excTail_cases (a :: r) e with ⟨c, r', q, h⟩ | q
    · cases q
      rw [refuseLoop_ref]
      exact pass_tail hp self r h
    · rw [q]; exact hp self
theorem XC.cd {K : PySem.W.Frag} {C : Addr} (T : XC K C) : ∃ cd : ClassData, PySem.W.clsIn K C = some cd ∧ cd.hasDict = true ∧ ∀ self : Value, refuseLoop self "__setattr__" cd.mro = pure () := by
  obtain ⟨B, newId, initId, bmB, F, hI, hp⟩ := T.mks
  obtain ⟨cd, hc, hd⟩ := PySem.W.any_some T.is.hd
  refine ⟨cd, hc, hd, fun self => ?_⟩
  unfold PySem.W.excInitIn at hI
  split at hI
  · rename_i dd cd' sl ho
    have hc' : PySem.W.clsIn K C = some cd' := by unfold PySem.W.clsIn; rw [ho]
    rw [hc'] at hc
    cases hc
    split at hI
    · rename_i C' bm k0 k1 k2 k3 n k5 hm hs
      simp only [Bool.and_eq_true, beq_iff_eq, Bool.not_eq_true'] at hI
      rw [hm, refuseLoop_ref]
      exact pass_tail hp self bm hI.2
    · cases hI
  · cases hI

/-! ### a field stored -/
section
open Builtin Builtin.ObjectAttr
variable {prog : Program} {w : World} {A : Around} {R : Result → Shared → Prop} {hp : Heap} {g : Array GenState} {d : Drawn} {t : Nat} {os : OsState} {K : PySem.W.Frag} {nm : Str} {tk : Tok} {v : Value} {x C dx : Addr} {fv : Array Value}
/-- object.__setattr__ up to the store in the own dict -/
theorem xs_walk {ox : Obj} {od : Option Obj} {cd : ClassData} (Y : K.In hp) (I : PySem.W.InstAt hp x ox C od) (T : XC K C) (hcd : PySem.W.clsIn K C = some cd) (hps : ∀ self : Value, refuseLoop self "__setattr__" cd.mro = pure ())
    (hno : PySem.W.findIn K (.ref C) nm = some none)
    (hq : wpAny (model prog w) A.in1 (storeInOwnDict (.ref x) (.ref C) (.str nm tk) nm v false) (fun fin s' => match fin with | .done f => R (.ok f) s' | .again c' => c'.quiet = true ∧ codeAny (model prog w) A c' R s') (fun e s' => R (.error e) s') ⟨hp, g, d, t, os⟩) :
    codeAny (model prog w) A (.call (.builtin "object.__setattr__") ⟨[.ref x, .str nm tk, v], []⟩) R ⟨hp, g, d, t, os⟩ := by
  have S0 := F.store_object; have isO : PySem.W.Looks (model prog w) hp (isInstance (.ref x) (.type "object")) true := I.type.andThen (PySem.W.looks_mroIn Y T.is.hm)
  refine codeAny_call_builtin S0.slot.plain S0.entry (@PySem.W.check_slot (model prog w) _ _ ⟨hp, g, d, t, os⟩ "object.__setattr__" "object" "__setattr__" (.ref x) [.str nm tk, v] [] _ S0.kind S0.split isO (S0.args _ _ _) ?_)
  have lm : PySem.W.Looks (model prog w) hp (mroOf (.ref C)) cd.mro := (PySem.W.looks_clsIn Y hcd).andThen .now
  have l3 : PySem.W.Looks (model prog w) hp (storeTaker? none) none := .now
  rw [PySem.W.osa_eq, refuse_eq]
  refine wpAny_bind (wpAny_bind (I.type.at (wpAny_bind (lm.at ?_)))); rw [hps]
  exact wpAny_pure (wpAny_bind (I.type.at (wpAny_bind ((PySem.W.looks_findIn Y hno).at (wpAny_bind (l3.at hq))))))
theorem xs_new (Y : K.In hp) (T : XC K C) (hx : hp.get? x = some { cls := .ref C, data := .fields fv }) (hno : PySem.W.findIn K (.ref C) nm = some none)
    (hq : ∀ h' tk' dx, (∀ b o, b ≠ x → hp.get? b = some o → h'.get? b = some o) → hp.objs.size ≤ dx → dx ≠ x → h'.get? x = some { cls := .ref C, dict := some dx, data := .fields fv } → h'.Ns1 dx (fun y => if y = nm then some v else none) → R (.ok (.ret .none)) ⟨h', g, d, tk', os⟩) :
    codeAny (model prog w) A (.call (.builtin "object.__setattr__") ⟨[.ref x, .str nm tk, v], []⟩) R ⟨hp, g, d, t, os⟩ := by
  obtain ⟨cd, hcd, hhd, hps⟩ := T.cd
  have hxs : x ≠ hp.objs.size := Nat.ne_of_lt (Heap.lt_size hx)
  refine xs_walk (ox := { cls := .ref C, data := .fields fv }) (od := none) Y ⟨hx, rfl, rfl, trivial⟩ T hcd hps hno ?_
  have lc : PySem.W.Looks (model prog w) hp (classData C) cd := PySem.W.looks_clsIn Y hcd
  obtain ⟨n0, bs, mro, ns, qn, hd, sn, sb, ab, col, del⟩ := cd
  dsimp only at hhd; subst hhd
  unfold storeInOwnDict ownDictForStores
  repeat (first | with_reducible refine HandSPX.store_in_new ?_ ?_ | with_reducible refine wpAny_loadPart_at hx ?_ | with_reducible refine lc.at ?_ | wp_step)
  · exact ⟨_, #[], _, (Heap.get?_update_ne _ _ _ _ hxs.symm).trans (Heap.get?_push_at rfl rfl), rfl, fun e he => absurd he (by simp), fun _ => rfl⟩
  · intro h' tk' hn' hs
    have hx1 : (hp.push { cls := .type "dict", data := .dict #[] }).get? x = some { cls := .ref C, data := .fields fv } := Heap.get?_push_of_some _ hx
    exact hq h' tk' hp.objs.size (fun b o hb ho => (hs.2 b (Nat.ne_of_lt (Heap.lt_size ho))).trans ((Heap.get?_update_ne _ _ _ _ hb).trans (Heap.get?_push_of_some _ ho))) (Nat.le_refl _) hxs.symm ((hs.2 x hxs).trans (Heap.get?_update_self _ hx1 rfl)) hn'
theorem xs_old {m0 : Str → Option Value} {nl : List Str} (Y : K.In hp) (T : XC K C) (hx : hp.get? x = some { cls := .ref C, dict := some dx, data := .fields fv }) (hns : hp.Ns1 dx m0) (hw : Within m0 nl) (hz : nl.length ≤ 1000) (hno : PySem.W.findIn K (.ref C) nm = some none)
    (hq : ∀ h' tk', (∀ b o, b ≠ dx → hp.get? b = some o → h'.get? b = some o) → h'.Ns1 dx (fun y => if y = nm then some v else m0 y) → R (.ok (.ret .none)) ⟨h', g, d, tk', os⟩) :
    codeAny (model prog w) A (.call (.builtin "object.__setattr__") ⟨[.ref x, .str nm tk, v], []⟩) R ⟨hp, g, d, t, os⟩ := by
  obtain ⟨cd, hcd, hhd, hps⟩ := T.cd
  obtain ⟨oD, esD, epD, hoD, _, _⟩ := hns.count hw
  refine xs_walk (ox := { cls := .ref C, dict := some dx, data := .fields fv }) (od := some oD) Y ⟨hx, rfl, rfl, hoD⟩ T hcd hps hno ?_
  have lc : PySem.W.Looks (model prog w) hp (classData C) cd := PySem.W.looks_clsIn Y hcd
  obtain ⟨n0, bs, mro, ns, qn, hd, sn, sb, ab, col, del⟩ := cd
  dsimp only at hhd; subst hhd
  unfold storeInOwnDict ownDictForStores
  repeat (first | with_reducible refine OEX.store_in_old hns hw hz ?_ | with_reducible refine wpAny_loadPart_at hx ?_ | with_reducible refine lc.at ?_ | wp_step)
  exact fun h' tk' hn' hs => hq h' tk' (fun b o hb ho => (hs.2 b hb).trans ho) hn'
end
section
variable {X : Cx} {pins : List (Addr × Obj)} {σ : L2.St} {H : Hp} {s : Shared} {a C dx : Addr} {f : Str} {y : V} {u : Value} {fs : List (Str × V)} {Q : Unit → Shared → Prop} {E : Value → Shared → Prop} {A : Around}
theorem xset_new (T : XC X.K C) (I : Inv X pins σ H s) (e : H a = some (exo a C none)) (hno : PySem.W.findIn X.K (.ref C) f = some none) (ry : RelV y u)
    (h : ∀ dx s', H dx = none → dx ≠ a → Inv X pins σ (upd (upd H dx (exd dx [(f, y)])) a (exo a C (some dx))) s' → Q () s') : wpAny (model X.prog X.w) A (setAttr (.ref a) f u) Q E s := by
  obtain ⟨t1, ho⟩ := exo_at I.hok e
  obtain ⟨hp, g, d, t, os⟩ := s
  refine PySem.W.set_plain I.kIn (ox := { cls := .ref C, dict := none, data := .fields #[.ref t1, .none, .none, .none, .bool false, .none] }) (od := none) ⟨ho, rfl, rfl, trivial⟩ T.sa (xs_new I.kIn T ho hno fun h' tk' dx k dn dne hx hn => ?_)
  have hnd : H dx = none := I.hok.fresh dn
  have nd : ∀ {b : Addr} {o : Obj}, hp.get? b = some o → b ≠ dx := fun {b o} q => Nat.ne_of_lt (Nat.lt_of_lt_of_le (Heap.lt_size q) dn)
  have na : ∀ {b : Addr}, H b = none → b ≠ a := fun {b} n z => by rw [z, e] at n; cases n
  have U : Un X.fs [] H (upd (upd H dx (exd dx [(f, y)])) a (exo a C (some dx))) hp h' := ⟨fun b o q n _ _ => k b o (na n) q, fun b o q n _ _ => ⟨o.slots, k b o (na n) q⟩, fun b o q n _ => by rw [upd_ne (na n), upd_ne (nd q)]; exact n,
    fun b o q _ => (Decidable.em (b = a)).elim (fun hb => by subst hb; exact ⟨_, hx⟩) fun hb => ⟨o, k b o hb q⟩, fun b xs q => by rw [upd_ne (at_ne e q exo_tup), upd_ne (ne_of_none q hnd)]; exact q,
    fun b o v q => by rw [upd_ne (at_ne e q exo_frz), upd_ne (ne_of_none q hnd)]; exact q, fun b ps q => ⟨#[], by rw [upd_ne (at_ne e q exo_tbl), upd_ne (ne_of_none q hnd), q]; simp⟩⟩
  refine h dx _ hnd dne (I.un (t' := tk') U fun b o q => ?_)
  by_cases hb : b = a
  · subst hb; rw [upd_same] at q; cases q
    exact exo_ok hx
  · by_cases hd : b = dx
    · subst hd; rw [upd_ne hb, upd_same] at q; cases q
      exact exd_ok hn (relO_put (fs := []) ry fun _ => True.intro)
    · rw [upd_ne hb, upd_ne hd] at q
      exact (I.hok b o q).stay (fun c v hc z => k c v (hc.elim (fun z => by rw [z]; exact hb) fun z => at_ne e z exo_own) z) (fun c hc => by rw [upd_ne (at_ne e hc exo_own), upd_ne (ne_of_none hc hnd)]; exact hc)
        (fun c xs hc => by rw [upd_ne (at_ne e hc exo_tup), upd_ne (ne_of_none hc hnd)]; exact hc)
theorem xset_old (T : XC X.K C) (I : Inv X pins σ H s) (e : H a = some (exo a C (some dx))) (ed : H dx = some (exd dx fs)) (hl : fs.length ≤ 900) (hno : PySem.W.findIn X.K (.ref C) f = some none) (ry : RelV y u)
    (h : ∀ s', Inv X pins σ (upd H dx (exd dx ((f, y) :: fs))) s' → Q () s') : wpAny (model X.prog X.w) A (setAttr (.ref a) f u) Q E s := by
  obtain ⟨t1, ho⟩ := exo_at I.hok e
  obtain ⟨mA, hns, rel⟩ := exd_at I.hok ed
  have hw := within_of rel
  obtain ⟨hp, g, d, t, os⟩ := s
  obtain ⟨oD, _, _, hoD, _, _⟩ := hns.count hw
  refine PySem.W.set_plain I.kIn (ox := { cls := .ref C, dict := some dx, data := .fields #[.ref t1, .none, .none, .none, .bool false, .none] }) (od := some oD) ⟨ho, rfl, rfl, hoD⟩ T.sa (xs_old I.kIn T ho hns hw (by rw [List.length_map]; omega) hno fun h' tk' k hn => ?_)
  have hd : ∃ o, h'.get? dx = some o := let ⟨o, _, _, e', _⟩ := hn; ⟨o, e'⟩
  exact h _ (I.write (t' := tk') (x := dx) (e := dx) (o := exd dx ((f, y) :: fs)) (by rw [ed]; exact True.intro) (.inl rfl) k hd (exd_ok hn (relO_put ry rel)))
end
/-- self.f = e in an own exception's __init__ -/
def tXst (K : PySem.W.Frag) (f : Str) (to te : TE) : TS := fun D σ H => te σ H fun y H1 => to σ H1 fun x H2 => ∃ a C : Addr, x = .ref a ∧ XC K C ∧ PySem.W.findIn K (.ref C) f = some none ∧
  ((H2 a = some (exo a C none) ∧ ∀ dx, H2 dx = none → dx ≠ a → D.nx σ (upd (upd H2 dx (exd dx [(f, y)])) a (exo a C (some dx)))) ∨
    ∃ (dx : Addr) (fs : List (Str × V)), H2 a = some (exo a C (some dx)) ∧ H2 dx = some (exd dx fs) ∧ fs.length ≤ 900 ∧ D.nx σ (upd H2 dx (exd dx ((f, y) :: fs))))
theorem ps_xst {X : Cx} {o e : Expr} {to te : TE} {f : Str} {p' pos : Pos} (ho : PE X o to) (he : PE X e te) (hs : swapsWith e (some (.Attribute o f p')) pos.line X.env = pure false := by rfl) : PS X (.Assign [.Attribute o f p'] e pos) (tXst X.K f to te) := by
  refine ⟨fun pins s σ H D I h => plainObj_wpAny_Assign_Attribute (thn (he.run pins s σ H _ I h) fun v s1 ⟨y, H1, I1, r1, q1⟩ => thn (ho.run pins s1 σ H1 _ I1 q1) fun u s2 ⟨x, H2, I2, r2, a, C, ex, T, hno, q⟩ => ?_) hs⟩
  subst ex
  obtain rfl : u = Value.ref a := r2
  rcases q with ⟨ea, q⟩ | ⟨dx, fs, ea, ed, hl, q⟩
  · exact xset_new T I2 ea hno r1 fun dx s' n ne J => ⟨σ, _, J, q dx n ne⟩
  · exact xset_old T I2 ea ed hl hno r1 fun s' J => ⟨σ, _, J, q⟩
end My

set_option Elab.async false
set_option linter.all false
set_option maxRecDepth 100000
set_option maxHeartbeats 4000000
/-! X2: an own exception class called, with keywords too. -/
namespace PySem.XKw
open PySem.HandSPX
open Builtin Builtin.ObjectAttr
section
variable {M : Model} {prog : Program} {w : World} {A : Around} {E : Value → Shared → Prop} {R : Result → Shared → Prop} {h : Heap} {g : Array GenState} {d : Drawn} {t : Nat} {os : OsState}
variable {nm q : Str} {C N : Addr} {bs bm bmB : List Value} {hdct : Bool} {sn : List Str} {sub : List Value} {ab : Bool} {col : Option Bool} {dd : Option Addr} {k0 k1 k2 k3 k5 : Option Value} {B newId initId : String} {kw : List (Str × Value)}
theorem kw_check_new (F : ExcBaseFacts B newId initId bmB) (hT : ∀ Y : String, bm.contains (.type Y) = bmB.contains (.type Y)) {rest : List Value} {Q : Unit → Shared → Prop}
    (hC : h.get? C = some (excClassObj nm q C N bs bm hdct sn sub ab col dd k0 k1 k2 k3 k5 newId)) (hq : Q () ⟨h, g, d, t, os⟩) : wpAny M A (checkBuiltinCall newId ⟨.ref C :: rest, kw⟩) Q E ⟨h, g, d, t, os⟩ := by
  have hB : (Value.ref C :: bm).contains (.type B) = true := by rw [List.contains_cons, hT, F.hasB, Bool.or_true]
  have hst := F.noStar
  simp only [checkBuiltinCall, F.newKind, F.newSplit, F.newRow]
  repeat (first | refine wpAny_loadPart_at hC ?_ | (refine wpAny_isSubtype_exc hC ?_; rw [hB]) | refine wpAny_staticBase_exc hC ?_ | refine wpAny_madeBy_exc hC ?_ | simp only [bne_self_eq_false, Bool.false_eq_true, if_false] | wp_step)
  first | exact hq | skip
theorem kw_new (F : ExcBaseFacts B newId initId bmB) (hT : ∀ Y : String, bm.contains (.type Y) = bmB.contains (.type Y)) {rest : List Value} (hC : h.get? C = some (excClassObj nm q C N bs bm hdct sn sub ab col dd k0 k1 k2 k3 k5 newId))
    (hq : R (.ok (.ret (.ref (h.objs.size + 1)))) ⟨(h.push { cls := .type "tuple", data := .seq rest.toArray }).push { cls := .ref C, data := .fields #[.ref h.objs.size, .none, .none, .none, .bool false, .none] }, g, d, t, os⟩) (hl : rest.length ≤ sizeLine) :
    codeAny (model prog w) A (.builtin newId ⟨.ref C :: rest, kw⟩) R ⟨h, g, d, t, os⟩ := by
  have hends := F.ends
  have hB : (Value.ref C :: bm).contains (.type B) = true := by rw [List.contains_cons, hT, F.hasB, Bool.or_true]
  have hA : (Value.ref C :: bm).contains (.type "AttributeError") = false := by rw [List.contains_cons, hT, F.noAttr]; rfl
  have hN : (Value.ref C :: bm).contains (.type "NameError") = false := by rw [List.contains_cons, hT, F.noName]; rfl
  refine codeAny_builtinAt F.entry ?_
  unfold Builtin.«BaseException.__new__»
  refine wpAt_bind ?_
  show wpAt _ _ _ (stack >>= _) _ _ _
  refine wpAt_bind (wpAt_stack fun p below => wpAt_of_wpAny ?_)
  wp_walk
  refine wpAt_of_wpAny ?_
  rw [F.owner]
  repeat (first | with_reducible refine wpAny_madeHere_exc F.canon hC ?_ | with_reducible refine wpAny_loadPart_at hC ?_ | (with_reducible refine wpAny_isSubtype_exc hC ?_; first | rw [hB] | rw [hA] | rw [hN]) | wp_step)
  show R _ _
  rw [Heap.size_push]; exact hq
theorem kw_type (F : ExcBaseFacts B newId initId bmB) (hT : ∀ Y : String, bm.contains (.type Y) = bmB.contains (.type Y)) {rest : List Value} {fI : Addr} {Q : Fin → Shared → Prop} (hC : h.get? C = some (excClassObj nm q C N bs bm hdct sn sub ab col dd k0 k1 k2 k3 k5 newId))
    (hi : W.Looks (model prog w) h (typeLookup (.ref C) "__init__") (some (.ref fI))) (hb : ∀ self, W.Looks (model prog w) h (bindSpecial (.ref fI) self) (.ref fI, [self])) (hl : rest.length ≤ sizeLine)
    (hq : codeAny (model prog w) A (.call (.ref fI) ⟨.ref (h.objs.size + 1) :: rest, kw⟩) (fun r s' => match r with | .ok (.ret v) => v = .none ∧ Q (.done (.ret (.ref (h.objs.size + 1)))) s' | .ok _ => False | .error e => E e s') ⟨(h.push (W.kdv_tup rest)).push (excO C h.objs.size), g, d, t, os⟩) :
    wpAny (model prog w) A (Builtin.«type.__call__» ⟨.ref C :: rest, kw⟩) Q E ⟨h, g, d, t, os⟩ := by
  repeat (first | with_reducible refine wpAny_loadPart_at hC ?_ | with_reducible refine wpAny_madeBy_exc hC ?_ | wp_step)
  refine codeAny_call_builtin_code (Code.quiet_builtin _ F.quiet) (kw_check_new F hT hC ?_)
  refine kw_new F hT hC ?_ hl
  show wpAny _ _ _ _ _ _
  have k : ∀ b o, h.get? b = some o → ((h.push (W.kdv_tup rest)).push (excO C h.objs.size)).get? b = some o := fun b o e => Heap.get?_push_of_some _ (Heap.get?_push_of_some _ e)
  have hC1 := k _ _ hC
  have hG : ((h.push (W.kdv_tup rest)).push (excO C h.objs.size)).get? (h.objs.size + 1) = some (excO C h.objs.size) := by heap_get
  have hcC : (Value.ref C :: bm).contains (.ref C) = true := by simp
  have i1 := hi.keeps k; have b1 := (hb (.ref (h.objs.size + 1))).keeps k
  unfold isInstance
  repeat (first | with_reducible refine wpAny_loadPart_at hG ?_ | (with_reducible refine wpAny_isSubtype_exc hC1 ?_; rw [hcC]) | wp_step)
  show wpAny _ _ (typeLookup (.ref C) _) _ _ _
  refine i1.at (wpAny_holding (wpAny_bind (b1.at (wpAny_bind (wpAny_call (codeAny_mono hq fun r s' z => ?_))))))
  rcases r with e | (v | _ | _ | _) <;> first | exact z | exact z.elim | skip
  obtain ⟨rfl, z⟩ := z
  first
    | exact wpAny_pure (wpAny_pure z)
    | (wp_walk; exact z)
theorem kw_check_type {rest : List Value} {Q : Unit → Shared → Prop} (hC : h.get? C = some (excClassObj nm q C N bs bm hdct sn sub ab col dd k0 k1 k2 k3 k5 newId)) (hq : Q () ⟨h, g, d, t, os⟩) :
    wpAny M A (checkBuiltinCall "type.__call__" ⟨.ref C :: rest, kw⟩) Q E ⟨h, g, d, t, os⟩ := by
  have s3 := tc_sub
  have isT : (⟨h, g, d, t, os⟩ : Shared).TypeIs (.ref C) "type" := ⟨_, hC, rfl⟩
  simp only [checkBuiltinCall, tc_kind, tc_split]
  repeat (any_goals (first | assumption | with_reducible refine wpAny_loadPart_at hC ?_ | with_reducible refine wpAny_onRaise ?_ | with_reducible refine wpAny_map ?_ | wp_step))
theorem kw_call (F : ExcBaseFacts B newId initId bmB) (hT : ∀ Y : String, bm.contains (.type Y) = bmB.contains (.type Y)) {rest : List Value} {fI : Addr} (hC : h.get? C = some (excClassObj nm q C N bs bm hdct sn sub ab col dd k0 k1 k2 k3 k5 newId))
    (hi : W.Looks (model prog w) h (typeLookup (.ref C) "__init__") (some (.ref fI))) (hb : ∀ self, W.Looks (model prog w) h (bindSpecial (.ref fI) self) (.ref fI, [self])) (hl : rest.length ≤ sizeLine)
    (hq : codeAny (model prog w) (A.under (.builtin "type.__call__" ⟨.ref C :: rest, kw⟩)) (.call (.ref fI) ⟨.ref (h.objs.size + 1) :: rest, kw⟩) (W.InitBack (h.objs.size + 1) R) ⟨(h.push (W.kdv_tup rest)).push (excO C h.objs.size), g, d, t, os⟩) :
    codeAny (model prog w) A (.call (.ref C) ⟨rest, kw⟩) R ⟨h, g, d, t, os⟩ := by
  have g1 := tc_lookup; have g2 := tc_bind (.ref C)
  have isT : (⟨h, g, d, t, os⟩ : Shared).TypeIs (.ref C) "type" := ⟨_, hC, rfl⟩
  refine codeAny_of_tree ?_
  show wpAny _ _ (callAny (.ref C) _) _ _ _
  repeat (any_goals (first | assumption | with_reducible refine wpAny_loadPart_at hC ?_ | wp_step))
  refine ⟨rfl, ?_⟩
  refine codeAny_call_builtin_at (Code.quiet_builtin _ (by decide +kernel)) entry_typeCall (kw_check_type hC (kw_type F hT hC hi hb hl (codeAny_mono hq fun r s' z => ?_)))
  rcases r with e | (v | _ | _ | _) <;> exact z
end
end PySem.XKw

set_option Elab.async false
set_option linter.all false
set_option maxRecDepth 100000
set_option maxHeartbeats 4000000
/-! X3: own exceptions as values: made, read, asked for their class, kept by an except suite. -/
namespace My
open PySem PySem.Spec PyProof.Rows L2
/-- an exception of the class cls with the dict d stands at a -/
def xv (a : Addr) (cls : Value) (d : Option Addr) : HO := .ext fun h => ∃ (oe : Obj) (vs : Array Value), h.get? a = some oe ∧ Zc cls d oe ∧ oe.data = .fields vs
/-- at dx: an exception's dict -/
inductive XD (H : Hp) (dx : Addr) (fs : List (Str × V)) : Prop where
  | a (e : H dx = some (exd dx fs))
  | b (e : H dx = some (.xd fs))
/-- at a: an exception of the class at C with the dict d -/
inductive XO (H : Hp) (a C : Addr) (d : Option Addr) : Prop where
  | a (e : H a = some (exo a C d))
  | b (e : H a = some (xv a (.ref C) d))
theorem xv_ok {P : Program} {w : World} {H : Hp} {h : Heap} {a : Addr} {cls : Value} {d : Option Addr} {oe : Obj} {vs : Array Value} (e : h.get? a = some oe) (z : Zc cls d oe) (hd : oe.data = .fields vs) : ObjOk P w H h a (xv a cls d) :=
  ⟨⟨oe, vs, e, z, hd⟩, ⟨oe, e⟩, fun _ _ ⟨o, v, q, r⟩ k => ⟨o, v, k o q, r⟩⟩
section
variable {X : Cx} {pins : List (Addr × Obj)} {σ : L2.St} {H : Hp} {s : Shared} {a C dx : Addr} {d : Option Addr} {fs : List (Str × V)}
theorem XO.get (h : XO H a C d) (k : HOk X.prog X.w H s.heap) : ∃ (oe : Obj) (vs : Array Value), s.heap.get? a = some oe ∧ Zc (.ref C) d oe ∧ oe.data = .fields vs := by
  rcases h with e | e
  · obtain ⟨t1, q⟩ := exo_at k e
    exact ⟨_, _, q, ⟨rfl, rfl⟩, rfl⟩
  · have x : ObjOk X.prog X.w H s.heap a (xv a (.ref C) d) := k a _ e
    exact x.1
theorem XD.get (h : XD H dx fs) (k : HOk X.prog X.w H s.heap) : ∃ mA, s.heap.Ns1 dx mA ∧ ∀ f, RelO (fs.lookup f) (mA f) := by
  rcases h with e | e
  · exact exd_at k e
  · have x : ObjOk X.prog X.w H s.heap dx (.xd fs) := k dx _ e
    exact x
end
/-- a dict, if there is one, is tracked -/
def XDo (H : Hp) (d : Option Addr) : Prop := ∀ dx, d = some dx → ∃ fs, XD H dx fs
/-- x.f, x an exception that stands there -/
def tXf (K : PySem.W.Frag) (f : Str) (te : TE) : TE := fun σ H Q => te σ H fun x H1 => ∃ (a C dx : Addr) (fs : List (Str × V)) (v : V), x = .ref a ∧ XO H1 a C (some dx) ∧ XD H1 dx fs ∧ XC K C ∧ PySem.W.findIn K (.ref C) f = some none ∧ fs.lookup f = some v ∧ Q v H1
theorem pe_xget {X : Cx} {e : Expr} {te : TE} {pos : Pos} {f : Str} (he : PE X e te) (hb : attributeBase e f X.env (eval e X.env) = eval e X.env := by rfl) : PE X (.Attribute e f pos) (tXf X.K f te) := by
  refine ⟨fun pins s σ H Q I h => attr_of hb (thn (he.run pins s σ H _ I h) fun u s1 ⟨x, H1, I1, rx, a, C, dx, fs, v, ex, hO, hD, T, hno, l, q⟩ => ?_)⟩
  subst ex
  obtain rfl : u = Value.ref a := rx
  obtain ⟨oe, vs, ha, hz, hdt⟩ := hO.get (X := X) I1.hok
  obtain ⟨mA, hns, hr⟩ := hD.get (X := X) I1.hok
  obtain ⟨od, ho, hl⟩ := lookIn_ns hns
  obtain ⟨u, hu, ru⟩ := RelO.some_of (v := v) (o := mA f) (by rw [← l]; exact hr f)
  have J : PySem.W.InstAt s1.heap a oe C (some od) := ⟨ha, hz.1, by unfold PySem.W.notCls; rw [hdt] <;> rfl, by rw [hz.2]; exact ho⟩
  exact HandSPX.exc_get I1.kIn J T.is.hg T.is.hk T.is.hs (PySem.W.findObj_own T.is.hd hno rfl (by rw [hl, hu])) (handed_of ru) ⟨v, H1, I1.tok _, ru, q⟩
/-- isinstance(x, c), x an exception that stands there -/
def rXis (K : PySem.W.Frag) : List V → Hp → VK → Prop := fun xs H Q => ∃ (a C : Addr) (d : Option Addr) (c : V) (cv : Value) (b : Bool), xs = [.ref a, c] ∧ XO H a C d ∧ XDo H d ∧ XC K C ∧ (∀ u, RelV c u → u = cv) ∧ PySem.W.kitOne K (.ref C) cv = some b ∧ Q (.bl b) H
theorem call_xis {X : Cx} : CallR X (.builtin "isinstance") (rXis X.K) := by
  intro pins s σ H xs us Q I r h
  obtain ⟨a, C, d, c, cv, b, rfl, hO, hD, T, hcv, e, q⟩ := h
  obtain ⟨u1, u2, rfl, r1, r2⟩ := vals2 r
  have ec := hcv _ r2
  subst ec
  obtain rfl : u1 = Value.ref a := r1
  obtain ⟨oe, vs, ha, hz, hdt⟩ := hO.get (X := X) I.hok
  obtain ⟨cd, hcd, _⟩ := T.cd
  have hcl : (PySem.W.clsIn X.K C).isSome = true := by rw [hcd]; rfl
  have go : ∀ od : Option Obj, PySem.W.InstAt s.heap a oe C od → wpAny (model X.prog X.w) X.A (call (.builtin "isinstance") [.ref a, u2]) (EP X pins σ Q) X.xe s := fun od J =>
    PySem.W.kia_one (PySem.W.kitx_exc hcl T.is.hg T.is.hk T.is.hs T.is.ha T.is.hn T.is.ht T.is.hm) I.kIn J e (fun z => nomatch z) fun tk => ⟨.bl b, H, I.tok tk, rfl, q⟩
  cases d with
  | none => exact go none ⟨ha, hz.1, by unfold PySem.W.notCls; rw [hdt] <;> rfl, by rw [hz.2]; exact True.intro⟩
  | some dx =>
    obtain ⟨fs, hd⟩ := hD dx rfl
    obtain ⟨mA, hns, _⟩ := hd.get (X := X) I.hok
    obtain ⟨od, ho, _⟩ := lookIn_ns hns
    exact go (some od) ⟨ha, hz.1, by unfold PySem.W.notCls; rw [hdt] <;> rfl, by rw [hz.2]; exact ho⟩
/-- C(e, .., k = v, ..), the new exception standing as a value -/
def tNew (C : Addr) (n m : Nat) (sp : Sp) (gV : List V → List V → List V) (t tk : TA) : TE := fun σ H Q => t σ H fun vs H1 => tk σ H1 fun zs H2 => vs.length = n ∧ zs.length = m ∧ n ≤ 1000 ∧ ∀ a, H2 a = none →
  sp (gV (.ref a :: vs) zs) (upd H2 a (exo a C none)) (fun v H3 => v = .non ∧ Q (.ref a) H3) (fun _ _ _ => False)
section
variable {X : Cx} {CX : CXT} {k n : Nat} {fI C : Addr} {fd : FuncData} {ps ks : List Str} {sp : Sp} {x : Str} {p pos : Pos} {e : Expr} {es : List Expr} {kws : List Keyword} {t tk : TA} {g : List Value → List Value → List Value} {gV : List V → List V → List V}
theorem run_new {pins : List (Addr × Obj)} {σ : L2.St} {H : Hp} {s : Shared} {Q : VK} {us ws : List Value} {vs zs : List V} (T : XC X.K C) (iC : PySem.W.findIn X.K (.ref C) "__init__" = some (some (.ref fI))) (tI : PySem.W.typeIn X.K (.ref fI) = some (.type "function"))
    (F1 : FnOk X.prog X.w X.K X.mg X.base CX k fI fd ps sp) (hr : Room (k + 1) X.A) (hb : KBn X.K fd ps (n + 1) ks g gV) (hx : Passes CX X (fun _ _ _ => False)) (I : Inv X pins σ H s) (r : Vals vs us) (rz : Vals zs ws) (l1 : vs.length = n) (l2 : zs.length = ks.length) (l3 : n ≤ 1000)
    (h : ∀ a, H a = none → sp (gV (.ref a :: vs) zs) (upd H a (exo a C none)) (fun v H2 => v = .non ∧ Q (.ref a) H2) (fun _ _ _ => False)) : wpAny (model X.prog X.w) X.A (call (.ref C) us (ks.zip ws)) (EP X pins σ Q) X.xe s := by
  obtain ⟨B, newId, initId, bmB, F, hI, _⟩ := T.mks
  obtain ⟨nm, N, q, bs, bm, hdct, sn, sub, ab, col, dd, k0, k1, k2, k3, k5, hC, hTT⟩ := PySem.W.excInit_of I.kIn hI
  obtain ⟨hp, g1, dr, tk1, os⟩ := s
  have hsz : hp.objs.size ≤ hp.objs.size + 1 := Nat.le_succ _
  have hn : H (hp.objs.size + 1) = none := I.hok.fresh hsz
  have hq := h (hp.objs.size + 1) hn
  have kk : ∀ b o, hp.get? b = some o → ((hp.push (PySem.W.kdv_tup us)).push (PySem.HandSPX.excO C hp.objs.size)).get? b = some o := fun b o e => Heap.get?_push_of_some _ (Heap.get?_push_of_some _ e)
  have hG : ((hp.push (PySem.W.kdv_tup us)).push (PySem.HandSPX.excO C hp.objs.size)).get? (hp.objs.size + 1) = some (PySem.HandSPX.excO C hp.objs.size) := by heap_get
  have I2 := I.laid (t' := tk1) (a := hp.objs.size + 1) (o := exo (hp.objs.size + 1) C none) (h' := (hp.push (PySem.W.kdv_tup us)).push (PySem.HandSPX.excO C hp.objs.size)) kk hsz (exo_ok hG)
  have r2 := hb.rel (.cons rfl r : Vals (V.ref (hp.objs.size + 1) :: vs) (Value.ref (hp.objs.size + 1) :: us)) rz
  have e1 : (Value.ref (hp.objs.size + 1) :: us).length = n + 1 := by rw [List.length_cons, ← r.length, l1]
  have e2 : us.length ≤ sizeLine := by rw [← r.length, l1, sizeLine_eq]; omega
  refine wpAny_call (PySem.XKw.kw_call F hTT hC (PySem.W.looks_findIn I.kIn iC) (fun self => PySem.W.bind_fn I.kIn self tI) e2 (codeAny_mono (F1.run _ X.stack _ _ ⟨Value.ref (hp.objs.size + 1) :: us, ks.zip ws⟩ (g (Value.ref (hp.objs.size + 1) :: us) ws) _ _ _ (hr.make C us (ks.zip ws))
    (I2.env0.make C us (ks.zip ws)) (hb.to _ _ ws I2.kIn e1 (rz.length.symm.trans l2)) r2 hq) fun r s' hq' => ?_))
  cases r with
  | error er => exact hx pins σ _ _ er s' I2 hq'
  | ok fl =>
    cases fl with
    | ret u =>
      obtain ⟨v, H', I3, rv, ev, q3⟩ := I2.after hq'
      subst ev
      exact ⟨rv, ⟨V.ref (hp.objs.size + 1), H', I3, rfl, q3⟩⟩
    | next => exact False.elim hq'
    | brk => exact False.elim hq'
    | cont => exact False.elim hq'
theorem pe_newk (T : XC X.K C) (iC : PySem.W.findIn X.K (.ref C) "__init__" = some (some (.ref fI))) (tI : PySem.W.typeIn X.K (.ref fI) = some (.type "function")) (F1 : FnOk X.prog X.w X.K X.mg X.base CX k fI fd ps sp) (hr : Room (k + 1) X.A) (hg : Gl X x) (hm : X.mg x = some (.ref C))
    (hb : KBn X.K fd ps 1 ks g gV) (hx : Passes CX X (fun _ _ _ => False)) (hkw : PK X kws tk) (hall : (backToKw pos (keywordEach kws X.env)).all (·.1.isSome) = true := by rfl) (hks : (backToKw pos (keywordEach kws X.env)).filterMap (·.1) = ks := by rfl) (hdb : (x == ("__debug__" : Str)) = false := by decide)
    (hpl : ((backTo pos (starEach [] X.env)).any (·.1) || (backToKw pos (keywordEach kws X.env)).any (·.1.isNone)) = false := by rfl) : PE X (.Call (.Name x p) [] kws pos) (tNew C 0 ks.length sp gV tNil tk) := by
  refine ⟨fun pins s σ H Q I h => wpAny_Call_Name_kw (ld_glob I hg hm (PySem.W.callWith_KW0 (h₀ := X.base) I.ok.mod.kin T.kC hall ?_ hpl) hdb)⟩
  refine thn (hkw.run pos pins s σ H _ I h) fun ws s2 ⟨zs, H2, I2, rz, l1, l2, l3, q2⟩ => ⟨I2.kIn, ?_⟩
  rw [hks]
  exact run_new (us := []) (vs := []) T iC tI F1 hr hb hx I2 .nil rz rfl l2 l3 q2
theorem pe_new (T : XC X.K C) (iC : PySem.W.findIn X.K (.ref C) "__init__" = some (some (.ref fI))) (tI : PySem.W.typeIn X.K (.ref fI) = some (.type "function")) (F1 : FnOk X.prog X.w X.K X.mg X.base CX k fI fd ps sp) (hr : Room (k + 1) X.A) (hg : Gl X x) (hm : X.mg x = some (.ref C))
    (hb : KBn X.K fd ps (n + 1) [] g gV) (hx : Passes CX X (fun _ _ _ => False)) (ha : PA X (e :: es) t) (hdb : (x == ("__debug__" : Str)) = false := by decide) (he : starEach (e :: es) X.env = (false, eval e X.env) :: starEach es X.env := by rfl)
    (hpl : (backTo pos (starEach es X.env)).any (·.1) = false := by rfl) : PE X (.Call (.Name x p) (e :: es) [] pos) (tNew C n 0 sp gV t tNil) := by
  refine ⟨fun pins s σ H Q I h => wpAny_Call_Name_kw (ld_glob I hg hm ?_ hdb)⟩
  refine PySem.W.callWith_K (h₀ := X.base) I.ok.mod.kin T.kC (thn (ha.run pos pins s σ H _ I h) fun us s1 ⟨vs, H1, I1, r, l1, l2, l3, q⟩ => ⟨I1.kIn, ?_⟩) he hpl
  exact run_new (ws := []) (zs := []) T iC tI F1 hr hb hx I1 r .nil l1 rfl l3 q
end
end My

set_option Elab.async false
set_option linter.all false
set_option maxRecDepth 100000
set_option maxHeartbeats 4000000
/-! X4: an exception without arguments made; one raised; one kept behind its suite. -/
namespace My
open PySem PySem.Spec PyProof.Rows L2
section
variable {X : Cx} {C : Addr} {bmB : List Value} {B newId initId : String} {x : Str} {p pos : Pos}
/-- C(), C without an own __init__ -/
theorem pe_new0 (F : ExcBaseFacts B newId initId bmB) (q : PySem.W.excIn X.K C bmB newId = true) (gC : X.mg x = some (.ref C)) (kC : PySem.W.keepIn X.K (.ref C) = true) (hg : Gl X x) (hdb : (x == ("__debug__" : Str)) = false := by decide) :
    PE X (.Call (.Name x p) [] [] pos) (fun _ H Q => ∀ a, H a = none → Q (.ref a) (upd H a (exo a C none))) := by
  refine ⟨fun pins s σ H Q I h => wpAny_Call_Name_kw (ld_glob I hg gC (PySem.W.callWith_K0 I.kIn kC ?_) hdb)⟩
  show wpAny _ _ (call (.ref C) []) _ _ _
  obtain ⟨bm, N, nm, qn, bs, hdct, sn, sub, ab, col, dd, k0, k1, k2, k3, k5, mN, hC, hN, hni, T⟩ := exc_obj I.kIn q
  refine wpAny_call_exc_subT F T hC hN hni (fun h' a hm => ?_) (by rw [sizeLine_eq]; exact Nat.zero_le _)
  have hn : H a = none := I.hok.gone hm.new
  obtain ⟨t, ht, _, _⟩ := hm.there
  exact ⟨.ref a, upd H a (exo a C none), I.laidN hm.keeps hm.new hn (exo_ok ht), rfl, h a hn⟩
end
/-- C(e, ..) to be raised -/
def tRz (C : Addr) (n : Nat) (sp : Sp) (gV : List V → List V → List V) (t : TA) : L2.St → Hp → XK → Prop := fun σ H Q => t σ H fun vs H1 => vs.length = n ∧ n ≤ 1000 ∧ ∀ a, H1 a = none → sp (gV (.ref a :: vs) []) (upd H1 a (exo a C none))
  (fun v H2 => v = .non ∧ ∃ (d : Addr) (fs : List (Str × V)), H2 a = some (exo a C (some d)) ∧ H2 d = some (exd d fs) ∧ H1 d = none ∧ Q (.ref C) (some d) (upd (del H2 a) d (.xd fs))) (fun _ _ _ => False)
section
variable {X : Cx} {CX : CXT} {k n : Nat} {fI C : Addr} {fd : FuncData} {ps : List Str} {sp : Sp} {x : Str} {p pos : Pos} {e : Expr} {es : List Expr} {t : TA} {g : List Value → List Value → List Value} {gV : List V → List V → List V}
theorem pmk_new (T : XC X.K C) (iC : PySem.W.findIn X.K (.ref C) "__init__" = some (some (.ref fI))) (tI : PySem.W.typeIn X.K (.ref fI) = some (.type "function")) (F1 : FnOk X.prog X.w X.K X.mg X.base CX k fI fd ps sp) (hr : Room (k + 1) X.A) (hg : Gl X x) (hm : X.mg x = some (.ref C))
    (hb : KBn X.K fd ps (n + 1) [] g gV) (hx : Passes CX X (fun _ _ _ => False)) (ha : PA X (e :: es) t) (hdb : (x == ("__debug__" : Str)) = false := by decide) (he : starEach (e :: es) X.env = (false, eval e X.env) :: starEach es X.env := by rfl)
    (hpl : (backTo pos (starEach es X.env)).any (·.1) = false := by rfl) : PMk X (.Call (.Name x p) (e :: es) [] pos) (tRz C n sp gV t) := by
  intro pins s σ H Q I h
  refine wpAny_Call_Name_kw (ld_glob I hg hm ?_ hdb)
  refine PySem.W.callWith_K (h₀ := X.base) I.ok.mod.kin T.kC (thn (ha.run pos pins s σ H _ I h) fun us s1 ⟨vs, H1, I1, r, l1, l3, q⟩ => ⟨I1.kIn, ?_⟩) he hpl
  show wpAny _ _ (call (.ref C) us) _ _ _
  obtain ⟨B, newId, initId, bmB, F, hI, _⟩ := T.mks
  obtain ⟨nm, N, qn, bs, bm, hdct, sn, sub, ab, col, dd, k0, k1, k2, k3, k5, hC, hTT⟩ := PySem.W.excInit_of I1.kIn hI
  obtain ⟨hp, g1, dr, tk1, os⟩ := s1
  have hsz : hp.objs.size ≤ hp.objs.size + 1 := Nat.le_succ _
  have hq := q (hp.objs.size + 1) (I1.hok.fresh hsz)
  have kk : ∀ b o, hp.get? b = some o → ((hp.push (PySem.W.kdv_tup us)).push (PySem.HandSPX.excO C hp.objs.size)).get? b = some o := fun b o e => Heap.get?_push_of_some _ (Heap.get?_push_of_some _ e)
  have hG : ((hp.push (PySem.W.kdv_tup us)).push (PySem.HandSPX.excO C hp.objs.size)).get? (hp.objs.size + 1) = some (PySem.HandSPX.excO C hp.objs.size) := by heap_get
  have I2 := I1.laid (t' := tk1) (a := hp.objs.size + 1) (o := exo (hp.objs.size + 1) C none) (h' := (hp.push (PySem.W.kdv_tup us)).push (PySem.HandSPX.excO C hp.objs.size)) kk hsz (exo_ok hG)
  have r2 := hb.rel (.cons rfl r : Vals (V.ref (hp.objs.size + 1) :: vs) (Value.ref (hp.objs.size + 1) :: us)) (.nil : Vals [] [])
  have e1 : (Value.ref (hp.objs.size + 1) :: us).length = n + 1 := by rw [List.length_cons, ← r.length, l1]
  have e2 : us.length ≤ sizeLine := by rw [← r.length, l1, sizeLine_eq]; omega
  refine wpAny_call (PySem.XKw.kw_call (kw := []) F hTT hC (PySem.W.looks_findIn I1.kIn iC) (fun self => PySem.W.bind_fn I1.kIn self tI) e2 (codeAny_mono (F1.run _ X.stack _ _ ⟨Value.ref (hp.objs.size + 1) :: us, []⟩ (g (Value.ref (hp.objs.size + 1) :: us) []) _ _ _ (hr.make C us [])
    (I2.env0.make C us []) (hb.to _ _ [] I2.kIn e1 rfl) r2 hq) fun r s' hq' => ?_))
  cases r with
  | error er => exact hx pins σ _ _ er s' I2 hq'
  | ok fl =>
    cases fl with
    | ret u =>
      obtain ⟨v, H2, os2, bare2, un2, hok2, rv, ev, d, fs, ea, ed, hd1, q2⟩ := hq'
      subst ev
      obtain ⟨h2, g2, d2, t2, os'⟩ := s'
      exact ⟨rv, mk_end (raises_own T.is.hs T.ty) I1 hsz kk un2 hok2 os2 bare2 ea ed hd1 q2⟩
    | next => exact False.elim hq'
    | brk => exact False.elim hq'
    | cont => exact False.elim hq'
end
section
variable {X : Cx} {pins : List (Addr × Obj)} {σ : L2.St} {H : Hp} {s : Shared} {a : Addr} {o : HO}
/-- an object that came in the meantime is tracked from now on -/
theorem track (I : Inv X pins σ H s) (na : H a = none) (nL : a ≠ X.env.locals) (nC : ∀ x c, X.env.cells.lookup x = some c → c ≠ a) (nP : ∀ p ∈ X.pn ++ pins, p.1 ≠ a) (n0 : X.s_0.heap.get? a = none) (new : ObjOk X.prog X.w (upd H a o) s.heap a o) : Inv X pins σ (upd H a o) s := by
  have n1 : ∀ b u, X.s_0.heap.get? b = some u → b ≠ a := fun b u e z => by rw [z, n0] at e; cases e
  refine ⟨I.ok, I.os, I.bare, ⟨I.base.keep, I.base.slot, fun b u e n hq => ?_, I.base.there, fun b xs e => ?_, fun b u v e => ?_, fun b ps e => ?_⟩, I.loc, I.cell, ?_, fun x c e => ?_, fun p hp => ?_, fun b u e => ?_, I.len⟩
  · rw [upd_ne (n1 b u e)]; exact I.base.free b u e n hq
  · have q := I.base.tups b xs e
    rw [upd_ne (ne_of_none q na)]; exact q
  · have q := I.base.frzs b u v e
    rw [upd_ne (ne_of_none q na)]; exact q
  · obtain ⟨m, q⟩ := I.base.tbls b ps e
    exact ⟨m, by rw [upd_ne (ne_of_none q na)]; exact q⟩
  · rw [upd_ne (Ne.symm nL)]; exact I.free
  · rw [upd_ne (nC x c e)]; exact I.freeC x c e
  · obtain ⟨e, n, r⟩ := I.pin p hp
    exact ⟨e, by rw [upd_ne (nP p hp)]; exact n, r⟩
  · by_cases hb : b = a
    · subst hb; rw [upd_same] at e; cases e
      exact new
    · rw [upd_ne hb] at e
      exact (I.hok b u e).stay (fun c v _ q => q) (fun c q => by rw [upd_ne (ne_of_none q na)]; exact q) fun c xs q => by rw [upd_ne (ne_of_none q na)]; exact q
end
/-- what the clause 'except x as n' wishes whose suite lets the exception stand behind it (at a, tracked) -/
def wKp (K : PySem.W.Frag) (c : Value) (i : Nat) (ts : Addr → Value → Option Addr → TS) (D : Ends) : WX := fun cls d σ H =>
  PySem.W.exmOne K cls c = some true ∧ (∀ a, H a = none → ts a cls d { nx := fun σ' H' => H' a = none → D.nx (σ'.set i none) (upd H' a (xv a cls d)), rt := fun _ _ => False, bk := fun _ _ => False, ct := fun _ _ => False } (σ.set i (some (.ref a))) H)
section
variable {X : Cx} {x n : Str} {c : Value} {i : Nat} {body suite : List Stmt} {b₀ : Stmt} {np pos pos' : Pos} {tb : WX → TS} {ts : Addr → Value → Option Addr → TS}
theorem ps_try_keep (hs : X.stack = X.env :: X.outer) (hf : X.env.frame = some X.env.locals) (hE : X.ex = []) (hcl : X.env.cells = []) (hN : X.N.Nodup) (hi : X.N[i]? = some n) (hln : X.env.kindOf n = some .local) (hc : Names X x c)
    (hb : ∀ (W : WX) (pn : List (Addr × Obj)) (xe : Value → Shared → Prop), Takes (X.tr pn xe) W → PassesOwn (model X.prog X.w) X.A X.env xe → PSs (X.tr pn xe) body (tb W))
    (hsu : ∀ (a : Addr) (oe : Obj) (cls : Value) (d : Option Addr) (pn : List (Addr × Obj)), Zc cls d oe → (∃ vs, oe.data = .fields vs) → PSs (X.suite a ((a, oe) :: pn)) (b₀ :: suite) (ts a cls d)) :
    PS X (.Try body [.ExceptHandler (some (.Name x np)) (some n) (b₀ :: suite) pos'] [] [] pos) (fun D σ H => tb (wKp X.K c i ts D) D σ H) := by
  refine ⟨fun pins s σ H D I h => ?_⟩
  have ok := I.ok; have hfr : X.A.frames = some (X.env :: X.outer) := by rw [ok.frames, hs]
  have hvis : Loc X.env.scope n := .inl hln
  refine wpAny_Try_except (wpAny_mono ((hb (wKp X.K c i ts D) (X.pn ++ pins) (fun e s₁ => wpAny (model X.prog X.w) X.A (noteFrame e X.env) (fun _ s₂ => wpAny (model X.prog X.w) X.A (setFlight e none) (fun _ s₃ => wpAny (model X.prog X.w) X.A (handleBy e X.env [.ExceptHandler (some (.Name x np)) (some n) (b₀ :: suite) pos']) (SP X pins D) X.xe s₃) X.xe s₂) X.xe s₁)
    (fun u s' xx => ?_) PassesOwn.looking).run [] s σ H D (I.toTry _) h) (fun f s1 hsp => ?_) (fun e s1 he => he))
  · obtain ⟨a, B, sI, pins', σ', H', cls, d, rfl, J', nb, up, sky, na, os, ag, hb1, hyes⟩ := xx
    have J : Inv X pins σ' H' sI := J'.ofTry ok
    have sky2 : Sky B (X.env :: X.outer) a (Zc cls d) X.env.locals s'.heap := by rw [← hs]; exact sky
    show wpAny (model X.prog X.w) X.A (noteFrame (.ref a) X.env) _ _ _
    refine Sky.land Zc.steady hfr hf sky2 fun h3 fl3 up3 => ?_
    have J3 : Inv X pins σ' H' { s' with heap := h3 } := J.landed nb fl3.1 (up.trans up3) os ag
    obtain ⟨oe3, vs3, he3, hz3, hd3⟩ := fl3.there
    have noFr : a ∉ frs (X.env :: X.outer) := fun hm => by
      obtain ⟨_, o', e', hnf⟩ := fl3.2.2.1.mem hm
      rw [he3] at e'; cases e'
      exact hnf _ hd3
    have noB : ∀ {o : Obj}, sI.heap.get? a = some o → False := fun {o} e => by
      have z := nb a o e (by rw [hs]; exact noFr)
      rw [fl3.2.1] at z; cases z
    have nL : a ≠ X.env.locals := fun z => noFr (List.mem_filterMap.mpr ⟨X.env, List.mem_cons_self, by rw [hf, z]⟩)
    have nF : a ∉ X.fs := fun hm => let ⟨e, he, q⟩ := List.mem_filterMap.mp hm; noFr (List.mem_filterMap.mpr ⟨e, List.mem_cons_of_mem _ he, q⟩)
    have n0 : X.s_0.heap.get? a = none := by
      cases e : X.s_0.heap.get? a with
      | none => rfl
      | some o =>
        obtain ⟨o', q⟩ := J.base.there a o e (by rw [hE]; exact fun z => nomatch z)
        exact (noB q).elim
    have nP : ∀ p ∈ X.pn ++ pins, p.1 ≠ a := fun p hp z => noB (z ▸ (J.pin p hp).1)
    have S3 := J3.suite he3 hd3 na nL nF
    refine wpAny_handleBy_cons (codeAny_handlers_test ?_) (by intro q; cases q)
    have LT : PySem.W.Looks (model X.prog X.w) h3 (typeOf (.ref a)) cls := fun A Q E s k q => wpAny_typeOf_ref (k _ _ he3) (by rw [hz3.1]; exact q)
    have LM := PySem.W.exm_one (M := model X.prog X.w) (J3.kIn) LT hb1
    have ask : ∀ {Q : Value → Shared → Prop} {E : Value → Shared → Prop}, Q c { s' with heap := h3 } → wpAny (model X.prog X.w) (X.A.mark (some (.ref a))) (eval (.Name x np) X.env) Q E { s' with heap := h3 } := fun {Q E} q => by
      obtain ⟨hg, hdbg, hm | ⟨hm, hv, hnn⟩⟩ := hc
      · exact ld_glob (X := X.suite a ((a, oe3) :: (X.pn ++ pins))) S3 hg hm q hdbg
      · exact ld_blt (X := X.suite a ((a, oe3) :: (X.pn ++ pins))) S3 hg hm hv q hnn hdbg
    refine ask (LM.here ?_)
    refine codeAny_handlers_suite_as (HandSPX.lands_againZ fl3 fun h4 fl4 up4 => ?_)
    have J4 : Inv X pins σ' H' { s' with heap := h4 } := J.landed nb fl4.1 ((up.trans up3).trans up4) os ag
    obtain ⟨oe4, vs4, he4, hz4, hd4⟩ := fl4.there
    have S4 := J4.suite he4 hd4 na nL nF
    refine store_ok (X := X.suite a ((a, oe4) :: (X.pn ++ pins))) (v := .ref a) S4 hN hi hvis rfl (fun s5 S5 => ?_) (.inr hln)
    refine wpAny_mono ((hsu a oe4 cls d (X.pn ++ pins) hz4 ⟨_, hd4⟩).run [] s5 _ H' _ S5 (hyes a na)) (fun f s6 hsp => ?_) (fun _ _ z => False.elim z)
    cases f with
    | next =>
      obtain ⟨σ6, H6, S6, q6⟩ := hsp
      obtain ⟨p1, p2, _⟩ := S6.pin (a, oe4) (List.mem_append_left _ List.mem_cons_self)
      have S7 : Inv X pins σ6 (upd H6 a (xv a cls d)) s6 := track (S6.unsuite ok) p2 nL (fun x c e => by rw [hcl] at e; cases e) nP n0 (xv_ok p1 hz4 hd4)
      exact gone_ok S7 hN hi hln fun s7 J7 => ⟨_, _, J7, q6 p2⟩
    | brk =>
      obtain ⟨σ6, H6, S6, q6⟩ := hsp
      exact False.elim q6
    | cont =>
      obtain ⟨σ6, H6, S6, q6⟩ := hsp
      exact False.elim q6
    | ret u =>
      obtain ⟨v6, σ6, H6, S6, r6, q6⟩ := hsp
      exact False.elim q6
  · cases f with
    | next => exact let ⟨σ', H', J', q⟩ := hsp; wpAny_execs_nil ⟨σ', H', J'.ofTry ok, q⟩
    | brk => exact let ⟨σ', H', J', q⟩ := hsp; ⟨σ', H', J'.ofTry ok, q⟩
    | cont => exact let ⟨σ', H', J', q⟩ := hsp; ⟨σ', H', J'.ofTry ok, q⟩
    | ret u => exact let ⟨v, σ', H', J', r, q⟩ := hsp; ⟨v, σ', H', J'.ofTry ok, r, q⟩
end
end My

set_option Elab.async false
set_option linter.all false
set_option maxRecDepth 100000
set_option maxHeartbeats 4000000
/-! S1: what an own class says of [], in, len, += and (). -/
namespace My
open PySem PySem.Spec PyProof.Rows L2
/-- the class has a def of this special name -/
structure Spc (K : PySem.W.Frag) (C : Addr) (nm : Str) (f : Addr) : Prop where
  at_ : PySem.W.findIn K (.ref C) nm = some (some (.ref f))
  fn : PySem.W.isFn K (.ref f) = true
section
variable {X : Cx} {CX : CXT} {k : Nat} {f C : Addr} {fd : FuncData} {ps : List Str} {sp : Sp} {E : XK} {a b e : Expr} {ta tb te : TE} {pos : Pos}
theorem inst_of {pins : List (Addr × Obj)} {σ : L2.St} {H : Hp} {s : Shared} {x C dx : Addr} {fs : List (Str × V)} (I : Inv X pins σ H s) (h : H x = some (.ins C dx fs)) : ∃ ox od, PySem.W.InstAt s.heap x ox C od ∧ ox.data = .plain := by
  obtain ⟨mA, O, _⟩ := ins_get I.hok h
  obtain ⟨od, J, _⟩ := O.look
  exact ⟨_, _, J, rfl⟩
def rOne (C : Addr) (sp : Sp) (E : XK) : V → V → Hp → VK → Prop := fun x y H Q => ∃ (p dx : Addr) (fs : List (Str × V)), x = .ref p ∧ H p = some (.ins C dx fs) ∧ sp [.ref p, y] H Q E
theorem get_own (m : Spc X.K C "__getitem__" f) (hq : PySem.W.noSeq X.K C = true) (F : FnOk X.prog X.w X.K X.mg X.base CX k f fd ps sp) (hr : Room k X.A) (hb : Binds X.K fd ps []) (hx : Passes CX X E) : PGet X (rOne C sp E) := by
  intro pins s σ H o i ov iv Q I ro ri h
  obtain ⟨p, dx, fs, rfl, hp, q⟩ := h
  obtain rfl : ov = Value.ref p := ro
  obtain ⟨ox, od, J, _⟩ := inst_of I hp
  obtain ⟨m0, hF⟩ := I.fr
  exact PySem.W.getItem_K hF I.ok.mod.kin J hq m.at_ m.fn (run_fn (ds := []) (dvs := []) (us := [.ref p, iv]) (vs := [.ref p, i]) F hr hb .nil hx I (.cons rfl (.cons ri .nil)) q)
def rSetO (C : Addr) (sp : Sp) (E : XK) : V → V → V → Hp → (Hp → Prop) → Prop := fun x y v H Q => ∃ (p dx : Addr) (fs : List (Str × V)), x = .ref p ∧ H p = some (.ins C dx fs) ∧ sp [.ref p, y, v] H (fun _ H' => Q H') E
theorem seqkey_own {M : Model} {A : Around} {E' : Value → Shared → Prop} {s : Shared} {K : PySem.W.Frag} {x : Addr} {k : Value} {nm : Str} {ox : Obj} {od : Option Obj} {Q : Value → Shared → Prop} (hK : K.In s.heap) (J : PySem.W.InstAt s.heap x ox C od) (hq : PySem.W.noSeq K C = true) (h : Q k s) :
    wpAny M A (sequenceKey (.ref x) k nm) Q E' s := by
  unfold sequenceKey
  refine wpAny_bind (J.type.here (wpAny_bind ((PySem.W.anyM_none hK hq).here ?_)))
  rw [if_pos (by rfl)]
  exact wpAny_pure h
theorem setItem_own (m : Spc X.K C "__setitem__" f) (hq : PySem.W.noSeq X.K C = true) {pins : List (Addr × Obj)} {σ : L2.St} {H : Hp} {s : Shared} {p dx : Addr} {fs : List (Str × V)} {iv u : Value} {Q : Unit → Shared → Prop} {E' : Value → Shared → Prop} (I : Inv X pins σ H s) (hp : H p = some (.ins C dx fs))
    (h : wpAny (model X.prog X.w) X.A (call (.ref f) [.ref p, iv, u]) (fun _ s' => Q () s') E' s) : wpAny (model X.prog X.w) X.A (setItem (.ref p) iv u) Q E' s := by
  obtain ⟨ox, od, J, _⟩ := inst_of I hp
  unfold setItem
  refine wpAny_holding (wpAny_bind (seqkey_own I.kIn J hq ?_))
  exact wpAny_bind (PySem.W.special_fn I.kIn J m.at_ (beq_iff_eq.mp m.fn) (wpAny_mono h (fun _ _ z => wpAny_pure z) fun _ _ z => z))
theorem set_own (m : Spc X.K C "__setitem__" f) (hq : PySem.W.noSeq X.K C = true) (F : FnOk X.prog X.w X.K X.mg X.base CX k f fd ps sp) (hr : Room k X.A) (hb : Binds X.K fd ps []) (hx : Passes CX X E) : PSet X (rSetO C sp E) := by
  intro pins s σ H o i v ov iv u Q I ro ri rv h
  obtain ⟨p, dx, fs, rfl, hp, q⟩ := h
  obtain rfl : ov = Value.ref p := ro
  refine setItem_own m hq I hp (wpAny_mono (run_fn (ds := []) (dvs := []) (us := [.ref p, iv, u]) (vs := [.ref p, i, v]) F hr hb .nil hx I (.cons rfl (.cons ri (.cons rv .nil))) q) (fun _ s' z => ?_) fun _ _ z => z)
  obtain ⟨v', H', I', _, q'⟩ := z
  exact ⟨H', I', q'⟩
/-- o[i] = .., where the store may raise -/
def gSubS (C : Addr) (sp : Sp) (E : L2.St → XK) (to ti : TE) : TG := fun v σ H Q => to σ H fun x H1 => ti σ H1 fun y H2 => ∃ (p dx : Addr) (fs : List (Str × V)), x = .ref p ∧ H2 p = some (.ins C dx fs) ∧ sp [.ref p, y, v] H2 (fun _ H' => Q σ H') (E σ)
theorem pg_subS {E : L2.St → XK} {o i : Expr} {to ti : TE} (ho : PE X o to) (hi : PE X i ti) (m : Spc X.K C "__setitem__" f) (hq : PySem.W.noSeq X.K C = true) (F : FnOk X.prog X.w X.K X.mg X.base CX k f fd ps sp) (hr : Room k X.A) (hb : Binds X.K fd ps []) (hx : ∀ σ, PassesAt CX X σ (E σ))
    (ha : ∀ v, assign (.Subscript o i pos) X.env v = (do
      let ov ← holding [v] (eval o X.env)
      let iv ← holding [v, ov] (eval i X.env)
      standAt pos
      holding [v, ov, iv] (setItem ov iv v)
      release [v, ov, iv] []) := by intro _; rfl) : PG X (.Subscript o i pos) (gSubS C sp E to ti) := by
  refine ⟨fun pins s σ H v u Q I r h => ?_⟩
  rw [ha]
  refine wpAny_bind (wpAny_holding (thn (ho.run pins s σ H _ I h) fun ov s1 ⟨x, H1, I1, r1, q1⟩ => ?_))
  refine wpAny_bind (wpAny_holding (thn (hi.run pins s1 σ H1 _ I1 q1) fun iv s2 ⟨y, H2, I2, r2, p, dx, fs, ex, hp, q2⟩ => ?_))
  subst ex
  obtain rfl : ov = Value.ref p := r1
  refine wpAny_bind (wpAny_standAt (wpAny_bind (wpAny_holding (setItem_own m hq I2 hp (wpAny_mono (run_fnS (us := [.ref p, iv, u]) (vs := [.ref p, y, v]) F hr hb (hx σ) I2 (.cons rfl (.cons r2 (.cons r .nil))) q2) (fun _ s3 z => ?_) fun _ _ z => z)))))
  obtain ⟨v', H', I', _, q'⟩ := z
  exact wpAny_release ⟨σ, H', I', q'⟩
/-- a[b], an own class's def -/
def tSubO (C : Addr) (sp : Sp) (E : L2.St → XK) (ta tb : TE) : TE := fun σ H Q => ta σ H fun x H1 => tb σ H1 fun y H2 => ∃ (p dx : Addr) (fs : List (Str × V)), x = .ref p ∧ H2 p = some (.ins C dx fs) ∧ sp [.ref p, y] H2 Q (E σ)
theorem pe_subO {E : L2.St → XK} (ha : PE X a ta) (hb' : PE X b tb) (m : Spc X.K C "__getitem__" f) (hfi : PySem.W.fnIn X.K f = true) (F : FnOk X.prog X.w X.K X.mg X.base CX k f fd ps sp) (hr : Room (k + 1) X.A) (hb : Binds X.K fd ps []) (hx : ∀ σ, PassesAt CX X σ (E σ))
    (hsl : ∀ (p : Addr) (i : Value), subscripted b true (.ref p) i = runValue (.builtin "lifetime.subscript" ⟨[.ref p, i], []⟩) := by intro _ _; with_unfolding_all rfl) : PE X (.Subscript a b pos) (tSubO C sp E ta tb) := by
  refine ⟨fun pins s σ H Q I h => ?_⟩
  refine Subscript_ (binT (X := X) ha hb' I h fun v u s2 x y H2 I2 rx ry q => ?_)
  obtain ⟨p, dx, fs, rfl, hp, q⟩ := q
  obtain rfl : v = Value.ref p := rx
  obtain ⟨ox, od, J, _⟩ := inst_of I2 hp
  obtain ⟨m0, hF⟩ := I2.fr
  refine PySem.W.sub_K hF I2.ok.mod.kin J m.at_ hfi m.fn ?_ (hsl p u)
  refine wpAny_call (codeAny_mono (F.run X.A.in1 X.stack s2 H2 ⟨[.ref p, u], []⟩ [.ref p, u] [.ref p, y] Q (E σ) hr.in1 I2.env0.in1 ?_ (.cons rfl (.cons ry .nil)) q) fun r s' hq => ?_)
  · have hl : ([.ref p, u] : List Value).length = ps.length := F.len _ _ _ _ q
    have b := hb s2 [.ref p, u] I2.kIn (by rw [List.append_nil]; exact hl)
    rw [List.append_nil] at b
    exact b
  · cases r with
    | error er => exact hx σ pins H2 s2 er s' I2 hq
    | ok fl =>
      cases fl with
      | ret w => exact I2.after hq
      | next => exact False.elim hq
      | brk => exact False.elim hq
      | cont => exact False.elim hq
/-- x in o, o of an own class -/
def rInO (C : Addr) (sp : Sp) (E : XK) (g : Bool → Bool) : R2 := fun y x H Q => ∃ (p dx : Addr) (fs : List (Str × V)), x = .ref p ∧ H p = some (.ins C dx fs) ∧ sp [.ref p, y] H (fun v H' => ∃ b, v = .bl b ∧ Q (.bl (g b)) H') E
theorem in_own (m : Spc X.K C "__contains__" f) (F : FnOk X.prog X.w X.K X.mg X.base CX k f fd ps sp) (hr : Room k X.A) (hb : Binds X.K fd ps []) (hx : Passes CX X E) : OpR X (compareOp .In) (rInO C sp E id) := by
  intro pins s σ H y x uy ux Q I ry rx h
  obtain ⟨p, dx, fs, rfl, hp, q⟩ := h
  obtain rfl : ux = Value.ref p := rx
  obtain ⟨ox, od, J, _⟩ := inst_of I hp
  obtain ⟨m0, hF⟩ := I.fr
  refine PySem.W.in_K hF I.ok.mod.kin J m.at_ m.fn (wpAny_mono (run_fn (ds := []) (dvs := []) (us := [.ref p, uy]) (vs := [.ref p, y]) F hr hb .nil hx I (.cons rfl (.cons ry .nil)) q) (fun r s' z => ?_) fun _ _ z => z)
  obtain ⟨v, H', I', rv, b, rfl, q'⟩ := z
  obtain rfl : r = Value.bool b := rv
  exact wpAny_truthy_bool ⟨.bl b, H', I', rfl, q'⟩
theorem notin_own (m : Spc X.K C "__contains__" f) (F : FnOk X.prog X.w X.K X.mg X.base CX k f fd ps sp) (hr : Room k X.A) (hb : Binds X.K fd ps []) (hx : Passes CX X E) : OpR X (compareOp .NotIn) (rInO C sp E not) := by
  intro pins s σ H y x uy ux Q I ry rx h
  obtain ⟨p, dx, fs, rfl, hp, q⟩ := h
  obtain rfl : ux = Value.ref p := rx
  obtain ⟨ox, od, J, _⟩ := inst_of I hp
  obtain ⟨m0, hF⟩ := I.fr
  refine PySem.W.notIn_K hF I.ok.mod.kin J m.at_ m.fn (wpAny_mono (run_fn (ds := []) (dvs := []) (us := [.ref p, uy]) (vs := [.ref p, y]) F hr hb .nil hx I (.cons rfl (.cons ry .nil)) q) (fun r s' z => ?_) fun _ _ z => z)
  obtain ⟨v, H', I', rv, b, rfl, q'⟩ := z
  obtain rfl : r = Value.bool b := rv
  exact wpAny_truthy_bool ⟨.bl (!b), H', I', rfl, q'⟩
/-- len(o) -/
def rLenO (C : Addr) (sp : Sp) (E : XK) : List V → Hp → VK → Prop := fun xs H Q => ∃ (p dx : Addr) (fs : List (Str × V)), xs = [.ref p] ∧ H p = some (.ins C dx fs) ∧ sp [.ref p] H (fun v H' => ∃ n : Int, v = .int n ∧ 0 ≤ n ∧ n < 2 ^ 63 ∧ Q (.int n) H') E
theorem len_own (m : Spc X.K C "__len__" f) (F : FnOk X.prog X.w X.K X.mg X.base CX k f fd ps sp) (hr : Room (k + 1) X.A) (hb : Binds X.K fd ps []) (hx : ∀ pins σ H s e s', Inv X pins σ H s → CX X.stack H s E e s' → X.xe e s') : CallR X (.builtin "len") (rLenO C sp E) := by
  intro pins s σ H xs us Q I rv h
  obtain ⟨p, dx, fs, rfl, hp, q⟩ := h
  obtain ⟨u, rfl, ru⟩ := rv.one
  obtain rfl : u = Value.ref p := ru
  obtain ⟨ox, od, J, _⟩ := inst_of I hp
  obtain ⟨m0, hF⟩ := I.fr
  refine PySem.W.len_K hF I.ok.mod.kin J m.at_ m.fn ?_
  refine wpAny_call (codeAny_mono (F.run X.A.in1 X.stack s H ⟨[.ref p], []⟩ [.ref p] [.ref p] _ E hr.in1 I.env0.in1 ?_ (.cons rfl .nil) q) fun r s' hq => ?_)
  · have hl : ([.ref p] : List Value).length = ps.length := F.len _ _ _ _ q
    have b := hb s [.ref p] I.kIn (by rw [List.append_nil]; exact hl)
    rw [List.append_nil] at b
    exact b
  · cases r with
    | error er => exact hx pins σ H s er s' I hq
    | ok fl =>
      cases fl with
      | ret w =>
        obtain ⟨v, H', I', rv', n, rfl, n0, n1, q'⟩ := I.after hq
        obtain ⟨t, rfl⟩ := rv'
        exact ⟨⟨n0, n1⟩, .int n, H', I'.tok _, ⟨_, rfl⟩, q'⟩
      | next => exact False.elim hq
      | brk => exact False.elim hq
      | cont => exact False.elim hq
/-- a += b, a of an own class -/
def ipO (C : Addr) (sp : Sp) (E : XK) : TIp := fun x y H Q => ∃ (p dx : Addr) (fs : List (Str × V)), x = .ref p ∧ H p = some (.ins C dx fs) ∧ sp [.ref p, y] H (fun v H' => (∃ r, v = .ref r) ∧ Q v H') E
theorem fillsI_own {M : Model} {h : Heap} {K : PySem.W.Frag} {cd : ClassData} {rest : List Value} {b : Bool} (hK : K.In h) (hc : PySem.W.clsIn K C = some cd) (hm : cd.mro = .ref C :: rest) (hs : PySem.W.findIn K (.ref C) "__iadd__" = some (some (.ref f))) :
    PySem.W.Looks M h (fillsInplaceSlot (.ref C) "add" b) true := by
  intro A Q E' s k q
  unfold fillsInplaceSlot
  refine wpAny_bind ((PySem.W.looks_clsIn hK hc).andThen (f := fun cd => pure cd.mro) .now A _ E' s k ?_)
  rw [hm, List.anyM_cons]
  refine wpAny_bind (wpAny_bind (PySem.W.looks_findIn hK hs A _ E' s k ?_))
  show wpAny M A (if (!ownNameWrapper (.ref f) _) = true then _ else _) _ _ _
  rw [if_pos (show (!ownNameWrapper (.ref f) (dunderI "add")) = true from rfl)]
  exact wpAny_pure (by rw [if_pos rfl]; exact wpAny_pure q)
theorem ip_own (m : Spc X.K C "__iadd__" f) (hc : PySem.W.selfFirst X.K C = true) (F : FnOk X.prog X.w X.K X.mg X.base CX k f fd ps sp) (hr : Room k X.A) (hb : Binds X.K fd ps []) (hx : Passes CX X E) : PIp X .Add (ipO C sp E) := by
  intro pins s σ H x y v u Q I rx ry h
  obtain ⟨p, dx, fs, rfl, hp, q⟩ := h
  obtain rfl : v = Value.ref p := rx
  obtain ⟨ox, od, J, _⟩ := inst_of I hp
  obtain ⟨cd, hcd, hm⟩ := PySem.W.any_some hc
  obtain ⟨rest, hm⟩ : ∃ rest, cd.mro = .ref C :: rest := by
    cases q : cd.mro with
    | nil => rw [q] at hm; cases hm
    | cons a r => rw [q] at hm; exact ⟨r, by rw [List.head?_cons] at hm; cases (beq_iff_eq.mp hm); rfl⟩
  unfold inplaceOp
  refine wpAny_holding (wpAny_bind (J.type.here (wpAny_bind ((fillsI_own I.kIn hcd hm m.at_).here ?_))))
  rw [if_pos rfl]
  refine wpAny_bind (m := tryMethod (.ref p) _ u) ?_
  unfold tryMethod
  refine wpAny_bind (PySem.W.special_fn I.kIn J m.at_ (beq_iff_eq.mp m.fn) (wpAny_mono (run_fn (ds := []) (dvs := []) (us := [.ref p, u]) (vs := [.ref p, y]) F hr hb .nil hx I (.cons rfl (.cons ry .nil)) q) (fun r s' z => ?_) fun _ _ e => e))
  obtain ⟨v', H', I', rv, ⟨r0, rfl⟩, q'⟩ := z
  obtain rfl : r = Value.ref r0 := rv
  exact wpAny_pure (wpAny_bind (wpAny_rule (wpAny_pure ⟨.ref r0, H', I', rfl, q'⟩)))
/-- o(), o of an own class -/
def tCallO0 (C : Addr) (sp : Sp) (E : XK) (tf : TE) : TE := fun σ H Q => tf σ H fun y H1 => ∃ (p dx : Addr) (fs : List (Str × V)), y = .ref p ∧ H1 p = some (.ins C dx fs) ∧ sp [.ref p] H1 Q E
theorem pe_callO0 {fe : Expr} {tf : TE} (hf : PE X fe tf) (m : Spc X.K C "__call__" f) (hfi : PySem.W.fnIn X.K f = true) (F : FnOk X.prog X.w X.K X.mg X.base CX k f fd ps sp) (hr : Room k X.A) (hb : Binds X.K fd ps []) (hx : Passes CX X E)
    (ht : eval (.Call fe [] [] pos) X.env = (do callWith pos (← eval fe X.env) [] (backTo pos (starEach [] X.env)) (backToKw pos (keywordEach [] X.env))) := by rfl) : PE X (.Call fe [] [] pos) (tCallO0 C sp E tf) := by
  refine ⟨fun pins s σ H Q I h => ?_⟩
  refine Call_ (thn (hf.run pins s σ H _ I h) fun u s1 ⟨y, H1, I1, ry, p, dx, fs, ey, hp, q⟩ => ?_) ht
  subst ey
  obtain rfl : u = Value.ref p := ry
  obtain ⟨ox, od, J, hd⟩ := inst_of I1 hp
  refine StX.callO_of rfl (evalArgs_nil3 ⟨⟨C, ox, od, J, hd⟩, ?_⟩)
  refine wpAny_call (PySem.W.kco_code I1.kIn J hd m.at_ m.fn hfi (codeAny_mono (F.run X.A X.stack s1 H1 ⟨[.ref p], []⟩ [.ref p] [.ref p] Q E hr I1.env0 ?_ (.cons rfl .nil) q) fun r s' hq => ?_))
  · have hl : ([.ref p] : List Value).length = ps.length := F.len _ _ _ _ q
    have b := hb s1 [.ref p] I1.kIn (by rw [List.append_nil]; exact hl)
    rw [List.append_nil] at b
    exact b
  · cases r with
    | error er => exact hx pins σ H1 s1 er s' I1 hq
    | ok fl =>
      cases fl with
      | ret w => exact I1.after hq
      | next => exact False.elim hq
      | brk => exact False.elim hq
      | cont => exact False.elim hq
end
end My

set_option Elab.async false
set_option linter.all false
set_option maxRecDepth 100000
set_option maxHeartbeats 4000000
/-! S2: list(o) of an own class with __iter__ and __len__; isinstance of a caught exception with fields. -/
namespace My
open PySem PySem.Spec PyProof.Rows L2
section
variable {prog : Program} {w : World} {A : Around} {E : Value → Shared → Prop} {s : Shared} {it l : Addr} {i : Nat} {items : Array Value}
theorem pnx_item {x : Value} {Q : Option Value → Shared → Prop} (ho : s.heap.get? it = some (GNX.itObj l i)) (hl : s.heap.IsList l items) (hx : items[i]? = some x)
    (hQ : ∀ h', h'.get? it = some (GNX.itObj l (i + 1)) → Heap.SameBut it s.heap h' → Q (some x) { s with heap := h' }) : wpAny (model prog w) A (pyNext (.ref it)) Q E s := by
  have hT : s.TypeIs (.ref it) "list_iterator" := ⟨_, ho, rfl⟩
  unfold pyNext
  refine wpAny_bind (wpAny_attempt (wpAny_callSpecial?_slot (name := Str.ofString "__next__") hT slot_listiter_next (wpAny_call_entry slot_listiter_next hT entry_listiter_next (wpAny_mono (GNX.next_item (Q := fun v s' => Q (some v) s') ho hl hx hQ) (fun fin s' hq => ?_) fun _ _ z => z) (args_listiter_next _))))
  obtain ⟨v, e, q⟩ := hq
  exact ⟨v, e, wpAny_pure q⟩
theorem pnx_end {Q : Option Value → Shared → Prop} (hh : A.handled = none) (ho : s.heap.get? it = some (GNX.itObj l i)) (hl : s.heap.IsList l items) (hx : items[i]? = none)
    (hQ : ∀ h1 h', h1.get? it = some (GNX.itEnd i) → Heap.SameBut it s.heap h1 → (∀ b o, h1.get? b = some o → h'.get? b = some o) → Q none { s with heap := h' }) : wpAny (model prog w) A (pyNext (.ref it)) Q E s := by
  have hT : s.TypeIs (.ref it) "list_iterator" := ⟨_, ho, rfl⟩
  unfold pyNext
  refine wpAny_bind (wpAny_attempt (wpAny_callSpecial?_slot (name := Str.ofString "__next__") hT slot_listiter_next (wpAny_call_entry slot_listiter_next hT entry_listiter_next (wpAny_mono (GNX.next_end (A := A) (Q := fun _ _ => False) hh ho hl hx (fun h1 h' e vs e1 sb k ne he hv => ?_)) (fun fin s' hq => ?_) fun _ _ z => z) (args_listiter_next _))))
  · have hT2 : ({ s with heap := h' } : Shared).TypeIs (.ref e) "StopIteration" := ⟨_, he, rfl⟩
    refine wpAny_bind (wpAny_isInstance hT2 PySem.isSubtype_stop ?_)
    rw [if_pos rfl]
    exact wpAny_pure (hQ h1 h' e1 sb k)
  · obtain ⟨v, e, q⟩ := hq
    exact q.elim
end
section
variable {X : Cx} {CI : CXT} {n : Nat} {C fi fl : Addr} {fdI fdL : FuncData} {psI psL : List Str} {spI spL : Sp} {EI EL : XK} {pins : List (Addr × Obj)} {σ : L2.St}
/-- the list at q is filled from the iterator at it -/
theorem fill_loop {A1 : Around} {Rs : Result → Shared → Prop} {H1 : Hp} {l it q : Addr} {zs : List V} (hh : A1.in1.handled = none) (nq : q ≠ it) (nl : l ≠ q) (nli : l ≠ it) (hl1 : H1 l = some (.lst zs)) (hlen : zs.length < sizeLine)
    (hdone : ∀ H s, Inv X pins σ H s → H q = some (.lst zs) → (∀ b, b ≠ q → b ≠ it → H b = H1 b) → Rs (.ok (.ret .none)) s) :
    ∀ (m i : Nat) (H : Hp) (s : Shared), m + i = zs.length → Inv X pins σ H s → H q = some (.lst (zs.take i)) → H it = some (ItO l it i) → (∀ b, b ≠ q → b ≠ it → H b = H1 b) →
      codeAny (model X.prog X.w) A1 (.builtin "list.extend.loop" ⟨[.ref q, .ref it, .none], []⟩) Rs s := by
  intro m
  induction m with
  | zero =>
    intro i H s hm I hq hit oth
    obtain rfl : i = zs.length := by omega
    refine codeAny_builtin PySem.F.entry_extend_loop ?_
    rw [Around.under_plainId PySem.F.plain_extend_loop _]
    show wpAny _ A1.in1 (pyNext (.ref it) >>= _) _ _ s
    obtain ⟨its, rv, pl, hz⟩ := I.list (SqL.of (K := X.K) ((oth l nl nli).trans hl1))
    have mu : Mut (H it) := by rw [hit]; exact True.intro
    refine wpAny_bind (pnx_end hh (itO_get I hit) pl.isList (by rw [List.getElem?_toArray]; exact rv.none_of (by simp)) fun h1 h' e1 sb k => ?_)
    have I2 : Inv X pins σ (upd H it (ItE it zs.length)) { s with heap := h1 } := I.write (x := it) (e := it) (t' := s.toks) mu (.inl rfl) (fun b o nb z => (sb.2 b nb).trans z) ⟨_, e1⟩ (itE_ok e1)
    have I3 : Inv X pins σ (upd H it (ItE it zs.length)) { s with heap := h' } := I2.kept (t' := s.toks) k
    refine wpAny_pure (hdone _ _ I3 ?_ fun b b1 b2 => ?_)
    · rw [upd_ne nq, hq, List.take_length]
    · rw [upd_ne b2]; exact oth b b1 b2
  | succ m ih =>
    intro i H s hm I hq hit oth
    have hi : i < zs.length := by omega
    refine codeAny_builtin PySem.F.entry_extend_loop ?_
    rw [Around.under_plainId PySem.F.plain_extend_loop _]
    show wpAny _ A1.in1 (pyNext (.ref it) >>= _) _ _ s
    obtain ⟨its, rv, pl, hz⟩ := I.list (SqL.of (K := X.K) ((oth l nl nli).trans hl1))
    have mu : Mut (H it) := by rw [hit]; exact True.intro
    obtain ⟨u, hu, ru⟩ := rv.get (List.getElem?_eq_getElem hi)
    refine wpAny_bind (pnx_item (itO_get I hit) pl.isList (x := u) (by rw [List.getElem?_toArray]; exact hu) fun h' e1 sb => ?_)
    have I2 : Inv X pins σ (upd H it (ItO l it (i + 1))) { s with heap := h' } := I.write (x := it) (e := it) (t' := s.toks) mu (.inl rfl) (fun b o nb z => (sb.2 b nb).trans z) ⟨_, e1⟩ (itO_ok e1)
    have hq2 : upd H it (ItO l it (i + 1)) q = some (.lst (zs.take i)) := by rw [upd_ne nq]; exact hq
    show wpAny _ A1.in1 (updateSeq q (·.push u) >>= _) _ _ _
    obtain ⟨z, its2, k, r2, hl2, e⟩ := I2.lstM hq2
    have tl : (zs.take i).length = i := by rw [List.length_take]; omega
    have tk : zs.take (i + 1) = zs.take i ++ [zs[i]] := by rw [List.take_succ, List.getElem?_eq_getElem hi]; rfl
    refine wpAny_bind (wpAny_updateSeq e rfl (wpAny_pure ⟨plainId_quiet PySem.F.plain_extend_loop _, ?_⟩) (by rw [List.size_toArray]; omega) (by show (its2.toArray.push u).size ≤ sizeLine + 1; rw [Array.size_push, List.size_toArray]; omega))
    refine ih (i + 1) _ _ (by omega) (I2.lset (its' := its2 ++ [u]) (t' := s.toks) hq2 e (by simp) (r2.append (.cons ru .nil)) (by rw [List.length_append, List.length_singleton]; omega)) ?_ ?_ fun b b1 b2 => ?_
    · rw [upd_same, tk]
    · rw [upd_ne nq.symm]; exact upd_same
    · rw [upd_ne b1, upd_ne b2]; exact oth b b1 b2
/-- list(o) -/
def rListIt (C : Addr) (spI spL : Sp) (EI EL : XK) : List V → Hp → VK → Prop := fun xs H Q => ∃ (a dx : Addr) (fs : List (Str × V)), xs = [.ref a] ∧ H a = some (.ins C dx fs) ∧ ∀ q, H q = none →
  spI [.ref a] (upd H q (.lst [])) (fun v H1 => ∃ (it l dx' : Addr) (fs' : List (Str × V)) (zs : List V), v = .ref it ∧ H1 it = some (ItO l it 0) ∧ H1 l = some (.lst zs) ∧ zs.length < 1000000 ∧ l ≠ q ∧ H1 q = some (.lst []) ∧ H1 a = some (.ins C dx' fs') ∧
    spL [.ref a] H1 (fun v2 H2 => H2 = H1 ∧ v2 = .int zs.length ∧ ∀ H3, H3 q = some (.lst zs) → (∀ b, b ≠ q → b ≠ it → H3 b = H1 b) → Q (.ref q) H3) EL) EI
theorem call_listIt (hc : X.calm = true) (mi : Spc X.K C "__iter__" fi) (ml : Spc X.K C "__len__" fl) (FI : FnOk X.prog X.w X.K X.mg X.base CI n fi fdI psI spI) (bI : Binds X.K fdI psI []) (xI : Passes CI X EI)
    (FL : FnOk X.prog X.w X.K X.mg X.base CX0 n fl fdL psL spL) (bL : Binds X.K fdL psL []) (hr : Room (n + 3) X.A) : CallR X (.type "list") (rListIt C spI spL EI EL) := by
  intro pins s σ H xs us Q I rv h
  obtain ⟨a, dx, fs, rfl, ha, hq⟩ := h
  obtain ⟨u, rfl, ru⟩ := rv.one
  cases ru
  have sb : Sub X (n + 1) X.A.in1.in1 := Sub.in1 (Sub.in1 (⟨hr, rfl⟩ : Sub X (n + 3) X.A))
  refine callType_codes (Q₁ := fun obj s₁ => obj = .ref s.heap.objs.size ∧ s₁ = { s with heap := s.heap.push { cls := .type "list", data := .seq #[] } }) PySem.F.called_list (PySem.F.typeCall_list_1 _) PySem.F.entry_list_init (code_list_new _ ⟨rfl, rfl⟩) fun obj s₁ h₁ => ?_
  obtain ⟨rfl, rfl⟩ := h₁
  have hS : (s.heap.push { cls := .type "list", data := .seq #[] }).get? s.heap.objs.size = some { cls := .type "list", data := .seq #[] } := Heap.get?_push_size _ rfl
  refine ⟨⟨_, hS, rfl⟩, PySem.F.args_list_init_2 _ _, ?_⟩
  have fr : H s.heap.objs.size = none := I.hok.fresh (Nat.le_refl _)
  have hsp := hq _ fr
  have I1 : Inv X pins σ (upd H s.heap.objs.size (.lst [])) { s with heap := s.heap.push { cls := .type "list", data := .seq #[] } } := I.lnew (its := []) (t' := s.toks) .nil (Nat.zero_le _)
  obtain ⟨q, hqq⟩ : ∃ q, s.heap.objs.size = q := ⟨_, rfl⟩
  show wpAny _ _ (do let old ← Builtin.List.listItems (.ref s.heap.objs.size); Builtin.List.listUpdate (.ref s.heap.objs.size) (fun _ => #[]); letGo old.toList.reverse; Builtin.List.listExtendWith (.ref s.heap.objs.size) (.ref a) .none) _ _ _
  refine wpAny_bind ?_
  unfold Builtin.List.listItems
  refine wpAny_bind (wpAny_seqItems hS rfl (wpAny_pure ?_))
  show wpAny _ _ (updateSeq s.heap.objs.size (fun _ => #[]) >>= fun _ => letGo (#[] : Array Value).toList.reverse >>= fun _ => Builtin.List.listExtendWith (.ref s.heap.objs.size) (.ref a) .none) _ _ _
  refine wpAny_bind (wpAny_updateSeq hS rfl ?_)
  have I2 := I1.lset (f := fun _ => #[]) (its := []) (its' := []) (ys := []) (t' := s.toks) upd_same hS rfl .nil (Nat.zero_le _)
  rw [upd_upd] at I2
  refine wpAny_bind (wpAny_letGo ?_)
  rw [hqq] at I2 hsp fr ⊢
  generalize hs2 : ({ s with heap := (s.heap.push { cls := .type "list", data := .seq #[] }).update q (Obj.mapSeq fun _ => #[]) } : Shared) = s2 at *
  have ha2 : upd H q (.lst []) a = some (.ins C dx fs) := by rw [upd_ne (ne_of_none ha fr)]; exact ha
  have hne : q ≠ a := (ne_of_none ha fr).symm
  obtain ⟨mA, J, _⟩ := ins_get I2.hok ha2
  obtain ⟨od, J, _⟩ := J.look
  obtain ⟨m0, hF⟩ := I2.fr
  unfold Builtin.List.listExtendWith
  refine wpAny_bind (J.type.here ?_)
  have h1 : Builtin.List.listSameRef (.ref q) (.ref a) = false := by simp [Builtin.List.listSameRef, hne]
  have h2 : (Value.ref C == Value.type "list") = false := rfl
  have h3 : (Value.ref C == Value.type "tuple") = false := rfl
  simp only [h1, h2, h3, Bool.or_false, Bool.false_eq_true, if_false]
  refine wpAny_bind (PySem.W.owit_iter hF I2.ok.mod.kin J mi.at_ mi.fn ?_)
  have e0 : ∀ {s' : Shared} {H' : Hp}, Inv X pins σ H' s' → Env0 X.prog X.w X.K X.mg X.base X.A.in1.in1 X.stack s' H' := fun I' => by
    have e := I'.env0
    exact ⟨by rw [sb.fr]; exact e.frames, e.mod, e.bs, e.bsz, e.funs, e.frf, e.hok, e.bare⟩
  have one : ∀ {ps : List Str} {fd : FuncData} {s' : Shared}, Binds X.K fd ps [] → ([Value.ref a] : List Value).length = ps.length → X.K.In s'.heap → BindsTo s' fd ⟨[.ref a], []⟩ (ps.zip [.ref a]) := fun {ps fd s'} b hl kI => by
    have q := b s' [.ref a] kI (by rw [List.append_nil]; exact hl)
    rw [List.append_nil] at q
    exact q
  refine wpAny_call (codeAny_mono (FI.run X.A.in1.in1 X.stack s2 _ ⟨[.ref a], []⟩ [.ref a] [.ref a] _ EI (sb.room.mono (Nat.le_succ _)) (e0 I2) (one bI (FI.len _ _ _ _ hsp) I2.kIn) (.cons rfl .nil) hsp) fun r s' hq' => ?_)
  cases r with
  | error e => exact xI pins σ _ s2 e s' I2 hq'
  | ok fl2 =>
    cases fl2 with
    | next => exact False.elim hq'
    | brk => exact False.elim hq'
    | cont => exact False.elim hq'
    | ret u =>
      obtain ⟨v, H1, I3, rv, it, l, dx', fs', zs, ev, hit, hl, hlen, nlq, hq1, ha1, hspL⟩ := I2.after hq'
      subst ev
      obtain rfl : u = Value.ref it := rv
      have hT : s'.TypeIs (.ref it) "list_iterator" := ⟨_, itO_get I3 hit, rfl⟩
      unfold PySem.W.OwitIt
      refine wpAny_specialOf (name := Str.ofString "__next__") hT slot_listiter_next.lookup ?_
      refine wpAny_bind (wpAny_holding ?_)
      obtain ⟨mA', J', _⟩ := ins_get I3.hok ha1
      obtain ⟨od', J', _⟩ := J'.look
      obtain ⟨m1, hF'⟩ := I3.fr
      unfold Builtin.List.listLengthHint
      refine wpAny_bind (wpAny_bind (J'.type.here ((PySem.W.looks_findIn I3.kIn ml.at_).here ?_)))
      refine PySem.W.KFB.if_not rfl ?_
      rw [if_pos (by rfl)]
      refine wpAny_bind (wpAny_rule (wpAny_bind (wpAny_attempt (PySem.W.len_K hF' I3.ok.mod.kin J' ml.at_ ml.fn ?_))))
      refine wpAny_call (codeAny_mono (FL.run X.A.in1.in1.in1 X.stack s' _ ⟨[.ref a], []⟩ [.ref a] [.ref a] _ EL sb.room.in1 ((e0 I3).in1) (one bL (FL.len _ _ _ _ hspL) I3.kIn) (.cons rfl .nil) hspL) fun r s3 hq3 => ?_)
      cases r with
      | error e => exact (show False from hq3).elim
      | ok fl3 =>
        cases fl3 with
        | next => exact False.elim hq3
        | brk => exact False.elim hq3
        | cont => exact False.elim hq3
        | ret u2 =>
          obtain ⟨v2, H2, I4, rv2, eH, ev2, kQ⟩ := I3.after hq3
          subst ev2
          rw [eH] at I4
          obtain ⟨t2, rfl⟩ := rv2
          refine ⟨⟨by omega, by omega⟩, ?_⟩
          have I5 := I4.tok (s3.toks + 1)
          generalize hs5 : ({ s3 with toks := s3.toks + 1 } : Shared) = s5 at *
          refine wpAny_bind (wpAny_pure ?_)
          refine PySem.W.KFB.if_not (show Builtin.List.listTooLong ((zs.length : Int)).toNat = false from notLongL (by rw [sizeLine_eq]; simp; omega)) ?_
          refine wpAny_pure ?_
          have loop : ∀ s6 : Shared, Inv X pins σ H1 s6 → codeAny (model X.prog X.w) X.A.in1 (.builtin "list.extend.loop" ⟨[.ref q, .ref it, .none], []⟩) (wants (fun r s₂ => r = .none ∧ EP X pins σ Q (.ref q) s₂) X.xe) s6 := fun s6 I6 =>
            fill_loop (A1 := X.A.in1) (l := l) (q := q) (zs := zs) (I6.ok.hd hc) (ne_of hq1 hit (fun z => nomatch z)) nlq (ne_of hl hit (fun z => nomatch z)) hl (by rw [sizeLine_eq]; omega) (fun H s I h1 h2 => ⟨rfl, .ref q, H, I, rfl, kQ H h1 h2⟩) zs.length 0 H1 s6 (by omega) I6 (by rw [List.take_zero]; exact hq1) hit (fun _ _ _ => rfl)
          obtain ⟨z, its, kk, r3, hl3, e3⟩ := I5.lstM hq1
          cases r3
          refine wpAny_ite_split (fun _ => ?_) (fun _ => wpAny_pure ⟨plainId_quiet PySem.F.plain_extend_loop _, loop _ I5⟩)
          refine wpAny_bind (wpAny_rule ?_)
          refine wpAny_bind ?_
          show wpAny _ _ (updateSeq q (·.push .none) >>= fun _ => updateSeq q (·.pop)) _ _ _
          refine wpAny_bind (wpAny_updateSeq e3 rfl ?_)
          have I6 := I5.lset (f := (·.push Value.none)) (its' := [Value.none]) (ys := [.non]) (t' := s5.toks) hq1 e3 (by simp) (.cons rfl .nil) (by rw [List.length_singleton, sizeLine_eq]; decide)
          obtain ⟨z4, its4, k4, r4, hl4, e4⟩ := I6.lstM upd_same
          obtain ⟨u4, rfl, ru4⟩ := r4.one
          refine wpAny_updateSeq e4 rfl ?_ (by show 1 ≤ sizeLine; rw [sizeLine_eq]; decide) (by show 0 ≤ sizeLine + 1; exact Nat.zero_le _)
          refine wpAny_pure ⟨plainId_quiet PySem.F.plain_extend_loop _, loop _ ?_⟩
          have I7 := I6.lset (f := (·.pop)) (its := [u4]) (its' := []) (ys := []) (t' := s5.toks) upd_same e4 (by rfl) .nil (Nat.zero_le _)
          rw [upd_upd] at I7
          have hH : upd H1 q (.lst []) = H1 := by
            funext b
            by_cases hb : b = q
            · rw [hb, upd_same, hq1]
            · rw [upd_ne hb]
          rw [hH] at I7
          exact I7
end
/-- isinstance(e, c), e the exception that the suite holds, with fields -/
def rIsP (C a : Addr) (cls : Value) (d : Option Addr) (K : PySem.W.Frag) : List V → Hp → VK → Prop := fun xs H Q => ∃ (c : V) (cv : Value) (b : Bool) (dd : Addr) (fs : List (Str × V)), xs = [.ref a, c] ∧ cls = .ref C ∧ d = some dd ∧ H dd = some (.xd fs) ∧ (∀ u, RelV c u → u = cv) ∧ PySem.W.kitOne K (.ref C) cv = some b ∧ Q (.bl b) H
theorem call_isP {X : Cx} {a C : Addr} {cls : Value} {d : Option Addr} {oe : Obj} {pn : List (Addr × Obj)} (T : XC X.K C) (hz : Zc cls d oe) (hf : ∃ vs, oe.data = .fields vs) : CallR (X.suite a ((a, oe) :: pn)) (.builtin "isinstance") (rIsP C a cls d X.K) := by
  intro pins s σ H xs us Q I r h
  obtain ⟨c, cv, b, dd, fs, rfl, rfl, rfl, hd, hcv, e, q⟩ := h
  obtain ⟨u1, u2, rfl, r1, r2⟩ := vals2 r
  have ec := hcv _ r2
  subst ec
  obtain rfl : u1 = Value.ref a := r1
  obtain ⟨ha, _⟩ := I.pin (a, oe) (List.mem_append_left _ List.mem_cons_self)
  obtain ⟨vs, hdt⟩ := hf
  obtain ⟨cd, hcd, _⟩ := T.cd
  have hcl : (PySem.W.clsIn X.K C).isSome = true := by rw [hcd]; rfl
  have hx : ObjOk X.prog X.w H s.heap dd (.xd fs) := I.hok dd _ hd
  obtain ⟨mA, hns, _⟩ := hx
  obtain ⟨od, ho, _⟩ := lookIn_ns hns
  have J : PySem.W.InstAt s.heap a oe C (some od) := ⟨ha, hz.1, by unfold PySem.W.notCls; rw [hdt] <;> rfl, by rw [hz.2]; exact ho⟩
  exact PySem.W.kia_one (PySem.W.kitx_exc hcl T.is.hg T.is.hk T.is.hs T.is.ha T.is.hn T.is.ht T.is.hm) I.kIn J e (fun z => nomatch z) fun tk => ⟨.bl b, H, I.tok tk, rfl, q⟩
end My

set_option Elab.async false
set_option linter.all false
set_option maxRecDepth 100000
set_option maxHeartbeats 4000000
/-! S3: o.m(k = e). -/
namespace My
open PySem PySem.Spec PyProof.Rows L2
/-- o.m(k = e, ..), keywords alone -/
def tMethK (C : Addr) (m : Str) (n : Nat) (sp : Sp) (gV : List V → List V → List V) (E : XK) (ta : TE) (tk : TA) : TE := fun σ H Q => ta σ H fun x H1 => ∃ (p dx : Addr) (fs : List (Str × V)), x = .ref p ∧ H1 p = some (.ins C dx fs) ∧ fs.lookup m = none ∧
  tk σ H1 fun zs H2 => zs.length = n ∧ sp (gV [.ref p] zs) H2 Q E
section
variable {X : Cx} {CX : CXT} {k : Nat} {f C : Addr} {fd : FuncData} {ps ks : List Str} {sp : Sp} {E : XK} {m : Str} {pos apos : Pos} {o : Expr} {ta : TE} {tk : TA} {kws : List Keyword} {g : List Value → List Value → List Value} {gV : List V → List V → List V}
theorem pe_methK {pl : Sem Bool} (he : PE X o ta) (c : Cls X.K C) (hm : Meth X.K C m f) (F : FnOk X.prog X.w X.K X.mg X.base CX k f fd ps sp) (hr : Room k X.A) (hb : KBn X.K fd ps 1 ks g gV) (hx : Passes CX X E) (hkw : PK X kws tk)
    (hall : (backToKw pos (keywordEach kws X.env)).all (·.1.isSome) = true := by rfl) (hks : (backToKw pos (keywordEach kws X.env)).filterMap (·.1) = ks := by rfl)
    (hpl : ((backTo pos (starEach [] X.env)).any (·.1) || (backToKw pos (keywordEach kws X.env)).any (·.1.isNone)) = false := by rfl)
    (ht : eval (.Call (.Attribute o m apos) [] kws pos) X.env = (do
      let ov ← eval o X.env
      standAt apos.atName
      let (f, first) ← holding [ov] (getMethod ov m pl)
      callWith pos f first (backTo pos (starEach [] X.env)) (backToKw pos (keywordEach kws X.env))) := by rfl) : PE X (.Call (.Attribute o m apos) [] kws pos) (tMethK C m ks.length sp gV E ta tk) := by
  refine ⟨fun pins s σ H Q I h => ?_⟩
  refine PySem.W.methodCall_KW (pl := pl) (thn (he.run pins s σ H _ I h) fun u s1 ⟨x, H1, I1, rx, p, dx, fs, ex, ea, l, q⟩ => ?_) ht
  subst ex
  obtain rfl : u = Value.ref p := rx
  refine getmeth_ok I1 ea c hm l (PySem.W.callWith_KW0 (first := [.ref p]) (h₀ := X.base) I.ok.mod.kin hm.kp hall ?_ hpl)
  refine thn (hkw.run pos pins s1 σ H1 _ I1 q) fun ws s2 ⟨zs, H2, I2, rz, l2, q2⟩ => ⟨I2.kIn, ?_⟩
  rw [hks]
  exact run_fnN (us := [.ref p]) (vs := [.ref p]) F hr hb hx I2 (.cons rfl .nil) rz rfl l2 q2
end
end My

set_option Elab.async false
set_option linter.all false
set_option maxRecDepth 100000
set_option maxHeartbeats 4000000
/-! Q1: short words, and the draws of a law over desks. -/
namespace My
open PySem PySem.Spec PyProof.Rows L2
def top (i : Nat) : Stmt := PySem.Challenge.pw_trackedreads_k67_cells.main.body.getD i (.Pass ⟨0, 0, 0, 0⟩)
/-- what stands outside S is as it was -/
def Kp (S : List Addr) (H H' : Hp) : Prop := ∀ q o, q ∉ S → H q = some o → H' q = some o
theorem Kp.refl {S : List Addr} (H : Hp) : Kp S H H := fun _ _ _ h => h
theorem Kp.trans {S : List Addr} {H H1 H2 : Hp} (a : Kp S H H1) (b : Kp S H1 H2) : Kp S H H2 := fun q o n h => b q o n (a q o n h)
theorem Kp.mono {S T : List Addr} {H H1 : Hp} (a : Kp S H H1) (h : ∀ x, x ∈ S → x ∈ T) : Kp T H H1 := fun q o n e => a q o (fun z => n (h q z)) e
theorem Kp.new {S : List Addr} {H : Hp} {p : Addr} {o : HO} (h : H p = none) : Kp S H (upd H p o) := fun q u _ e => by
  rw [upd_ne (ne_of_none e h)]
  exact e
theorem Kp.put {S : List Addr} {H : Hp} {p : Addr} {o : HO} (h : p ∈ S) : Kp S H (upd H p o) := fun q u n e => by
  rw [upd_ne (fun z => n (by rw [z]; exact h))]
  exact e
theorem Kp.same {H H1 : Hp} (a : Kp [] H H1) : Same H H1 := fun q o e => a q o (by simp) e
theorem Kp.of_same {S : List Addr} {H H1 : Hp} (a : Same H H1) : Kp S H H1 := fun q o _ e => a q o e
section
variable {X : Cx} {a b : Expr} {ta tb : TE} {pos : Pos}
theorem ixl (ha : PE X a ta) (hb : PE X b tb) (hs : PlainIx b := by exact fun _ _ => rfl) : PE X (.Subscript a b pos) (tOp (rIxL X.K) ta tb) := pe_ix ix_list ha hb hs
theorem ixt (ha : PE X a ta) (hb : PE X b tb) (hs : PlainIx b := by exact fun _ _ => rfl) : PE X (.Subscript a b pos) (tOp (rIxT X.K) ta tb) := pe_ix ix_tup ha hb hs
def rGetL (K : PySem.W.Frag) : V → V → Hp → VK → Prop := fun x y H Q => ∃ (p : Addr) (xs : List V) (i : Nat) (v : V), x = .ref p ∧ y = .int i ∧ SqL K H p xs ∧ xs[i]? = some v ∧ Q v H
theorem get_list : PGet X (rGetL X.K) := by
  intro pins s σ H o i ov iv Q I ro ri h
  obtain ⟨p, xs, j, v, rfl, rfl, hq, he, q⟩ := h
  cases ro
  obtain ⟨t, rfl⟩ := ri
  obtain ⟨its, r, pl, hz⟩ := I.list hq
  obtain ⟨w, ew, rw'⟩ := r.get he
  have hl := r.length
  have hn := line63
  have hj : j < its.length := (List.getElem?_eq_some_iff.mp ew).1
  exact wpAny_getItem_list pl.isList (by omega) (by omega) (by simpa using ew) ⟨v, H, I, rw', q⟩
end
/-- the built-ins that the module leaves as they are -/
structure Bt (mg : Str → Option Value) : Prop where
  int : mg "int" = none
  len : mg "len" = none
  abs : mg "abs" = none
  list : mg "list" = none
  str : mg "str" = none
  range : mg "range" = none
  enumerate : mg "enumerate" = none
  isinstance : mg "isinstance" = none
  tuple : mg "tuple" = none
  set : mg "set" = none
  all : mg "all" = none
  any : mg "any" = none
  max : mg "max" = none
  min : mg "min" = none
  sorted : mg "sorted" = none
  bool : mg "bool" = none
theorem str_int_none : bootBuiltins "int" = some (.type "int") := by decide +kernel
theorem boot_abs' : bootBuiltins "abs" = some (.builtin "abs") := by decide +kernel
theorem boot_list' : bootBuiltins "list" = some (.type "list") := by decide +kernel

/-! ### the bag -/
def BagAt (H : Hp) (b : Addr) (n : Int) : Prop := ∃ d x c : Int, H b = some (.lst [.int d, .int x, .int c]) ∧ 0 ≤ d ∧ 0 ≤ x ∧ x < 4611686018427387904 ∧ 0 ≤ c ∧ c ≤ n
theorem BagAt.kp {S : List Addr} {H H' : Hp} {b : Addr} {n : Int} (h : BagAt H b n) (k : Kp S H H') (hb : b ∉ S) : BagAt H' b n := by
  obtain ⟨d, x, c, h1, h2⟩ := h
  exact ⟨d, x, c, k _ _ hb h1, h2⟩
theorem BagAt.up {H : Hp} {b : Addr} {n m : Int} (h : BagAt H b n) (k : n ≤ m) : BagAt H b m := by
  obtain ⟨d, x, c, h1, h2, h3, h4, h5, h6⟩ := h
  exact ⟨d, x, c, h1, h2, h3, h4, h5, by omega⟩
def spBag (K : PySem.W.Frag) : Sp := fun vs H Q _ => ∃ (a : Addr) (ns : List Int) (i : Int), vs = [.ref a, .int i] ∧ SqL K H a (ns.map V.int) ∧ 0 ≤ i ∧ i ≤ 3 ∧ ∀ (H' : Hp) (b : Addr), Kp [] H H' → H b = none → BagAt H' b 0 → Q (.ref b) H'
def spTake : Sp := fun vs H Q _ => ∃ (b : Addr) (m n : Int), vs = [.ref b, .int m] ∧ BagAt H b n ∧ n < 1000000 ∧ 0 < m ∧ m < 2 ^ 200 ∧ ∀ (H' : Hp) (r : Int), Kp [b] H H' → BagAt H' b (n + 1) → 0 ≤ r → r < m → Q (.int r) H'
def spOf (K : PySem.W.Frag) : Sp := fun vs H Q _ => ∃ (b l : Addr) (n : Int) (xs : List V), vs = [.ref b, .ref l] ∧ BagAt H b n ∧ n < 1000000 ∧ H l = some (.lst xs) ∧ 0 < xs.length ∧ xs.length < 1000 ∧ l ≠ b ∧ ∀ (H' : Hp) (i : Nat) (x : V), Kp [b] H H' → BagAt H' b (n + 1) → xs[i]? = some x → Q x H'
def spWorth : Sp := fun vs H Q _ => ∃ (b : Addr) (n : Int), vs = [.ref b] ∧ BagAt H b n ∧ n < 999998 ∧ ∀ (H' : Hp) (r : Int), Kp [b] H H' → BagAt H' b (n + 2) → -10 ^ 29 ≤ r → r ≤ 10 ^ 29 → Q (.int r) H'
section
variable {P : Program} {w : World} {K : PySem.W.Frag} {mg : Str → Option Value} {base : Heap}
abbrev sBag : Stmt := (top 19)
abbrev sTake : Stmt := (top 20)
abbrev sOf : Stmt := (top 21)
abbrev sWorth : Stmt := (top 22)
theorem scBag : FnScope ["_law_script", "_law_at", "_law_cell", "_law_digits"] ["_law_script", "_law_at"] (defScope sBag) := ⟨rfl, rfl, rfl, by decide +kernel, rfl, by decide +kernel, by decide +kernel⟩
theorem scTake : FnScope ["_law_bag_here", "_law_many", "_law_digit", "_law_mixed"] ["_law_bag_here", "_law_many"] (defScope sTake) := ⟨rfl, rfl, rfl, by decide +kernel, rfl, by decide +kernel, by decide +kernel⟩
theorem scOf : FnScope ["_law_bag_here", "_law_some"] ["_law_bag_here", "_law_some"] (defScope sOf) := ⟨rfl, rfl, rfl, by decide +kernel, rfl, by decide +kernel, by decide +kernel⟩
theorem scWorth : FnScope ["_law_bag_here", "_law_kind"] ["_law_bag_here"] (defScope sWorth) := ⟨rfl, rfl, rfl, by decide +kernel, rfl, by decide +kernel, by decide +kernel⟩
/-- the def's name in the module, and its object -/
structure At (K : PySem.W.Frag) (mg : Str → Option Value) (x : Str) (f : Addr) : Prop where
  g : mg x = some (.ref f)
  k : PySem.W.keepIn K (.ref f) = true
theorem ok_bag {f : Addr} {fd : FuncData} (F : Fun K "_law_bag" "_law_bag" sBag f fd) (B : Bt mg) : FnOk P w K mg base CX0 1 f fd ["_law_script", "_law_at"] (spBag K) := by
  refine F.ok scBag (fun vs H Q E h => ?_) (fun cdv A outer s H vs Q E hr h => ?_)
  · obtain ⟨a, ns, i, rfl, _⟩ := h
    rfl
  · obtain ⟨a, ns, i, rfl, hS, hi0, hi3, k⟩ := h
    have nd := scBag.nd
    refine ⟨_, C8.pss_cut (ps_set (i := 2) nd rfl (Or.inl rfl) (pe_ifExp (pt_cmpR op_lt (pv 1) (pe_callB call_len (by rfl) B.len PySem.boot_len (pa_cons (pv 0) pa_nil)) (nomark _)) (ixl (pv 0) (pv 1)) pe_int))
      (C8.pss_cut (ps_set (i := 3) nd rfl (Or.inl rfl) (pe_ifExp (pt_cmpR op_ge (pe_callB call_abs (by rfl) B.abs boot_abs' (pa_cons (pv 2) pa_nil)) (pe_op op_pow pe_int pe_int) (nomark _)) (pe_callB call_abs (by rfl) B.abs boot_abs' (pa_cons (pv 2) pa_nil)) pe_int))
      (pss_one (ps_ret (pe_lst (pa_cons (pv 3) (pa_cons (pe_op op_add (pe_op op_add (pe_op op_mod (pe_callTy call_int1 (by rfl) B.int str_int_none (pa_cons (pv 2) pa_nil)) pe_int) (pe_op op_mul pe_int (pv 1))) pe_int) (pa_cons pe_int pa_nil))))))), ?_⟩
    refine ⟨fun σ' H' => ∃ z : Int, σ' = [some (.ref a), some (.int i), some (.int z), none] ∧ H' = H, ?_, ?_⟩
    · refine ⟨_, rfl, _, rfl, _, _, rfl, .inl ⟨_, hS, rfl⟩, _, _, rfl, rfl, _, rfl, ?_⟩
      refine ite2 (fun e => ?_) (fun e => ⟨0, rfl, rfl⟩)
      obtain ⟨j, rfl⟩ := Int.eq_ofNat_of_zero_le hi0
      have hj : j < ns.length := by
        have h2 : (j : Int) < ((ns.map V.int).length : Int) := of_decide_eq_true e
        rw [List.length_map] at h2
        omega
      exact ⟨_, rfl, _, rfl, a, _, _, V.int ns[j], rfl, rfl, hS, atI_nat (by rw [List.getElem?_map, List.getElem?_eq_getElem hj]; rfl), ns[j], rfl, rfl⟩
    · rintro σ' H' ⟨z, rfl, rfl⟩
      refine ⟨fun σ' H'' => ∃ y : Int, 0 ≤ y ∧ σ' = [some (.ref a), some (.int i), some (.int z), some (.int y)] ∧ H'' = H', ?_, ?_⟩
      · refine ⟨_, rfl, _, rfl, _, _, rfl, rfl, ⟨by decide, by decide, by decide⟩, _, _, rfl, rfl, _, rfl, ?_⟩
        refine ite2 (fun e => ⟨_, rfl, _, rfl, _, ?_, rfl, rfl⟩) (fun e => ⟨0, by decide, rfl, rfl⟩)
        split <;> omega
      · rintro σ' H'' ⟨y, hy, rfl, rfl⟩
        refine ⟨_, rfl, _, rfl, .inl ⟨_, rfl, _, _, rfl, rfl, (by decide : (0 : Int) < 2305843009213693951), _, rfl, _, _, rfl, rfl, .inl ⟨by decide, by decide⟩, _, _, rfl, rfl, _, _, rfl, rfl, (by show 3 ≤ sizeLine; decide), fun b hb => ?_⟩⟩
        have h1 : 0 ≤ z % 2305843009213693951 := Int.emod_nonneg _ (by decide)
        have h2 : z % 2305843009213693951 < 2305843009213693951 := Int.emod_lt_of_pos _ (by decide)
        exact k _ b (Kp.new hb) hb ⟨y, _, 0, upd_same, hy, by omega, by omega, by decide, by decide⟩
theorem ok_take {f : Addr} {fd : FuncData} (F : Fun K "_law_take" "_law_take" sTake f fd) (B : Bt mg) : FnOk P w K mg base CX0 1 f fd ["_law_bag_here", "_law_many"] spTake := by
  refine F.ok scTake (fun vs H Q E h => ?_) (fun cdv A outer s H vs Q E hr h => ?_)
  · obtain ⟨b, m, n, rfl, _⟩ := h
    rfl
  · obtain ⟨b, m, n, rfl, hB, hn, hm, hm2, k⟩ := h
    have nd := scTake.nd
    refine ⟨_, pss_cons (ps_if (pt_cmpR op_gt (ixl (pv 0) pe_int) pe_int (nomark _))
        (pss_cons (ps_set (i := 2) nd rfl (Or.inl rfl) (pe_op op_mod (pe_callTy call_int1 (by rfl) B.int str_int_none (pa_cons (ixl (pv 0) pe_int) pa_nil)) (pv 1)))
          (pss_cons (ps_asg (pe_op op_fdivW (ixl (pv 0) pe_int) (pv 1)) (pg_sub (pv 0) pe_int set_list)) (pss_one (ps_ret (pv 2))))) pss_nil)
      (pss_cons (ps_asg (pe_op op_add (ixl (pv 0) pe_int) pe_int) (pg_sub (pv 0) pe_int set_list))
      (pss_cons (ps_set (i := 3) nd rfl (Or.inl rfl) (pe_op op_mod (pe_callTy call_int1 (by rfl) B.int str_int_none (pa_cons (pe_op op_pow (pe_op op_add (ixl (pv 0) pe_int) (pe_op op_mul pe_int (ixl (pv 0) pe_int))) pe_int) pa_nil)) pe_int))
      (pss_cons (ps_set (i := 3) nd rfl (Or.inl rfl) (pe_op op_mod (pe_callTy call_int1 (by rfl) B.int str_int_none (pa_cons (pe_op op_pow (pe_op op_add (pv 3) (pe_op op_mul pe_int (ixl (pv 0) pe_int))) pe_int) pa_nil)) pe_int))
      (pss_one (ps_ret (pe_op op_mod (pe_callTy call_int1 (by rfl) B.int str_int_none (pa_cons (pe_op op_fdiv (pv 3) pe_int) pa_nil)) (pv 1))))))), ?_⟩
    obtain ⟨d, x, c, hb, hd, hx, hx2, hc, hc2⟩ := hB
    refine ⟨_, rfl, b, _, _, _, rfl, rfl, SqL.of hb, rfl, _, _, rfl, rfl, _, rfl, ?_⟩
    refine ite2 (fun e => ?_) (fun e => ?_)
    · refine ⟨_, rfl, b, _, _, _, rfl, rfl, SqL.of hb, rfl, .inl ⟨_, rfl, _, rfl, _, _, rfl, rfl, hm, ?_⟩⟩
      refine ⟨_, rfl, b, _, _, _, rfl, rfl, SqL.of hb, rfl, _, rfl, _, _, rfl, rfl, wide_div (b := 200) hm (by omega) (by decide) (by decide), _, rfl, b, _, _, 0, rfl, rfl, hb, rfl, ?_⟩
      refine ⟨_, rfl, ?_⟩
      exact k _ _ (Kp.put (by simp)) ⟨d / m, x, c, upd_same, Int.ediv_nonneg hd (by omega), hx, hx2, hc, by omega⟩ (Int.emod_nonneg _ (by omega)) (Int.emod_lt_of_pos _ hm)
    · refine ⟨_, rfl, b, _, _, _, rfl, rfl, SqL.of hb, rfl, _, _, rfl, rfl, _, rfl, b, _, _, 2, rfl, rfl, hb, rfl, ?_⟩
      have hb2 : ∀ z : Int, upd H b (.lst (List.set [V.int d, V.int x, V.int c] 2 (.int z))) b = some (.lst [.int d, .int x, .int z]) := fun z => upd_same
      have hb3 := hb2 (c + 1)
      have k1 : Kp [b] H (upd H b (.lst (List.set [V.int d, V.int x, V.int c] 2 (.int (c + 1))))) := Kp.put (by simp)
      obtain ⟨H1, e1⟩ : ∃ H1, upd H b (.lst (List.set [V.int d, V.int x, V.int c] 2 (.int (c + 1)))) = H1 := ⟨_, rfl⟩
      rw [e1] at hb3 k1
      clear hb2
      rw [e1]
      refine ⟨_, rfl, b, _, _, _, rfl, rfl, SqL.of hb3, rfl, _, rfl, b, _, _, _, rfl, rfl, SqL.of hb3, rfl, _, _, rfl, rfl, .inl ⟨by decide, by decide⟩, _, _, rfl, rfl, _, _, rfl, rfl, ⟨by decide, by decide, by omega⟩, .inl ⟨_, rfl, _, _, rfl, rfl, (by decide : (0 : Int) < 2305843009213693921), ?_⟩⟩
      obtain ⟨y, hy⟩ : ∃ y, (x + 32452867 * (c + 1)) ^ (3 : Int).toNat % 2305843009213693921 = y := ⟨_, rfl⟩
      have y0 : 0 ≤ y := by rw [← hy]; exact Int.emod_nonneg _ (by decide)
      have y1 : y < 2305843009213693921 := by rw [← hy]; exact Int.emod_lt_of_pos _ (by decide)
      refine ⟨_, rfl, _, rfl, b, _, _, _, rfl, rfl, SqL.of hb3, rfl, _, _, rfl, rfl, .inl ⟨by decide, by decide⟩, _, _, rfl, rfl, _, _, rfl, rfl, ⟨by decide, by decide, by omega⟩, .inl ⟨_, rfl, _, _, rfl, rfl, (by decide : (0 : Int) < 2305843009213693951), ?_⟩⟩
      obtain ⟨z, hz⟩ : ∃ z, (y + 982451653 * (c + 1)) ^ (2 : Int).toNat % 2305843009213693951 = z := ⟨_, rfl⟩
      refine ⟨_, rfl, _, _, rfl, rfl, ⟨by decide, by decide⟩, .inl ⟨_, rfl, _, rfl, _, _, rfl, rfl, hm, ?_⟩⟩
      exact k _ _ k1 ⟨d, x, c + 1, hb3, hd, hx, hx2, by omega, by omega⟩ (Int.emod_nonneg _ (by omega)) (Int.emod_lt_of_pos _ hm)
theorem ok_of {f fT : Addr} {fd dT : FuncData} (F : Fun K "_law_of" "_law_of" sOf f fd) (B : Bt mg) (aT : At K mg "_law_take" fT) (bT : Binds K dT ["_law_bag_here", "_law_many"] []) (oT : FnOk P w K mg base CX0 1 fT dT ["_law_bag_here", "_law_many"] spTake) :
    FnOk P w K mg base CX0 2 f fd ["_law_bag_here", "_law_some"] (spOf K) := by
  refine F.ok scOf (fun vs H Q E h => ?_) (fun cdv A outer s H vs Q E hr h => ?_)
  · obtain ⟨b, l, n, xs, rfl, _⟩ := h
    rfl
  · obtain ⟨b, l, n, xs, rfl, hB, hn, hl, h0, hlen, ne, k⟩ := h
    have nd := scOf.nd
    refine ⟨_, pss_one (ps_ret (ixl (pv 1) (pe_call oT hr (by rfl) aT.g aT.k bT .nil pass0 (pa_cons (pv 0) (pa_cons (pe_callB call_len (by rfl) B.len PySem.boot_len (pa_cons (pv 1) pa_nil)) pa_nil))))), ?_⟩
    have big : ((1000 : Nat) : Int) < 2 ^ 200 := by decide
    refine ⟨_, rfl, _, rfl, _, rfl, _, _, rfl, .inl ⟨_, SqL.of hl, rfl⟩, b, _, n, rfl, hB, hn, by omega, ?_, fun H' r kp hB' r0 r1 => ?_⟩
    · omega
    · obtain ⟨j, rfl⟩ := Int.eq_ofNat_of_zero_le r0
      have hj : j < xs.length := by omega
      exact ⟨l, xs, j, xs[j], rfl, rfl, SqL.of (kp _ _ (by simpa using ne) hl), atI_nat (List.getElem?_eq_getElem hj), k H' j _ kp hB' (List.getElem?_eq_getElem hj)⟩
theorem ok_worth {f fT : Addr} {fd dT : FuncData} (F : Fun K "_law_worth" "_law_worth" sWorth f fd) (aT : At K mg "_law_take" fT) (bT : Binds K dT ["_law_bag_here", "_law_many"] []) (oT : FnOk P w K mg base CX0 1 fT dT ["_law_bag_here", "_law_many"] spTake) :
    FnOk P w K mg base CX0 2 f fd ["_law_bag_here"] spWorth := by
  refine F.ok scWorth (fun vs H Q E h => ?_) (fun cdv A outer s H vs Q E hr h => ?_)
  · obtain ⟨b, n, rfl, _⟩ := h
    rfl
  · obtain ⟨b, n, rfl, hB, hn, k⟩ := h
    have nd := scWorth.nd
    refine ⟨_, pss_cons (ps_set (i := 1) nd rfl (Or.inl rfl) (pe_call oT hr (by rfl) aT.g aT.k bT .nil pass0 (pa_cons (pv 0) (pa_cons pe_int pa_nil))))
      (pss_cons (ps_if (pt_cmpR op_lt (pv 1) pe_int (nomark _)) (pss_one (ps_ret (pe_call oT hr (by rfl) aT.g aT.k bT .nil pass0 (pa_cons (pv 0) (pa_cons pe_int pa_nil))))) pss_nil)
      (pss_cons (ps_if (pt_cmpR op_eq (pv 1) pe_int (nomark _)) (pss_one (ps_ret (pe_call oT hr (by rfl) aT.g aT.k bT .nil pass0 (pa_cons (pv 0) (pa_cons (pe_op op_pow pe_int pe_int) pa_nil))))) pss_nil)
      (pss_one (ps_ret (pe_op op_sub (pe_un un_neg pe_int) (pe_call oT hr (by rfl) aT.g aT.k bT .nil pass0 (pa_cons (pv 0) (pa_cons (pe_op op_pow pe_int pe_int) pa_nil)))))))), ?_⟩
    refine ⟨_, rfl, b, _, n, rfl, hB, by omega, by decide, by decide, fun H1 r k1 hB1 r0 r1 => ?_⟩
    have big : (10 : Int) ^ (29 : Int).toNat = 10 ^ 29 := by decide
    refine ⟨_, rfl, _, _, rfl, rfl, _, rfl, ?_⟩
    refine ite2 (fun e => ?_) (fun e => ?_)
    · refine ⟨_, rfl, b, _, _, rfl, hB1, by omega, by decide, by decide, fun H2 z k2 hB2 z0 z1 => ?_⟩
      exact k _ _ (k1.trans k2) (hB2.up (by omega)) (by omega) (by omega)
    · refine ⟨_, rfl, rfl, _, rfl, ?_⟩
      refine ite2 (fun e => ?_) (fun e => ?_)
      · refine ⟨_, rfl, _, _, rfl, rfl, ⟨by decide, by decide, by decide⟩, b, _, _, rfl, hB1, by omega, by decide, by decide, fun H2 z k2 hB2 z0 z1 => ?_⟩
        exact k _ _ (k1.trans k2) (hB2.up (by omega)) (by omega) (by omega)
      · refine ⟨_, rfl, _, rfl, _, _, rfl, rfl, ⟨by decide, by decide, by decide⟩, b, _, _, rfl, hB1, by omega, by decide, by decide, fun H2 z k2 hB2 z0 z1 => ?_⟩
        refine ⟨_, _, rfl, rfl, ?_⟩
        exact k _ _ (k1.trans k2) (hB2.up (by omega)) (by omega) (by omega)
end
end My

set_option Elab.async false
set_option linter.all false
set_option maxRecDepth 100000
set_option maxHeartbeats 4000000
/-! Q2: what is handed to NoName, and copies of it. -/
namespace My
open PySem PySem.Spec PyProof.Rows L2
/-- a value that is no cell's name: None, an int, a bool, a text; a tuple or a list of one text -/
inductive Fld where
  | non | int (i : Int) | bl (b : Bool) | str (x : Str) | tup (x : Str) | lst (x : Str)
def FAt (H : Hp) : Fld → V → Prop
  | .non, v => v = .non
  | .int i, v => v = .int i
  | .bl b, v => v = .bl b
  | .str x, v => v = .str x ∧ PyData.strOk x = true
  | .tup x, v => PyData.strOk x = true ∧ ∃ p, v = .ref p ∧ H p = some (.tup [.str x])
  | .lst x, v => PyData.strOk x = true ∧ ∃ p, v = .ref p ∧ H p = some (.lst [.str x])
def Fld.data : Fld → PyData
  | .non => .none
  | .int i => .int i
  | .bl b => .bool b
  | .str x => .str x
  | .tup x => .tuple [.str x]
  | .lst x => .list [.str x]
theorem Fld.dp {K : PySem.W.Frag} {H : Hp} : ∀ {f : Fld} {v : V}, FAt H f v → Dp K H v f.data
  | .non, _, h => by cases h; exact .non
  | .int i, _, h => by cases h; exact .int i
  | .bl b, _, h => by cases h; exact .bl b
  | .str x, _, h => by cases h.1; exact .str x
  | .tup x, _, ⟨_, p, e, hp⟩ => by
    subst e
    exact .tup (SqT.of hp) (.cons (.str _) .nil)
  | .lst x, _, ⟨_, p, e, hp⟩ => by
    subst e
    exact .lst (SqL.of hp) (.cons (.str _) .nil)
theorem Fld.shaped {H : Hp} : ∀ {f : Fld} {v : V}, FAt H f v → SeqAt.shaped f.data = true
  | .non, _, _ => by decide
  | .int _, _, _ => by unfold SeqAt.shaped Fld.data; simp [PyData.canLay0, PyData.depth]
  | .bl _, _, _ => by unfold SeqAt.shaped Fld.data; simp [PyData.canLay0, PyData.depth]
  | .str _, _, h => by unfold SeqAt.shaped Fld.data; simp [PyData.canLay0, PyData.depth, h.2]
  | .tup _, _, h => by unfold SeqAt.shaped Fld.data; simp [PyData.canLay0, PyData.canLayAll0, PyData.depth, PyData.depthAll, h.1]
  | .lst _, _, h => by unfold SeqAt.shaped Fld.data; simp [PyData.canLay0, PyData.canLayAll0, PyData.depth, PyData.depthAll, h.1]
theorem Fld.eqv (f : Fld) : PyData.eqv f.data f.data = true := by
  cases f <;> simp [Fld.data, PyData.eqv, PyData.eqvAll]
theorem FAt.same {H H' : Hp} (s : Kp [] H H') : ∀ {f : Fld} {v : V}, FAt H f v → FAt H' f v
  | .non, _, h => h
  | .int _, _, h => h
  | .bl _, _, h => h
  | .str _, _, h => h
  | .tup _, _, ⟨o, p, e, hp⟩ => ⟨o, p, e, s _ _ (by simp) hp⟩
  | .lst _, _, ⟨o, p, e, hp⟩ => ⟨o, p, e, s _ _ (by simp) hp⟩
def Flat (v : V) : Prop := v = .non ∨ (∃ i, v = .int i) ∨ (∃ x, v = .str x) ∨ ∃ b, v = .bl b
/-- copied(v), one level more: a list's or tuple's entry is copied too -/
def spCp (deep : Prop) : Sp := fun vs H Q _ => ∃ v : V, vs = [v] ∧ ((Flat v ∧ Q v H) ∨ (deep ∧ ∃ (p : Addr) (x : Str), v = .ref p ∧
  ((H p = some (.tup [.str x]) ∧ ∀ H' q, Kp [] H H' → H' q = some (.tup [.str x]) → Q (.ref q) H') ∨ (H p = some (.lst [.str x]) ∧ ∀ H' q, Kp [] H H' → H' q = some (.lst [.str x]) → Q (.ref q) H'))))
def spCopy : Sp := fun vs H Q _ => ∃ (v : V) (f : Fld), vs = [v] ∧ FAt H f v ∧ ∀ H' v', Kp [] H H' → FAt H' f v' → Q v' H'
section
variable {P : Program} {w : World} {K : PySem.W.Frag} {mg : Str → Option Value} {base : Heap}
theorem boot_isi' : bootBuiltins "isinstance" = some (.builtin "isinstance") := by decide +kernel
theorem boot_tup' : bootBuiltins "tuple" = some (.type "tuple") := by decide +kernel
theorem tyL {X : Cx} {pos : Pos} (hg : Gl X "list") (hm : X.mg "list" = none) : PE X (.Name "list" pos) (tC (.ty "list")) := pe_bltn hg hm boot_list' rfl
theorem tyT {X : Cx} {pos : Pos} (hg : Gl X "tuple") (hm : X.mg "tuple" = none) : PE X (.Name "tuple" pos) (tC (.ty "tuple")) := pe_bltn hg hm boot_tup' rfl
abbrev sCopied : Stmt := (top 2)
theorem scCopied : FnScope ["value", "item"] ["value"] (defScope sCopied) := ⟨rfl, rfl, rfl, by decide +kernel, rfl, by decide +kernel, by decide +kernel⟩
theorem Flat.ty {K : PySem.W.Frag} {H : Hp} {v : V} (h : Flat v) : ∃ t : String, TyX K H v (.type t) ∧ PySem.W.kitOne K (.type t) (.type "list") = some false ∧ PySem.W.kitOne K (.type t) (.type "tuple") = some false := by
  rcases h with rfl | ⟨i, rfl⟩ | ⟨x, rfl⟩ | ⟨b, rfl⟩
  · exact ⟨_, .base .non, kit_ty (by decide +kernel), kit_ty (by decide +kernel)⟩
  · exact ⟨_, .base (.int i), kit_ty (by decide +kernel), kit_ty (by decide +kernel)⟩
  · exact ⟨_, .base (.str x), kit_ty (by decide +kernel), kit_ty (by decide +kernel)⟩
  · exact ⟨_, .base (.bl b), kit_ty (by decide +kernel), kit_ty (by decide +kernel)⟩
theorem cp_step {f : Addr} {fd : FuncData} (F : Fun K "copied" "copied" sCopied f fd) (B : Bt mg) (aC : At K mg "copied" f) (bC : Binds K fd ["value"] []) {k : Nat} {sp : Sp} (deep : Prop) (oR : FnOk P w K mg base CX0 k f fd ["value"] sp)
    (hin : deep → ∀ v H Q E, Flat v → Q v H → sp [v] H Q E) : FnOk P w K mg base CX0 (k + 1) f fd ["value"] (spCp deep) := by
  refine F.ok scCopied (fun vs H Q E h => ?_) (fun cdv A outer s H vs Q E hr h => ?_)
  · obtain ⟨v, rfl, _⟩ := h
    rfl
  · obtain ⟨v, rfl, h⟩ := h
    have nd := scCopied.nd
    have hz := sizeLine_eq
    refine ⟨_, pss_cons (ps_if (pt_val (pe_callB call_isi (by rfl) B.isinstance boot_isi' (pa_cons (pv 0) (pa_cons (tyL (by rfl) B.list) pa_nil))))
        (pss_one (ps_ret (pe_lc (own := [("item", 1)]) (g := gName 1) (tt := tYes) rfl nd (pi_list (pv 0)) (blkOk_by (own := [("item", 1)]) (N := ["value", "item"]) (sc := defScope sCopied) (by decide +kernel)) (fun _ _ _ _ _ => pg_name (i := 1) nd rfl (Or.inl rfl)) (fun _ _ _ _ _ => pts_nil)
          (fun _ _ _ _ _ => pe_call oR hr (by rfl) aC.g aC.k bC .nil pass0 (pa_cons (pv 1) pa_nil))))) pss_nil)
      (pss_cons (ps_if (pt_val (pe_callB call_isi (by rfl) B.isinstance boot_isi' (pa_cons (pv 0) (pa_cons (tyT (by rfl) B.tuple) pa_nil))))
        (pss_one (ps_ret (pe_callTy call_tuple_of (by rfl) B.tuple boot_tup' (pa_cons (pe_lc (own := [("item", 1)]) (g := gName 1) (tt := tYes) rfl nd (pi_tup (pv 0)) (blkOk_by (own := [("item", 1)]) (N := ["value", "item"]) (sc := defScope sCopied) (by decide +kernel)) (fun _ _ _ _ _ => pg_name (i := 1) nd rfl (Or.inl rfl)) (fun _ _ _ _ _ => pts_nil)
          (fun _ _ _ _ _ => pe_call oR hr (by rfl) aC.g aC.k bC .nil pass0 (pa_cons (pv 1) pa_nil))) pa_nil)))) pss_nil) (pss_one (ps_ret (pv 0)))), ?_⟩
    rcases h with ⟨hf, q⟩ | ⟨hd, p, x, rfl, ⟨hp, q⟩ | ⟨hp, q⟩⟩
    · obtain ⟨t, ty, k1, k2⟩ := hf.ty (K := K) (H := H)
      refine ⟨_, rfl, _, _, _, _, _, rfl, .ty _, ty, k1, _, rfl, ?_⟩
      refine iteF ?_
      refine ⟨_, rfl, _, _, _, _, _, rfl, .ty _, ty, k2, _, rfl, ?_⟩
      exact iteF ⟨_, rfl, q⟩
    · refine ⟨_, rfl, _, _, _, _, _, rfl, .ty _, .base (.tup hp), kit_ty (r := false) (by decide +kernel), _, rfl, ?_⟩
      refine iteF ?_
      refine ⟨_, rfl, _, _, _, _, _, rfl, .ty _, .base (.tup hp), kit_ty (r := true) (by decide +kernel), _, rfl, ?_⟩
      refine iteT ?_
      refine ⟨_, rfl, p, rfl, ⟨_, SqT.of hp⟩, fun D hD => lc_tup (K := K) (a := p) (xs := [.str x]) (fun j H' => Kp [] H H' ∧ ((j = 0 ∧ H' D = some (.lst [])) ∨ (j = 1 ∧ H' D = some (.lst [.str x])))) ⟨Kp.new hD, .inl ⟨rfl, upd_same⟩⟩ (fun j H' _ e => SqT.of (e.1 _ _ (by simp) hp)) (fun j y H' hx => ?_) (fun H' e => ?_)⟩
      · rintro ⟨kp, e⟩
        have keep : ∀ {o : HO}, Kp [] H (upd H' D o) := fun {o} b u nb e => by rw [upd_ne (fun z => by rw [z, hD] at e; cases e)]; exact kp b u nb e
        match j, hx with
        | 0, hx =>
          cases hx
          rcases e with ⟨_, e⟩ | ⟨z, _⟩
          · exact ⟨rfl, _, rfl, hin hd _ _ _ _ (.inr (.inr (.inl ⟨_, rfl⟩))) ⟨[], e, (by show 0 < sizeLine; omega), keep, .inr ⟨rfl, upd_same⟩⟩⟩
          · cases z
        | j + 1, hx => cases hx
      · obtain ⟨kp, ⟨z, _⟩ | ⟨_, e1⟩⟩ := e
        · cases z
        · exact ⟨D, _, rfl, .inl ⟨SqL.of e1, fun t ht => q _ t (kp.trans (Kp.new ht)) upd_same⟩⟩
    · refine ⟨_, rfl, _, _, _, _, _, rfl, .ty _, .base (.lst hp), kit_ty (r := true) (by decide +kernel), _, rfl, ?_⟩
      refine iteT ?_
      refine ⟨_, rfl, p, rfl, ⟨_, SqL.of hp⟩, fun D hD => lc_list (K := K) (a := p) (xs := [.str x]) (fun j H' => Kp [] H H' ∧ ((j = 0 ∧ H' D = some (.lst [])) ∨ (j = 1 ∧ H' D = some (.lst [.str x])))) ⟨Kp.new hD, .inl ⟨rfl, upd_same⟩⟩ (fun j H' _ e => SqL.of (e.1 _ _ (by simp) hp)) (fun j y H' hx => ?_) (fun H' e => ?_)⟩
      · rintro ⟨kp, e⟩
        have keep : ∀ {o : HO}, Kp [] H (upd H' D o) := fun {o} b u nb e => by rw [upd_ne (fun z => by rw [z, hD] at e; cases e)]; exact kp b u nb e
        match j, hx with
        | 0, hx =>
          cases hx
          rcases e with ⟨_, e⟩ | ⟨z, _⟩
          · exact ⟨rfl, _, rfl, hin hd _ _ _ _ (.inr (.inr (.inl ⟨_, rfl⟩))) ⟨[], e, (by show 0 < sizeLine; omega), keep, .inr ⟨rfl, upd_same⟩⟩⟩
          · cases z
        | j + 1, hx => cases hx
      · obtain ⟨kp, ⟨z, _⟩ | ⟨_, e1⟩⟩ := e
        · cases z
        · exact q _ D kp e1
theorem ok_copied {f : Addr} {fd : FuncData} (F : Fun K "copied" "copied" sCopied f fd) (B : Bt mg) (aC : At K mg "copied" f) (bC : Binds K fd ["value"] []) : FnOk P w K mg base CX0 3 f fd ["value"] spCopy := by
  have o0 : FnOk P w K mg base CX0 1 f fd ["value"] (fun _ _ _ _ => False) := ⟨fun _ _ _ _ h => h.elim, fun _ _ _ _ _ _ _ _ _ _ _ _ _ h => h.elim⟩
  have o1 := cp_step F B aC bC False o0 fun z => z.elim
  have o2 := cp_step F B aC bC True o1 fun _ v H Q E h q => ⟨v, rfl, .inl ⟨h, q⟩⟩
  refine o2.imp fun vs H Q E ⟨v, f, e, h, q⟩ => ⟨v, e, ?_⟩
  cases f with
  | non => exact .inl ⟨.inl h, q H v (Kp.refl H) h⟩
  | int i => exact .inl ⟨.inr (.inl ⟨_, h⟩), q H v (Kp.refl H) h⟩
  | bl b => exact .inl ⟨.inr (.inr (.inr ⟨_, h⟩)), q H v (Kp.refl H) h⟩
  | str x => exact .inl ⟨.inr (.inr (.inl ⟨_, h.1⟩)), q H v (Kp.refl H) h⟩
  | tup x =>
    obtain ⟨ok, p, rfl, hp⟩ := h
    exact .inr ⟨True.intro, p, x, rfl, .inl ⟨hp, fun H' q' k e => q H' _ k ⟨ok, q', rfl, e⟩⟩⟩
  | lst x =>
    obtain ⟨ok, p, rfl, hp⟩ := h
    exact .inr ⟨True.intro, p, x, rfl, .inr ⟨hp, fun H' q' k e => q H' _ k ⟨ok, q', rfl, e⟩⟩⟩
end
end My

set_option Elab.async false
set_option linter.all false
set_option maxRecDepth 100000
set_option maxHeartbeats 4000000
/-! Q3: NoName made and raised. -/
namespace My
open PySem PySem.Spec PyProof.Rows L2
/-- C.__init__(self, v): the field f is a copy of v -/
def spIni (K : PySem.W.Frag) (f : Str) : Sp := fun vs H Q _ => ∃ (a C : Addr) (v : V) (fl : Fld), vs = [.ref a, v] ∧ XC K C ∧ PySem.W.findIn K (.ref C) f = some none ∧ H a = some (exo a C none) ∧ FAt H fl v ∧
  ∀ H' dx v', Kp [a] H H' → H dx = none → dx ≠ a → FAt H' fl v' → H' a = some (exo a C (some dx)) → H' dx = some (exd dx [(f, v')]) → Q .non H'
theorem FAt.but {H H' : Hp} {S : List Addr} (s : Kp S H H') (hS : ∀ x ∈ S, ∀ o, H x = some o → ∃ φ, o = .ext φ) : ∀ {f : Fld} {v : V}, FAt H f v → FAt H' f v
  | .non, _, h => h
  | .int _, _, h => h
  | .bl _, _, h => h
  | .str _, _, h => h
  | .tup _, _, ⟨o, p, e, hp⟩ => ⟨o, p, e, s _ _ (fun z => by obtain ⟨φ, w⟩ := hS _ z _ hp; cases w) hp⟩
  | .lst _, _, ⟨o, p, e, hp⟩ => ⟨o, p, e, s _ _ (fun z => by obtain ⟨φ, w⟩ := hS _ z _ hp; cases w) hp⟩
theorem back0 {H H' : Hp} {x : Addr} {S : List Addr} (k : Kp S H H') (hx : x ∉ S) (h : H' x = none) : H x = none := by
  cases e : H x with
  | none => rfl
  | some o => rw [k x o hx e] at h; cases h
/-- a class of errors with one field -/
structure Cl (P : Program) (w : World) (K : PySem.W.Frag) (mg : Str → Option Value) (base : Heap) (x f : Str) (C : Addr) : Prop where
  g : mg x = some (.ref C)
  t : XC K C
  no : PySem.W.findIn K (.ref C) f = some none
  ini : ∃ (fI : Addr) (fd : FuncData), PySem.W.findIn K (.ref C) "__init__" = some (some (.ref fI)) ∧ PySem.W.typeIn K (.ref fI) = some (.type "function") ∧ FnOk P w K mg base CX0 4 fI fd ["self", f] (spIni K f) ∧
    KBn K fd ["self", f] 2 [] (fun us ws => us ++ ws) (fun us ws => us ++ ws) ∧ KBn K fd ["self", f] 1 [f] (fun us ws => us ++ ws) (fun us ws => us ++ ws)
section
variable {P : Program} {w : World} {K : PySem.W.Frag} {mg : Str → Option Value} {base : Heap} {fC : Addr} {dC : FuncData}
theorem fun_kb {x qual : Str} {st : Stmt} {f : Addr} {fd : FuncData} {ps ks : List Str} {n : Nat} {g : {α : Type} → List α → List α → List α} (F : Fun K x qual st f fd) (hg : ∀ {vs zs : List V} {us ws : List Value}, Vals vs us → Vals zs ws → Vals (g vs zs) (g us ws))
    (h : ∀ (kV doc pm : Value) (an : Option Addr) (cdv ct : Value) (us ws : List Value), us.length = n → ws.length = ks.length → bindArgs (PySem.W.fnOf x qual (defArgs st) (defBody st) (defScope st) .none kV doc pm an cdv ct) ⟨us, ks.zip ws⟩ = pure (ps.zip (g us ws))) :
    KBn K fd ps n ks (fun us ws => g us ws) (fun us ws => g us ws) := by
  obtain ⟨oc, od, kV, doc, pm, an, cdv, ct, osl, rfl, lk, hcd⟩ := F.ex
  exact ⟨fun s us ws _ l1 l2 => .of_eq (h kV doc pm an cdv ct us ws l1 l2), fun a b => hg a b⟩
theorem ini_read {H : Hp} {f : Str} {a C : Addr} {v : V} {fl : Fld} {Q : VK} (T : XC K C) (hno : PySem.W.findIn K (.ref C) f = some none) (ha : H a = some (exo a C none)) (hF : FAt H fl v)
    (q : ∀ H' dx v', Kp [a] H H' → H dx = none → dx ≠ a → FAt H' fl v' → H' a = some (exo a C (some dx)) → H' dx = some (exd dx [(f, v')]) → Q .non H') {N : List Str} (hN : start N [.ref a, v] = [some (.ref a), some v]) :
    tXst K f (tVar 0) (tCall (dvs := []) spCopy (E := E0) (tCons (tVar 1) tNil)) { nx := fun _ H' => Q .non H', rt := Q } (start N [.ref a, v]) H := by
  rw [hN]
  refine ⟨_, rfl, v, fl, rfl, hF, fun H1 v' k1 hF1 => ⟨_, rfl, a, C, rfl, T, hno, .inl ⟨k1 _ _ (by simp) ha, fun dx hdx hne => ?_⟩⟩⟩
  have ne : a ≠ dx := hne.symm
  have k2 : Kp [a] H1 (upd (upd H1 dx (exd dx [(f, v')])) a (exo a C (some dx))) := fun b o nb e => by
    rw [upd_ne (fun z => nb (by rw [z]; simp)), upd_ne (ne_of_none e hdx)]
    exact e
  refine q _ dx v' ((k1.mono (by simp)).trans k2) (back0 k1 (by simp) hdx) hne (hF1.but k2 fun x hx o e => ?_) upd_same (by rw [upd_ne hne]; exact upd_same)
  rw [List.mem_singleton.mp hx, k1 _ _ (by simp) ha] at e
  cases e
  exact ⟨_, rfl⟩
abbrev sNoName : Stmt := (inClass (top 5) 0)
theorem scNoName : FnScope ["self", "name"] ["self", "name"] (defScope sNoName) := ⟨rfl, rfl, rfl, by decide +kernel, rfl, by decide +kernel, by decide +kernel⟩
theorem clNoName {C fI : Addr} {fd : FuncData} (F : Fun K "__init__" "NoName.__init__" sNoName fI fd) (FC : Fun K "copied" "copied" sCopied fC dC) (B : Bt mg) (aC : At K mg "copied" fC) (g : mg "NoName" = some (.ref C)) (t : XC K C) (no : PySem.W.findIn K (.ref C) "name" = some none)
    (iC : PySem.W.findIn K (.ref C) "__init__" = some (some (.ref fI))) (tI : PySem.W.typeIn K (.ref fI) = some (.type "function")) : Cl P w K mg base "NoName" "name" C := by
  have bC : Binds K dC ["value"] [] := FC.binds fun _ _ _ _ _ _ us hl => match us, hl with | [_], _ => rfl
  have oC : FnOk P w K mg base CX0 3 fC dC ["value"] spCopy := ok_copied FC B aC bC
  refine ⟨g, t, no, fI, fd, iC, tI, F.ok scNoName (fun vs H Q E h => ?_) (fun cdv A outer s H vs Q E hr h => ?_), fun_kb F (g := fun us ws => us ++ ws) (fun a b => a.append b) (fun _ _ _ _ _ _ us ws h1 h2 => match us, ws, h1, h2 with | [_, _], [], _, _ => rfl),
    fun_kb F (g := fun us ws => us ++ ws) (fun a b => a.append b) (fun _ _ _ _ _ _ us ws h1 h2 => match us, ws, h1, h2 with | [_], [_], _, _ => rfl)⟩
  · obtain ⟨a, C, v, fl, rfl, _⟩ := h
    rfl
  · obtain ⟨a, C, v, fl, rfl, T, hno, ha, hF, q⟩ := h
    exact ⟨_, pss_one (ps_xst (pv 0) (pe_call oC hr (by rfl) aC.g aC.k bC .nil pass0 (pa_cons (pv 1) pa_nil))), ini_read T hno ha hF q rfl⟩
end
/-- raise C(x) in the heap H1, H the entry's -/
theorem raise_read {CE : Addr} {H H1 : Hp} {E : XK} {f : Str} {fl : Fld} {x : V} {Kf : PySem.W.Frag} (t : XC Kf CE) (no : PySem.W.findIn Kf (.ref CE) f = some none) (hB : ∀ H' dd v, Kp [] H H' → H dd = none → H' dd = some (.xd [(f, v)]) → FAt H' fl v → E (.ref CE) (some dd) H') (k1 : Kp [] H H1)
    (hx : FAt H1 fl x) (a : Addr) (na : H1 a = none) :
    spIni Kf f [.ref a, x] (upd H1 a (exo a CE none)) (fun v H2 => v = .non ∧ ∃ (d : Addr) (fs : List (Str × V)), H2 a = some (exo a CE (some d)) ∧ H2 d = some (exd d fs) ∧ H1 d = none ∧ E (.ref CE) (some d) (upd (del H2 a) d (.xd fs))) (fun _ _ _ => False) := by
  refine ⟨a, CE, _, fl, rfl, t, no, upd_same, hx.same (Kp.new na), fun H2 dx v' k2 hd0 hda hF2 ha hd => ⟨rfl, dx, _, ha, hd, ?_, ?_⟩⟩
  · rw [upd_ne hda] at hd0; exact hd0
  · have hd1 : H1 dx = none := by rw [upd_ne hda] at hd0; exact hd0
    refine hB _ dx v' (fun c o _ e => ?_) (back0 k1 (by simp) hd1) upd_same (hF2.but (S := [a, dx]) (fun c o nc e => ?_) fun c hc o e => ?_)
    · have e1 := k1 c o (by simp) e
      have nca : c ≠ a := ne_of_none e1 na
      have ncd : c ≠ dx := ne_of_none e1 hd1
      rw [upd_ne ncd, del_ne nca]
      exact k2 c o (fun m => nca (List.mem_singleton.mp m)) (by rw [upd_ne nca]; exact e1)
    · have nca : c ≠ a := fun z => nc (by rw [z]; simp)
      have ncd : c ≠ dx := fun z => nc (by rw [z]; simp)
      rw [upd_ne ncd, del_ne nca]; exact e
    · simp only [List.mem_cons, List.mem_nil_iff, or_false] at hc
      rcases hc with rfl | rfl
      · rw [ha] at e; cases e; exact ⟨_, rfl⟩
      · rw [hd] at e; cases e; exact ⟨_, rfl⟩
end My

set_option Elab.async false
set_option linter.all false
set_option maxRecDepth 100000
set_option maxHeartbeats 4000000
/-! Q4: a desk on which cells alone stand: its floor. -/
namespace My
open PySem PySem.Spec PyProof.Rows L2
/-! what is never reached -/
def tDeadE : TE := fun _ _ _ => False
def tDeadT : TT := fun _ _ _ => False
def tDeadS : TS := fun _ _ _ => False
theorem pe_dead {X : Cx} {e : Expr} : PE X e tDeadE := ⟨fun _ _ _ _ _ _ h => (show False from h).elim⟩
theorem pt_dead {X : Cx} {e : Expr} : PT X e tDeadT := ⟨fun _ _ _ _ _ _ h => (show False from h).elim⟩
theorem pss_dead {X : Cx} {st : List Stmt} : PSs X st tDeadS := ⟨fun _ _ _ _ _ _ h => (show False from h).elim⟩
structure MO (P : Program) (w : World) (K : PySem.W.Frag) (mg : Str → Option Value) (base : Heap) (C : Addr) (m : Str) (k : Nat) (ps : List Str) (sp : Sp) (f : Addr) (fd : FuncData) : Prop where
  m : Meth K C m f
  b : Binds K fd ps []
  o : FnOk P w K mg base CX0 k f fd ps sp
/-- the classes of floors, desks and cells -/
structure FlT (K : PySem.W.Frag) (C : Addr) : Prop where
  cl : Cls K C
  no : ∀ f ∈ (["most_runs", "names", "cells", "sources", "effects", "log", "inmost", "batches", "turned"] : List Str), NoAttr K C f
structure DkT (K : PySem.W.Frag) (C : Addr) : Prop where
  cl : Cls K C
  no : NoAttr K C "_floor"
  con : ∃ u, Con K C "MOST_RUNS" (.int 100) u
structure CeT (K : PySem.W.Frag) (C : Addr) : Prop where
  cl : Cls K C
  no : ∀ f ∈ (["name", "_floor", "_now"] : List Str), NoAttr K C f
structure DA where
  d : Addr
  dx : Addr
  f : Addr
  fx : Addr
  nD : Addr
  cD : Addr
  sD : Addr
  eL : Addr
  lL : Addr
def floorF (nD cD sD eL lL tD : Addr) : List (Str × V) := [("most_runs", .int 100), ("names", .ref nD), ("cells", .ref cD), ("sources", .ref sD), ("effects", .ref eL), ("log", .ref lL), ("inmost", .non), ("batches", .int 0), ("turned", .ref tD)]
def cellF (z : Str) (f : Addr) (v : Int) : List (Str × V) := [("name", .str z), ("_floor", .ref f), ("_now", .int v)]
/-- a field that is set to a new object -/
theorem fstep {H Hk : Hp} {f fx p C : Addr} {fs : List (Str × V)} (fs' : List (Str × V)) (o : HO) (ok : Hk f = some (.ins C fx fs)) (kk : Kp [f] H Hk) (hp : Hk p = none) :
    upd Hk p o f = some (.ins C fx fs) ∧ ∃ H', upd (upd Hk p o) f (.ins C fx fs') = H' ∧ H' f = some (.ins C fx fs') ∧ Kp [f] H H' ∧ H' p = some o ∧ H p = none ∧ p ≠ f ∧ ∀ q u, q ≠ f → Hk q = some u → H' q = some u ∧ q ≠ p := by
  have ne : f ≠ p := ne_of_none ok hp
  have h0 : H p = none := by
    cases e : H p with
    | none => rfl
    | some u =>
      have := kk p u (fun z => ne (List.mem_singleton.mp z).symm) e
      rw [hp] at this; cases this
  refine ⟨by rw [upd_ne ne]; exact ok, _, rfl, upd_same, fun q u nq e => ?_, by rw [upd_ne ne.symm]; exact upd_same, h0, ne.symm, fun q u nq e => ?_⟩
  · have e1 := kk q u nq e
    rw [upd_ne (fun z => nq (by rw [z]; simp)), upd_ne (ne_of_none e1 hp)]
    exact e1
  · have n2 : q ≠ p := ne_of_none e hp
    exact ⟨by rw [upd_ne nq, upd_ne n2]; exact e, n2⟩
/-- a field that is set to what is no new object -/
theorem gstep {H Hk : Hp} {f fx C : Addr} {fs : List (Str × V)} (fs' : List (Str × V)) (kk : Kp [f] H Hk) (_ok : Hk f = some (.ins C fx fs)) :
    ∃ H', upd Hk f (.ins C fx fs') = H' ∧ H' f = some (.ins C fx fs') ∧ Kp [f] H H' ∧ ∀ q u, q ≠ f → Hk q = some u → H' q = some u := by
  refine ⟨_, rfl, upd_same, fun q u nq e => ?_, fun q u nq e => ?_⟩
  · rw [upd_ne (fun z => nq (by rw [z]; simp))]; exact kk q u nq e
  · rw [upd_ne nq]; exact e
section
variable {P : Program} {w : World} {K : PySem.W.Frag} {mg : Str → Option Value} {base : Heap} {FC DC CC : Addr}
abbrev sInitF : Stmt := (inClass (top 12) 0)
theorem scInitF : FnScope ["self", "most_runs"] ["self", "most_runs"] (defScope sInitF) := ⟨rfl, rfl, rfl, by decide +kernel, rfl, by decide +kernel, by decide +kernel⟩
def spInitF (FC : Addr) : Sp := fun vs H Q _ => ∃ (f fx : Addr), vs = [.ref f, .int 100] ∧ H f = some (.ins FC fx []) ∧ ∀ H' nD cD sD eL lL tD, Kp [f] H H' → (∀ x ∈ [nD, cD, sD, eL, lL, tD], H x = none) → [f, nD, cD, sD, eL, lL, tD].Nodup →
  H' f = some (.ins FC fx (floorF nD cD sD eL lL tD)) → H' nD = some (.dK []) → H' cD = some (.dK []) → H' sD = some (.dK []) → H' eL = some (.lst []) → H' lL = some (.lst []) → H' tD = some (.dK []) → Q .non H'
theorem ok_initF {f : Addr} {fd : FuncData} (F : Fun K "__init__" "Floor.__init__" sInitF f fd) (T : FlT K FC) : FnOk P w K mg base CX0 1 f fd ["self", "most_runs"] (spInitF FC) := by
  refine F.ok scInitF (fun vs H Q E h => ?_) (fun cdv A outer s H vs Q E hr h => ?_)
  · obtain ⟨f, fx, rfl, _⟩ := h
    rfl
  · obtain ⟨f, fx, rfl, hf, k⟩ := h
    have nd := scInitF.nd
    have hsl := sizeLine_eq
    refine ⟨_, pss_cons (ps_fld (pv 0) (pv 1) rfl) (pss_cons (ps_fld (pv 0) pe_dnewK rfl) (pss_cons (ps_fld (pv 0) pe_dnewK rfl) (pss_cons (ps_fld (pv 0) pe_dnewK rfl) (pss_cons (ps_fld (pv 0) (pe_lst pa_nil) rfl) (pss_cons (ps_fld (pv 0) (pe_lst pa_nil) rfl)
      (pss_cons (ps_fld (pv 0) pe_non rfl) (pss_cons (ps_fld (pv 0) pe_int rfl) (pss_one (ps_fld (pv 0) pe_dnewK rfl))))))))), ?_⟩
    refine ⟨_, rfl, _, rfl, f, FC, fx, _, rfl, hf, T.cl, T.no _ (by simp), (by show 0 < 1000; decide), ?_⟩
    obtain ⟨H1, e1, o1, k1, _⟩ := gstep (H := H) (putF "most_runs" (.int 100) []) (Kp.refl H) hf
    rw [e1]
    intro nD hn
    obtain ⟨o1', H2, e2, o2, k2, n2, fn, nf, st2⟩ := fstep (putF "names" (.ref nD) (putF "most_runs" (.int 100) [])) (.dK []) o1 k1 hn
    refine ⟨_, rfl, f, FC, fx, _, rfl, o1', T.cl, T.no _ (by simp), (by show 1 < 1000; decide), ?_⟩
    rw [e2]
    intro cD hc
    obtain ⟨o2', H3, e3, o3, k3, n3, fc, cf, st3⟩ := fstep (putF "cells" (.ref cD) (putF "names" (.ref nD) (putF "most_runs" (.int 100) []))) (.dK []) o2 k2 hc
    refine ⟨_, rfl, f, FC, fx, _, rfl, o2', T.cl, T.no _ (by simp), (by show 2 < 1000; decide), ?_⟩
    rw [e3]
    intro sD hs
    obtain ⟨o3', H4, e4, o4, k4, n4, fs, sf, st4⟩ := fstep (putF "sources" (.ref sD) (putF "cells" (.ref cD) (putF "names" (.ref nD) (putF "most_runs" (.int 100) [])))) (.dK []) o3 k3 hs
    refine ⟨_, rfl, f, FC, fx, _, rfl, o3', T.cl, T.no _ (by simp), (by show 3 < 1000; decide), ?_⟩
    rw [e4]
    refine ⟨(by show 0 ≤ sizeLine; omega), fun eL he => ?_⟩
    obtain ⟨o4', H5, e5, o5, k5, n5, fe, ef, st5⟩ := fstep (putF "effects" (.ref eL) (putF "sources" (.ref sD) (putF "cells" (.ref cD) (putF "names" (.ref nD) (putF "most_runs" (.int 100) []))))) (.lst []) o4 k4 he
    refine ⟨_, rfl, f, FC, fx, _, rfl, o4', T.cl, T.no _ (by simp), (by show 4 < 1000; decide), ?_⟩
    rw [e5]
    refine ⟨(by show 0 ≤ sizeLine; omega), fun lL hl => ?_⟩
    obtain ⟨o5', H6, e6, o6, k6, n6, fl, lf, st6⟩ := fstep (putF "log" (.ref lL) (putF "effects" (.ref eL) (putF "sources" (.ref sD) (putF "cells" (.ref cD) (putF "names" (.ref nD) (putF "most_runs" (.int 100) [])))))) (.lst []) o5 k5 hl
    refine ⟨_, rfl, f, FC, fx, _, rfl, o5', T.cl, T.no _ (by simp), (by show 5 < 1000; decide), ?_⟩
    rw [e6]
    refine ⟨_, rfl, f, FC, fx, _, rfl, o6, T.cl, T.no _ (by simp), (by show 6 < 1000; decide), ?_⟩
    obtain ⟨H7, e7, o7, k7, st7⟩ := gstep (putF "inmost" .non (putF "log" (.ref lL) (putF "effects" (.ref eL) (putF "sources" (.ref sD) (putF "cells" (.ref cD) (putF "names" (.ref nD) (putF "most_runs" (.int 100) []))))))) k6 o6
    rw [e7]
    refine ⟨_, rfl, f, FC, fx, _, rfl, o7, T.cl, T.no _ (by simp), (by show 7 < 1000; decide), ?_⟩
    obtain ⟨H8, e8, o8, k8, st8⟩ := gstep (putF "batches" (.int 0) (putF "inmost" .non (putF "log" (.ref lL) (putF "effects" (.ref eL) (putF "sources" (.ref sD) (putF "cells" (.ref cD) (putF "names" (.ref nD) (putF "most_runs" (.int 100) [])))))))) k7 o7
    rw [e8]
    intro tD ht
    obtain ⟨o8', H9, e9, o9, k9, n9, ft, tf, st9⟩ := fstep (putF "turned" (.ref tD) (putF "batches" (.int 0) (putF "inmost" .non (putF "log" (.ref lL) (putF "effects" (.ref eL) (putF "sources" (.ref sD) (putF "cells" (.ref cD) (putF "names" (.ref nD) (putF "most_runs" (.int 100) []))))))))) (.dK []) o8 k8 ht
    refine ⟨_, rfl, f, FC, fx, _, rfl, o8', T.cl, T.no _ (by simp), (by show 8 < 1000; decide), ?_⟩
    rw [e9]
    have a3 := st3 nD _ nf n2
    have a4 := st4 nD _ nf a3.1
    have a5 := st5 nD _ nf a4.1
    have a6 := st6 nD _ nf a5.1
    have a9 := st9 nD _ nf (st8 _ _ nf (st7 _ _ nf a6.1))
    have b4 := st4 cD _ cf n3
    have b5 := st5 cD _ cf b4.1
    have b6 := st6 cD _ cf b5.1
    have b9 := st9 cD _ cf (st8 _ _ cf (st7 _ _ cf b6.1))
    have c5 := st5 sD _ sf n4
    have c6 := st6 sD _ sf c5.1
    have c9 := st9 sD _ sf (st8 _ _ sf (st7 _ _ sf c6.1))
    have d6 := st6 eL _ ef n5
    have d9 := st9 eL _ ef (st8 _ _ ef (st7 _ _ ef d6.1))
    have g9 := st9 lL _ lf (st8 _ _ lf (st7 _ _ lf n6))
    refine k H9 nD cD sD eL lL tD k9 (fun x hx => ?_) ?_ o9 a9.1 b9.1 c9.1 d9.1 g9.1 n9
    · simp only [List.mem_cons, List.mem_nil_iff, or_false] at hx
      rcases hx with rfl | rfl | rfl | rfl | rfl | rfl
      · exact fn
      · exact fc
      · exact fs
      · exact fe
      · exact fl
      · exact ft
    · simp only [List.nodup_cons, List.mem_cons, List.mem_nil_iff, or_false, not_or, List.nodup_nil, and_true, not_false_eq_true]
      exact ⟨⟨nf.symm, cf.symm, sf.symm, ef.symm, lf.symm, tf.symm⟩, ⟨a3.2, a4.2, a5.2, a6.2, a9.2⟩, ⟨b4.2, b5.2, b6.2, b9.2⟩, ⟨c5.2, c6.2, c9.2⟩, ⟨d6.2, d9.2⟩, g9.2⟩
abbrev sPlace : Stmt := (inClass (top 12) 2)
theorem scPlace : FnScope ["self"] ["self"] (defScope sPlace) := ⟨rfl, rfl, rfl, by decide +kernel, rfl, by decide +kernel, by decide +kernel⟩
def spPlace (FC : Addr) : Sp := fun vs H Q _ => ∃ (f fx : Addr) (fs : List (Str × V)), vs = [.ref f] ∧ H f = some (.ins FC fx fs) ∧ fs.lookup ("inmost" : Str) = some V.non ∧ Q .non H
theorem ok_place {f : Addr} {fd : FuncData} (F : Fun K "check_place" "Floor.check_place" sPlace f fd) (T : FlT K FC) : FnOk P w K mg base CX0 1 f fd ["self"] (spPlace FC) := by
  refine F.ok scPlace (fun vs H Q E h => ?_) (fun cdv A outer s H vs Q E hr h => ?_)
  · obtain ⟨f, fx, fs, rfl, _⟩ := h
    rfl
  · obtain ⟨f, fx, fs, rfl, hf, hl, q⟩ := h
    refine ⟨_, pss_one (ps_if (pw_and (pt_cmp (pc_notN (pe_fld (pv 0) rfl))) (pw_and1 pt_dead)).pt pss_dead pss_nil), ?_⟩
    exact ⟨_, rfl, f, FC, fx, fs, _, rfl, hf, T.cl, T.no _ (by simp), hl, _, rfl, iteF (iteF q)⟩
abbrev sNote : Stmt := (inClass (top 12) 8)
theorem scNote : FnScope ["self", "name", "worth", "run"] ["self", "name", "worth"] (defScope sNote) := ⟨rfl, rfl, rfl, by decide +kernel, rfl, by decide +kernel, by decide +kernel⟩
def spNote (FC : Addr) : Sp := fun vs H Q _ => ∃ (f fx : Addr) (fs : List (Str × V)) (x y : V), vs = [.ref f, x, y] ∧ H f = some (.ins FC fx fs) ∧ fs.lookup ("inmost" : Str) = some V.non ∧ Q .non H
theorem ok_note {f : Addr} {fd : FuncData} (F : Fun K "note" "Floor.note" sNote f fd) (T : FlT K FC) : FnOk P w K mg base CX0 1 f fd ["self", "name", "worth"] (spNote FC) := by
  refine F.ok scNote (fun vs H Q E h => ?_) (fun cdv A outer s H vs Q E hr h => ?_)
  · obtain ⟨f, fx, fs, x, y, rfl, _⟩ := h
    rfl
  · obtain ⟨f, fx, fs, x, y, rfl, hf, hl, q⟩ := h
    have nd := scNote.nd
    refine ⟨_, pss_cons (ps_set (i := 3) nd rfl (Or.inl rfl) (pe_fld (pv 0) rfl)) (pss_one (ps_if (pw_and (pt_cmp (pc_notN (pv 3))) (pw_and1 pt_dead)).pt pss_dead pss_nil)), ?_⟩
    exact ⟨_, rfl, f, FC, fx, fs, _, rfl, hf, T.cl, T.no _ (by simp), hl, _, rfl, _, rfl, iteF (iteF q)⟩
abbrev sTakeN : Stmt := (inClass (top 12) 1)
theorem scTakeN : FnScope ["self", "name"] ["self", "name"] (defScope sTakeN) := ⟨rfl, rfl, rfl, by decide +kernel, rfl, by decide +kernel, by decide +kernel⟩
def spTakeN (FC : Addr) : Sp := fun vs H Q _ => ∃ (f fx nD : Addr) (fs : List (Str × V)) (z : Str) (kvs : List (Key × V)), vs = [.ref f, .str z] ∧ H f = some (.ins FC fx fs) ∧ fs.lookup ("names" : Str) = some (V.ref nD) ∧ H nD = some (.dK kvs) ∧ valV kvs (Sum.inr z) = none ∧ kvs.length < 1000 ∧ Q .non (upd H nD (.dK (putK kvs (Sum.inr z) (.bl true))))
theorem ok_takeN {f : Addr} {fd : FuncData} (F : Fun K "take_name" "Floor.take_name" sTakeN f fd) (T : FlT K FC) : FnOk P w K mg base CX0 1 f fd ["self", "name"] (spTakeN FC) := by
  refine F.ok scTakeN (fun vs H Q E h => ?_) (fun cdv A outer s H vs Q E hr h => ?_)
  · obtain ⟨f, fx, nD, fs, z, kvs, rfl, _⟩ := h
    rfl
  · obtain ⟨f, fx, nD, fs, z, kvs, rfl, hf, hl, hn, hv, hz, q⟩ := h
    have hu := hu_of hr
    have hsl := sizeLine_eq
    refine ⟨_, pss_cons (ps_if (pt_cmp (pc_din hu (pv 1) (pe_fld (pv 0) rfl))) pss_dead pss_nil) (pss_one (ps_dput hu (pe_fld (pv 0) rfl) (pv 1) pe_bl rfl)), ?_⟩
    refine ⟨_, rfl, _, rfl, f, FC, fx, fs, _, rfl, hf, T.cl, T.no _ (by simp), hl, nD, _, rfl, DGet.k (k := Sum.inr z) hn, _, rfl, ?_⟩
    rw [hv]
    refine iteF ?_
    exact ⟨_, rfl, f, FC, fx, fs, _, rfl, hf, T.cl, T.no _ (by simp), hl, _, rfl, nD, _, rfl, DPut.k (k := Sum.inr z) hn (by omega), q⟩
abbrev sDue : Stmt := (inClass (top 12) 11)
theorem scDue : FnScope ["self", "effect"] ["self"] (defScope sDue) := ⟨rfl, rfl, rfl, by decide +kernel, rfl, by decide +kernel, by decide +kernel⟩
def spDue (FC : Addr) : Sp := fun vs H Q _ => ∃ (f fx eL : Addr) (fs : List (Str × V)), vs = [.ref f] ∧ H f = some (.ins FC fx fs) ∧ fs.lookup ("effects" : Str) = some (V.ref eL) ∧ H eL = some (.lst []) ∧ ∀ q, H q = none → Q (.ref q) (upd H q (.lst []))
theorem ok_due {f : Addr} {fd : FuncData} (F : Fun K "_due" "Floor._due" sDue f fd) (T : FlT K FC) : FnOk P w K mg base CX0 1 f fd ["self"] (spDue FC) := by
  refine F.ok scDue (fun vs H Q E h => ?_) (fun cdv A outer s H vs Q E hr h => ?_)
  · obtain ⟨f, fx, eL, fs, rfl, _⟩ := h
    rfl
  · obtain ⟨f, fx, eL, fs, rfl, hf, hl, he, q⟩ := h
    have nd := scDue.nd
    refine ⟨_, pss_one (ps_ret (pe_lc (own := [("effect", 1)]) (g := gName 1) rfl nd (pi_list (pe_fld (pv 0) rfl)) (blkOk_by (own := [("effect", 1)]) (N := ["self", "effect"]) (sc := defScope sDue) (by decide +kernel)) (fun _ _ _ _ _ => pg_name (i := 1) nd rfl (Or.inl rfl)) (fun _ _ _ _ _ => pts_one pt_dead) (fun _ _ _ _ _ => pe_dead))), ?_⟩
    refine ⟨_, rfl, f, FC, fx, fs, _, rfl, hf, T.cl, T.no _ (by simp), hl, eL, rfl, ⟨_, SqL.of he⟩, fun D hD => lc_list (K := K) (a := eL) (xs := []) (fun _ H' => H' = upd H D (.lst [])) rfl (fun _ H' _ e => ?_) (fun i x H' hx => ?_) (fun H' e => ?_)⟩
    · rw [e]; exact SqL.of (by rw [upd_ne (ne_of_none he hD)]; exact he)
    · cases hx
    · rw [e]; exact q D hD
abbrev sSettle : Stmt := (inClass (top 12) 10)
theorem scSettle : FnScope ["self", "many", "due"] ["self"] (defScope sSettle) := ⟨rfl, rfl, rfl, by decide +kernel, rfl, by decide +kernel, by decide +kernel⟩
def spSettle (FC : Addr) : Sp := fun vs H Q _ => ∃ (f fx nD cD sD eL lL t0 : Addr), vs = [.ref f] ∧ H f = some (.ins FC fx (floorF nD cD sD eL lL t0)) ∧ H eL = some (.lst []) ∧ ∀ H' tD, Kp [f] H H' → H tD = none → H' f = some (.ins FC fx (floorF nD cD sD eL lL tD)) → H' tD = some (.dK []) → Q .non H'
theorem ok_settle {f fU : Addr} {fd dU : FuncData} (F : Fun K "settle" "Floor.settle" sSettle f fd) (T : FlT K FC) (MU : MO P w K mg base FC "_due" 1 ["self"] (spDue FC) fU dU) : FnOk P w K mg base CX0 2 f fd ["self"] (spSettle FC) := by
  refine F.ok scSettle (fun vs H Q E h => ?_) (fun cdv A outer s H vs Q E hr h => ?_)
  · obtain ⟨f, fx, nD, cD, sD, eL, lL, t0, rfl, _⟩ := h
    rfl
  · obtain ⟨f, fx, nD, cD, sD, eL, lL, t0, rfl, hf, he, k⟩ := h
    have nd := scSettle.nd
    refine ⟨_, pss_cons (ps_if (pw_or (pt_cmp (pc_notN (pe_fld (pv 0) rfl))) (pw_or1 (pt_cmpR op_gt (pe_fld (pv 0) rfl) pe_int (nomark _)))).pt (pss_one ps_retN) pss_nil)
      (pss_cons (ps_fld (pv 0) pe_dnewK rfl) (pss_cons (ps_set (i := 1) nd rfl (Or.inl rfl) pe_int)
      (pss_cons (ps_set (i := 2) nd rfl (Or.inl rfl) (pe_meth0 (pv 0) T.cl MU.m MU.o hr MU.b .nil pass0)) (pss_one (ps_while PassesOwn.never (pt_truth (pv 2) (fun _ => rfl)) pss_dead))))), ?_⟩
    refine ⟨_, rfl, f, FC, fx, _, _, rfl, hf, T.cl, T.no _ (by simp), rfl, _, rfl, iteF ?_⟩
    refine ⟨_, rfl, f, FC, fx, _, _, rfl, hf, T.cl, T.no _ (by simp), rfl, _, _, rfl, rfl, _, rfl, iteF ?_⟩
    intro tD ht
    obtain ⟨o1, H1, e1, o2, k1, n1, ft, tf, st⟩ := fstep (floorF nD cD sD eL lL tD) (.dK []) hf (Kp.refl H) ht
    refine ⟨_, rfl, f, FC, fx, _, rfl, o1, T.cl, T.no _ (by simp), (by show 9 < 1000; decide), ?_⟩
    have e1' : upd (upd H tD (.dK [])) f (.ins FC fx (putF "turned" (.ref tD) (floorF nD cD sD eL lL t0))) = H1 := e1
    rw [e1']
    have nef : eL ≠ f := fun z => by rw [z, hf] at he; cases he
    have he1 := (st eL _ nef he).1
    refine ⟨_, rfl, f, _, _, rfl, o2, rfl, f, fx, eL, _, rfl, o2, rfl, he1, fun q hq => ?_⟩
    refine ⟨fun m σ' H' => σ' = [some (.ref f), some (.int 0), some (.ref q)] ∧ H' = upd H1 q (.lst []), ⟨0, rfl, rfl⟩, ?_⟩
    rintro m σ' H' ⟨rfl, rfl⟩
    refine ⟨_, rfl, false, .inl ⟨[], SqL.of upd_same, rfl⟩, iteF ?_⟩
    refine k _ tD (k1.trans (Kp.new hq)) ft ?_ ?_
    · rw [upd_ne (ne_of_none o2 hq)]; exact o2
    · rw [upd_ne (ne_of_none n1 hq)]; exact n1
end
end My

set_option Elab.async false
set_option linter.all false
set_option maxRecDepth 100000
set_option maxHeartbeats 4000000
/-! Q5: cells and their desk. -/
namespace My
open PySem PySem.Spec PyProof.Rows L2
/-- a cell: its name, its place, its own dict, its value -/
structure Ce where
  z : Str
  a : Addr
  ax : Addr
  v : Int
def namesT (cs : List Ce) : List (Key × V) := cs.map fun c => (Sum.inr c.z, V.bl true)
def cellsT (cs : List Ce) : List (Key × V) := cs.map fun c => (Sum.inr c.z, V.ref c.a)
theorem valV_names (cs : List Ce) (z : Str) : (valV (namesT cs) (Sum.inr z)).isSome = decide (z ∈ cs.map Ce.z) := by
  induction cs with
  | nil => rfl
  | cons c r ih =>
    by_cases e : c.z = z
    · have : valV (namesT (c :: r)) (Sum.inr z) = some (.bl true) := valV_pos (p := (Sum.inr c.z, V.bl true)) (by rw [e])
      rw [this, decide_eq_true (by rw [← e]; simp)]
      rfl
    · have ne : ¬ (Sum.inr c.z : Key) = Sum.inr z := fun q => e (Sum.inr.inj q)
      have : valV (namesT (c :: r)) (Sum.inr z) = valV (namesT r) (Sum.inr z) := valV_neg (p := (Sum.inr c.z, V.bl true)) ne
      rw [this, ih]
      have e2 : ¬ z = c.z := fun q => e q.symm
      simp [e2]
theorem valV_cells (cs : List Ce) (z : Str) : (valV (cellsT cs) (Sum.inr z)).isSome = decide (z ∈ cs.map Ce.z) := by
  induction cs with
  | nil => rfl
  | cons c r ih =>
    by_cases e : c.z = z
    · have : valV (cellsT (c :: r)) (Sum.inr z) = some (.ref c.a) := valV_pos (p := (Sum.inr c.z, V.ref c.a)) (by rw [e])
      rw [this, decide_eq_true (by rw [← e]; simp)]
      rfl
    · have ne : ¬ (Sum.inr c.z : Key) = Sum.inr z := fun q => e (Sum.inr.inj q)
      have : valV (cellsT (c :: r)) (Sum.inr z) = valV (cellsT r) (Sum.inr z) := valV_neg (p := (Sum.inr c.z, V.ref c.a)) ne
      rw [this, ih]
      have e2 : ¬ z = c.z := fun q => e q.symm
      simp [e2]
theorem valV_cell {cs : List Ce} {c : Ce} (h : c ∈ cs) (nd : (cs.map Ce.z).Nodup) : valV (cellsT cs) (Sum.inr c.z) = some (.ref c.a) := by
  induction cs with
  | nil => cases h
  | cons b r ih =>
    rw [List.map_cons, List.nodup_cons] at nd
    rcases List.mem_cons.mp h with rfl | h
    · exact valV_pos (p := (Sum.inr c.z, V.ref c.a)) rfl
    · have e : ¬ b.z = c.z := fun q => nd.1 (by rw [q]; exact List.mem_map_of_mem h)
      have ne : ¬ (Sum.inr b.z : Key) = Sum.inr c.z := fun q => e (Sum.inr.inj q)
      show valV ((Sum.inr b.z, V.ref b.a) :: cellsT r) (Sum.inr c.z) = _
      rw [valV_neg ne]
      exact ih h nd.2
theorem valV_out {T : List Ce → List (Key × V)} {cs : List Ce} {z : Str} (hT : (valV (T cs) (Sum.inr z)).isSome = decide (z ∈ cs.map Ce.z)) (h : z ∉ cs.map Ce.z) : valV (T cs) (Sum.inr z) = none := by
  rw [decide_eq_false h] at hT
  cases e : valV (T cs) (Sum.inr z) with
  | none => rfl
  | some x => rw [e] at hT; cases hT
/-- the desk as it stands -/
structure DeskAt (FC DC CC : Addr) (H : Hp) (D : DA) (tD : Addr) (cs : List Ce) : Prop where
  desk : H D.d = some (.ins DC D.dx [("_floor", .ref D.f)])
  floor : H D.f = some (.ins FC D.fx (floorF D.nD D.cD D.sD D.eL D.lL tD))
  names : H D.nD = some (.dK (namesT cs))
  cells : H D.cD = some (.dK (cellsT cs))
  sources : H D.sD = some (.dK (cellsT cs))
  eff : H D.eL = some (.lst [])
  log : H D.lL = some (.lst [])
  turned : H tD = some (.dK [])
  nd : [D.d, D.f, D.nD, D.cD, D.sD, D.eL, D.lL, tD].Nodup
  cell : ∀ c ∈ cs, H c.a = some (.ins CC c.ax (cellF c.z D.f c.v)) ∧ c.a ∉ [D.d, D.f, D.nD, D.cD, D.sD, D.eL, D.lL, tD]
  zs : (cs.map Ce.z).Nodup
  as : (cs.map Ce.a).Nodup
  len : cs.length ≤ 100
def foot (D : DA) (tD : Addr) (cs : List Ce) : List Addr := [D.d, D.f, D.nD, D.cD, D.sD, D.eL, D.lL, tD] ++ cs.map Ce.a
theorem DeskAt.kp {FC DC CC : Addr} {S : List Addr} {H H' : Hp} {D : DA} {tD : Addr} {cs : List Ce} (h : DeskAt FC DC CC H D tD cs) (k : Kp S H H') (n : ∀ x ∈ foot D tD cs, x ∉ S) : DeskAt FC DC CC H' D tD cs := by
  have m : ∀ x ∈ [D.d, D.f, D.nD, D.cD, D.sD, D.eL, D.lL, tD], x ∉ S := fun x hx => n x (List.mem_append_left _ hx)
  exact ⟨k _ _ (m _ (by simp)) h.desk, k _ _ (m _ (by simp)) h.floor, k _ _ (m _ (by simp)) h.names, k _ _ (m _ (by simp)) h.cells, k _ _ (m _ (by simp)) h.sources, k _ _ (m _ (by simp)) h.eff, k _ _ (m _ (by simp)) h.log, k _ _ (m _ (by simp)) h.turned, h.nd,
    fun c hc => ⟨k _ _ (n _ (List.mem_append_right _ (List.mem_map_of_mem hc))) (h.cell c hc).1, (h.cell c hc).2⟩, h.zs, h.as, h.len⟩
theorem DeskAt.there {FC DC CC : Addr} {H : Hp} {D : DA} {tD : Addr} {cs : List Ce} (h : DeskAt FC DC CC H D tD cs) : ∀ x ∈ foot D tD cs, ∃ o, H x = some o := by
  intro x hx
  rcases List.mem_append.mp hx with hx | hx
  · simp only [List.mem_cons, List.mem_nil_iff, or_false] at hx
    rcases hx with rfl | rfl | rfl | rfl | rfl | rfl | rfl | rfl
    · exact ⟨_, h.desk⟩
    · exact ⟨_, h.floor⟩
    · exact ⟨_, h.names⟩
    · exact ⟨_, h.cells⟩
    · exact ⟨_, h.sources⟩
    · exact ⟨_, h.eff⟩
    · exact ⟨_, h.log⟩
    · exact ⟨_, h.turned⟩
  · obtain ⟨c, hc, rfl⟩ := List.mem_map.mp hx
    exact ⟨_, (h.cell c hc).1⟩
section
variable {P : Program} {w : World} {K : PySem.W.Frag} {mg : Str → Option Value} {base : Heap} {FC DC CC : Addr}
abbrev sInitC : Stmt := (inClass (top 15) 0)
theorem scInitC : FnScope ["self", "floor", "name", "value"] ["self", "floor", "name", "value"] (defScope sInitC) := ⟨rfl, rfl, rfl, by decide +kernel, rfl, by decide +kernel, by decide +kernel⟩
def spInitC (CC : Addr) : Sp := fun vs H Q _ => ∃ (a ax f : Addr) (z : Str) (v : Int), vs = [.ref a, .ref f, .str z, .int v] ∧ H a = some (.ins CC ax []) ∧ Q .non (upd H a (.ins CC ax (cellF z f v)))
theorem ok_initC {f : Addr} {fd : FuncData} (F : Fun K "__init__" "Cell.__init__" sInitC f fd) (T : CeT K CC) : FnOk P w K mg base CX0 1 f fd ["self", "floor", "name", "value"] (spInitC CC) := by
  refine F.ok scInitC (fun vs H Q E h => ?_) (fun cdv A outer s H vs Q E hr h => ?_)
  · obtain ⟨a, ax, f, z, v, rfl, _⟩ := h
    rfl
  · obtain ⟨a, ax, f, z, v, rfl, ha, q⟩ := h
    refine ⟨_, pss_cons (ps_fld (pv 0) (pv 2) rfl) (pss_cons (ps_fld (pv 0) (pv 1) rfl) (pss_one (ps_fld (pv 0) (pv 3) rfl))), ?_⟩
    refine ⟨_, rfl, _, rfl, a, CC, ax, _, rfl, ha, T.cl, T.no _ (by simp), (by show 0 < 1000; decide), ?_⟩
    refine ⟨_, rfl, _, rfl, a, CC, ax, _, rfl, upd_same, T.cl, T.no _ (by simp), (by show 1 < 1000; decide), ?_⟩
    refine ⟨_, rfl, _, rfl, a, CC, ax, _, rfl, upd_same, T.cl, T.no _ (by simp), (by show 2 < 1000; decide), ?_⟩
    show Q .non _
    rw [upd_upd, upd_upd]
    exact q
abbrev sCall : Stmt := (inClass (top 15) 1)
theorem scCall : FnScope ["self"] ["self"] (defScope sCall) := ⟨rfl, rfl, rfl, by decide +kernel, rfl, by decide +kernel, by decide +kernel⟩
def spCall (FC CC : Addr) : Sp := fun vs H Q _ => ∃ (a ax f fx : Addr) (z : Str) (v : Int) (fs : List (Str × V)), vs = [.ref a] ∧ H a = some (.ins CC ax (cellF z f v)) ∧ H f = some (.ins FC fx fs) ∧ fs.lookup ("inmost" : Str) = some V.non ∧ fs.lookup ("note" : Str) = none ∧ Q (.int v) H
theorem ok_call {f fN : Addr} {fd dN : FuncData} (F : Fun K "__call__" "Cell.__call__" sCall f fd) (T : CeT K CC) (TF : FlT K FC) (MN : MO P w K mg base FC "note" 1 ["self", "name", "worth"] (spNote FC) fN dN) : FnOk P w K mg base CX0 2 f fd ["self"] (spCall FC CC) := by
  refine F.ok scCall (fun vs H Q E h => ?_) (fun cdv A outer s H vs Q E hr h => ?_)
  · obtain ⟨a, ax, f, fx, z, v, fs, rfl, _⟩ := h
    rfl
  · obtain ⟨a, ax, f, fx, z, v, fs, rfl, ha, hf, hl, hn, q⟩ := h
    refine ⟨_, pss_cons (ps_expr (pe_meth (pe_fld (pv 0) rfl) TF.cl MN.m MN.o hr MN.b .nil pass0 (pa_cons (pe_fld (pv 0) rfl) (pa_cons (pe_fld (pv 0) rfl) pa_nil)))) (pss_one (ps_ret (pe_fld (pv 0) rfl))), ?_⟩
    refine ⟨_, rfl, a, CC, ax, _, _, rfl, ha, T.cl, T.no _ (by simp), rfl, f, fx, fs, rfl, hf, hn, _, rfl, a, CC, ax, _, _, rfl, ha, T.cl, T.no _ (by simp), rfl, _, rfl, a, CC, ax, _, _, rfl, ha, T.cl, T.no _ (by simp), rfl, f, fx, fs, _, _, rfl, hf, hl, ?_⟩
    exact ⟨_, rfl, a, CC, ax, _, _, rfl, ha, T.cl, T.no _ (by simp), rfl, q⟩
abbrev sPut : Stmt := (inClass (top 15) 4)
theorem scPut : FnScope ["self", "value"] ["self", "value"] (defScope sPut) := ⟨rfl, rfl, rfl, by decide +kernel, rfl, by decide +kernel, by decide +kernel⟩
/-- a cell that is given another value -/
def Ce.to (c : Ce) (v : Int) : Ce := { c with v := v }
def spPut (FC DC CC : Addr) : Sp := fun vs H Q _ => ∃ (D : DA) (t0 : Addr) (cs : List Ce) (i : Nat) (c : Ce) (v : Int), vs = [.ref c.a, .int v] ∧ DeskAt FC DC CC H D t0 cs ∧ cs[i]? = some c ∧ ∀ H' tD, Kp [D.f, t0, c.a] H H' → H tD = none → DeskAt FC DC CC H' D tD (cs.set i (c.to v)) → Q .non H'
theorem map_set {α : Type} {cs : List Ce} {i : Nat} {c c' : Ce} (g : Ce → α) (hi : cs[i]? = some c) (e : g c' = g c) : (cs.set i c').map g = cs.map g := by
  rw [List.map_set, e]
  apply List.ext_getElem?
  intro j
  by_cases ij : i = j
  · subst ij
    have lt := (List.getElem?_eq_some_iff.mp hi).1
    rw [List.getElem?_set_self (by rw [List.length_map]; exact lt), List.getElem?_map, hi]
    rfl
  · rw [List.getElem?_set_ne ij]
theorem ok_put {f fP fS : Addr} {fd dP dS : FuncData} (F : Fun K "put" "Cell.put" sPut f fd) (T : CeT K CC) (TF : FlT K FC) (MP : MO P w K mg base FC "check_place" 1 ["self"] (spPlace FC) fP dP) (MS : MO P w K mg base FC "settle" 2 ["self"] (spSettle FC) fS dS) :
    FnOk P w K mg base CX0 3 f fd ["self", "value"] (spPut FC DC CC) := by
  refine F.ok scPut (fun vs H Q E h => ?_) (fun cdv A outer s H vs Q E hr h => ?_)
  · obtain ⟨D, t0, cs, i, c, v, rfl, _⟩ := h
    rfl
  · obtain ⟨D, t0, cs, i, c, v, rfl, hD, hi, k⟩ := h
    have hu := hu_of hr
    have hr1 := hr.mono (by decide : 1 ≤ 2)
    have hsl := sizeLine_eq
    have hc : c ∈ cs := List.mem_of_getElem? hi
    obtain ⟨ha, hn⟩ := hD.cell c hc
    simp only [List.mem_cons, List.mem_nil_iff, or_false, not_or] at hn
    obtain ⟨nd0, nf, nn, nc, ns, ne, nl, nt⟩ := hn
    have hnd := hD.nd
    simp only [List.nodup_cons, List.mem_cons, List.mem_nil_iff, or_false, not_or, List.nodup_nil, and_true, not_false_eq_true] at hnd
    obtain ⟨⟨d1, d2, d3, d4, d5, d6, d7⟩, ⟨f1, f2, f3, f4, f5, f6⟩, ⟨g1, g2, g3, g4, g5⟩, ⟨j1, j2, j3, j4⟩, ⟨m1, m2, m3⟩, ⟨p1, p2⟩, q1⟩ := hnd
    refine ⟨_, pss_cons (ps_expr (pe_meth0 (pe_fld (pv 0) rfl) TF.cl MP.m MP.o hr1 MP.b .nil pass0))
      (C8.pss_cut (ps_if (pt_cmpR op_ne (pv 1) (pe_fld (pv 0) rfl) (nomark _)) (pss_cons (ps_fld (pv 0) (pv 1) rfl) (pss_one (ps_dput hu (pe_fld (pe_fld (pv 0) rfl) rfl) (pe_fld (pv 0) rfl) pe_bl rfl))) pss_nil)
      (pss_one (ps_expr (pe_meth0 (pe_fld (pv 0) rfl) TF.cl MS.m MS.o hr MS.b .nil pass0)))), ?_⟩
    refine ⟨_, rfl, c.a, CC, c.ax, _, _, rfl, ha, T.cl, T.no _ (by simp), rfl, D.f, D.fx, _, rfl, hD.floor, rfl, D.f, D.fx, _, rfl, hD.floor, rfl, ?_⟩
    refine ⟨fun σ' H' => σ' = [some (.ref c.a), some (.int v)] ∧ Kp [t0, c.a] H H' ∧ H' c.a = some (.ins CC c.ax (cellF c.z D.f v)) ∧ ∃ o, H' t0 = some o, ?_, ?_⟩
    · refine ⟨_, rfl, _, rfl, c.a, CC, c.ax, _, _, rfl, ha, T.cl, T.no _ (by simp), rfl, rfl, _, rfl, ?_⟩
      refine ite2 (fun e => ?_) (fun e => ⟨rfl, Kp.refl H, ?_, _, hD.turned⟩)
      · refine ⟨_, rfl, _, rfl, c.a, CC, c.ax, _, rfl, ha, T.cl, T.no _ (by simp), (by show 3 < 1000; decide), ?_⟩
        obtain ⟨H1, e1⟩ : ∃ H1, upd H c.a (.ins CC c.ax (putF "_now" (.int v) (cellF c.z D.f c.v))) = H1 := ⟨_, rfl⟩
        have a1 : H1 c.a = some (.ins CC c.ax (cellF c.z D.f v)) := by rw [← e1]; exact upd_same
        have o1 : ∀ b, b ≠ c.a → H1 b = H b := fun b n => by rw [← e1]; exact upd_ne n
        rw [e1]
        refine ⟨_, rfl, c.a, CC, c.ax, _, _, rfl, a1, T.cl, T.no _ (by simp), rfl, D.f, FC, D.fx, _, _, rfl, (o1 _ (Ne.symm nf)).trans hD.floor, TF.cl, TF.no _ (by simp), rfl, _, rfl, c.a, CC, c.ax, _, _, rfl, a1, T.cl, T.no _ (by simp), rfl, t0, _, rfl, DPut.k (k := Sum.inr c.z) ((o1 _ (Ne.symm nt)).trans hD.turned) (by show 0 < sizeLine; omega), ?_⟩
        refine ⟨rfl, fun b o nb eb => ?_, by rw [upd_ne nt]; exact a1, _, upd_same⟩
        simp only [List.mem_cons, List.mem_nil_iff, or_false, not_or] at nb
        rw [upd_ne nb.1, o1 _ nb.2]
        exact eb
      · have ev : v = c.v := by
          cases h0 : decide (V.int v = V.int c.v) with
          | true => exact V.int.inj (of_decide_eq_true h0)
          | false => exact absurd (show (!decide (V.int v = V.int c.v)) = true by rw [h0]; rfl) e
        rw [ev]; exact ha
    · rintro σ' H1 ⟨rfl, k1, a1, ot, et⟩
      have old : ∀ b o, b ≠ t0 → b ≠ c.a → H b = some o → H1 b = some o := fun b o n1 n2 e => k1 b o (by simp only [List.mem_cons, List.mem_nil_iff, or_false, not_or]; exact ⟨n1, n2⟩) e
      have fl1 := old _ _ f6 (Ne.symm nf) hD.floor
      have ef1 := old _ _ p2 (Ne.symm ne) hD.eff
      refine ⟨_, rfl, c.a, CC, c.ax, _, _, rfl, a1, T.cl, T.no _ (by simp), rfl, D.f, D.fx, _, rfl, fl1, rfl, D.f, D.fx, D.nD, D.cD, D.sD, D.eL, D.lL, t0, rfl, fl1, ef1, fun H2 tD k2 ht fl2 tu2 => ?_⟩
      have old2 : ∀ b o, b ≠ D.f → H1 b = some o → H2 b = some o := fun b o n e => k2 b o (by simpa using n) e
      have htD : H tD = none := by
        cases e : H tD with
        | none => rfl
        | some o =>
          by_cases b1 : tD = t0
          · rw [b1, et] at ht; cases ht
          · by_cases b2 : tD = c.a
            · rw [b2, a1] at ht; cases ht
            · rw [old _ _ b1 b2 e] at ht; cases ht
      have fr : ∀ b o, H b = some o → b ≠ tD := fun b o e z => by rw [← z, e] at htD; cases htD
      refine k H2 tD (fun b o nb e => ?_) htD ?_
      · simp only [List.mem_cons, List.mem_nil_iff, or_false, not_or] at nb
        exact old2 _ _ nb.1 (old _ _ nb.2.1 nb.2.2 e)
      · refine ⟨old2 _ _ (fun z => d1 (by rw [z])) (old _ _ d7 (Ne.symm nd0) hD.desk), fl2, ?_, ?_, ?_, old2 _ _ (Ne.symm f4) ef1, old2 _ _ (Ne.symm f5) (old _ _ q1 (Ne.symm nl) hD.log), tu2, ?_, fun b hb => ?_, ?_, ?_, by rw [List.length_set]; exact hD.len⟩
        · rw [show namesT (cs.set i (c.to v)) = namesT cs from map_set _ hi rfl]
          exact old2 _ _ (Ne.symm f1) (old _ _ g5 (Ne.symm nn) hD.names)
        · rw [show cellsT (cs.set i (c.to v)) = cellsT cs from map_set _ hi rfl]
          exact old2 _ _ (Ne.symm f2) (old _ _ j4 (Ne.symm nc) hD.cells)
        · rw [show cellsT (cs.set i (c.to v)) = cellsT cs from map_set _ hi rfl]
          exact old2 _ _ (Ne.symm f3) (old _ _ m3 (Ne.symm ns) hD.sources)
        · simp only [List.nodup_cons, List.mem_cons, List.mem_nil_iff, or_false, not_or, List.nodup_nil, and_true, not_false_eq_true]
          exact ⟨⟨d1, d2, d3, d4, d5, d6, fr _ _ hD.desk⟩, ⟨f1, f2, f3, f4, f5, fr _ _ hD.floor⟩, ⟨g1, g2, g3, g4, fr _ _ hD.names⟩, ⟨j1, j2, j3, fr _ _ hD.cells⟩, ⟨m1, m2, fr _ _ hD.sources⟩, ⟨p1, fr _ _ hD.eff⟩, fr _ _ hD.log⟩
        · have lt := (List.getElem?_eq_some_iff.mp hi).1
          obtain ⟨j, hj⟩ := List.getElem?_of_mem hb
          by_cases ij : i = j
          · subst ij
            rw [List.getElem?_set_self lt] at hj
            cases hj
            refine ⟨old2 _ _ nf a1, ?_⟩
            simp only [List.mem_cons, List.mem_nil_iff, or_false, not_or]
            exact ⟨nd0, nf, nn, nc, ns, ne, nl, fr _ _ ha⟩
          · rw [List.getElem?_set_ne ij] at hj
            have hbm := List.mem_of_getElem? hj
            obtain ⟨b1, b2⟩ := hD.cell b hbm
            simp only [List.mem_cons, List.mem_nil_iff, or_false, not_or] at b2
            obtain ⟨x0, xf, xn, xc, xs, xe, xl, xt⟩ := b2
            have nba : b.a ≠ c.a := fun z => by
              have h1 : (cs.map Ce.a)[j]? = some b.a := by rw [List.getElem?_map, hj]; rfl
              have h2 : (cs.map Ce.a)[i]? = some c.a := by rw [List.getElem?_map, hi]; rfl
              have hl2 : i < (cs.map Ce.a).length := by rw [List.length_map]; exact lt
              have : (cs.map Ce.a)[i]? = (cs.map Ce.a)[j]? := by rw [h1, h2, z]
              exact ij ((List.getElem?_inj hl2 hD.as).mp this)
            refine ⟨old2 _ _ xf (old _ _ xt nba b1), ?_⟩
            simp only [List.mem_cons, List.mem_nil_iff, or_false, not_or]
            exact ⟨x0, xf, xn, xc, xs, xe, xl, fr _ _ b1⟩
        · rw [map_set (c' := c.to v) Ce.z hi rfl]; exact hD.zs
        · rw [map_set (c' := c.to v) Ce.a hi rfl]; exact hD.as
end
end My

set_option Elab.async false
set_option linter.all false
set_option maxRecDepth 100000
set_option maxHeartbeats 4000000
/-! Q6: what a desk of cells is asked. -/
namespace My
open PySem PySem.Spec PyProof.Rows L2
section
variable {P : Program} {w : World} {K : PySem.W.Frag} {mg : Str → Option Value} {base : Heap} {FC DC CC NN : Addr}
abbrev sVal : Stmt := (inClass (top 15) 2)
theorem scVal : FnScope ["self"] ["self"] (defScope sVal) := ⟨rfl, rfl, rfl, by decide +kernel, rfl, by decide +kernel, by decide +kernel⟩
def spVal (CC : Addr) : Sp := fun vs H Q _ => ∃ (a ax f : Addr) (z : Str) (v : Int), vs = [.ref a] ∧ H a = some (.ins CC ax (cellF z f v)) ∧ Q (.int v) H
theorem ok_val {f : Addr} {fd : FuncData} (F : Fun K "value" "Cell.value" sVal f fd) (T : CeT K CC) : FnOk P w K mg base CX0 1 f fd ["self"] (spVal CC) := by
  refine F.ok scVal (fun vs H Q E h => ?_) (fun cdv A outer s H vs Q E hr h => ?_)
  · obtain ⟨a, ax, f, z, v, rfl, _⟩ := h
    rfl
  · obtain ⟨a, ax, f, z, v, rfl, ha, q⟩ := h
    exact ⟨_, pss_one (ps_ret (pe_fld (pv 0) rfl)), _, rfl, a, CC, ax, _, _, rfl, ha, T.cl, T.no _ (by simp), rfl, q⟩
abbrev sIadd : Stmt := (inClass (top 15) 5)
theorem scIadd : FnScope ["self", "other"] ["self", "other"] (defScope sIadd) := ⟨rfl, rfl, rfl, by decide +kernel, rfl, by decide +kernel, by decide +kernel⟩
def spIadd (FC DC CC : Addr) : Sp := fun vs H Q _ => ∃ (D : DA) (t0 : Addr) (cs : List Ce) (i : Nat) (c : Ce) (v : Int), vs = [.ref c.a, .int v] ∧ DeskAt FC DC CC H D t0 cs ∧ cs[i]? = some c ∧ ∀ H' tD, Kp [D.f, t0, c.a] H H' → H tD = none → DeskAt FC DC CC H' D tD (cs.set i (c.to (c.v + v))) → Q (.ref c.a) H'
theorem ok_iadd {f fP : Addr} {fd dP : FuncData} (F : Fun K "__iadd__" "Cell.__iadd__" sIadd f fd) (T : CeT K CC) (MP : MO P w K mg base CC "put" 3 ["self", "value"] (spPut FC DC CC) fP dP) : FnOk P w K mg base CX0 4 f fd ["self", "other"] (spIadd FC DC CC) := by
  refine F.ok scIadd (fun vs H Q E h => ?_) (fun cdv A outer s H vs Q E hr h => ?_)
  · obtain ⟨D, t0, cs, i, c, v, rfl, _⟩ := h
    rfl
  · obtain ⟨D, t0, cs, i, c, v, rfl, hD, hi, k⟩ := h
    have ha := (hD.cell c (List.mem_of_getElem? hi)).1
    refine ⟨_, pss_cons (ps_expr (pe_meth (pv 0) T.cl MP.m MP.o hr MP.b .nil pass0 (pa_cons (pe_op op_add (pe_fld (pv 0) rfl) (pv 1)) pa_nil))) (pss_one (ps_ret (pv 0))), ?_⟩
    refine ⟨_, rfl, c.a, c.ax, _, rfl, ha, rfl, _, rfl, c.a, CC, c.ax, _, _, rfl, ha, T.cl, T.no _ (by simp), rfl, _, rfl, _, _, rfl, rfl, ?_⟩
    exact ⟨D, t0, cs, i, c, _, rfl, hD, hi, fun H' tD k1 ht hD' => ⟨_, rfl, k H' tD k1 ht hD'⟩⟩
abbrev sInitD : Stmt := (inClass (top 14) 1)
theorem scInitD : FnScope ["self"] ["self"] (defScope sInitD) := ⟨rfl, rfl, rfl, by decide +kernel, rfl, by decide +kernel, by decide +kernel⟩
def spInitD (FC DC CC : Addr) : Sp := fun vs H Q _ => ∃ (d dx : Addr), vs = [.ref d] ∧ H d = some (.ins DC dx []) ∧ ∀ H' D tD, D.d = d → Kp [d] H H' → (∀ x ∈ foot D tD [], x ≠ d → H x = none) → DeskAt FC DC CC H' D tD [] → Q .non H'
theorem ok_initD {f fI : Addr} {fd dI : FuncData} (F : Fun K "__init__" "Desk.__init__" sInitD f fd) (T : DkT K DC) (MkF : Mk K FC fI) (gF : mg "Floor" = some (.ref FC)) (oF : FnOk P w K mg base CX0 1 fI dI ["self", "most_runs"] (spInitF FC)) (bF : Binds K dI ["self", "most_runs"] []) :
    FnOk P w K mg base CX0 3 f fd ["self"] (spInitD FC DC CC) := by
  refine F.ok scInitD (fun vs H Q E h => ?_) (fun cdv A outer s H vs Q E hr h => ?_)
  · obtain ⟨d, dx, rfl, _⟩ := h
    rfl
  · obtain ⟨d, dx, rfl, hd, k⟩ := h
    obtain ⟨u0, con0⟩ := T.con
    refine ⟨_, pss_one (ps_fld (pv 0) (pe_make MkF oF hr (by rfl) gF bF .nil pass0 (pa_cons (pe_con (pv 0) rfl) pa_nil)) rfl), ?_⟩
    refine ⟨_, rfl, d, DC, dx, _, _, _, rfl, hd, T.cl, con0, rfl, fun x xx hx hxx hne => ⟨x, xx, rfl, upd_same, fun H1 nD cD sD eL lL tD k1 fr nd e1 e2 e3 e4 e5 e6 e7 => ⟨rfl, ?_⟩⟩⟩
    have dnx : d ≠ x := ne_of_none hd hx
    have dnxx : d ≠ xx := ne_of_none hd hxx
    have hd1 : H1 d = some (.ins DC dx []) := k1 _ _ (by simpa using dnx) (by rw [upd_ne dnx, upd_ne dnxx]; exact hd)
    have back : ∀ y, upd (upd H xx (.own x)) x (.ins FC xx []) y = none → H y = none := fun y e => by
      have n1 : y ≠ x := fun z => by rw [z, upd_same] at e; cases e
      rw [upd_ne n1] at e
      have n2 : y ≠ xx := fun z => by rw [z, upd_same] at e; cases e
      rw [upd_ne n2] at e
      exact e
    have frn : ∀ y ∈ [nD, cD, sD, eL, lL, tD], y ≠ d := fun y hy z => by have := back y (fr y hy); rw [z, hd] at this; cases this
    refine ⟨_, rfl, d, DC, dx, _, rfl, hd1, T.cl, T.no, (by show 0 < 1000; decide), ?_⟩
    simp only [List.nodup_cons, List.mem_cons, List.mem_nil_iff, or_false, not_or, List.nodup_nil, and_true, not_false_eq_true] at nd
    obtain ⟨f0, g0, j0, m0, p0, q0⟩ := nd
    refine k _ ⟨d, dx, x, xx, nD, cD, sD, eL, lL⟩ tD rfl (fun b o nb e => ?_) (fun y hy ny => ?_) ?_
    · have nb' : b ≠ d := fun z => nb (by rw [z]; simp)
      rw [upd_ne nb']
      exact k1 b o (by simpa using ne_of_none e hx) (by rw [upd_ne (ne_of_none e hx), upd_ne (ne_of_none e hxx)]; exact e)
    · simp only [foot, List.map_nil, List.append_nil, List.mem_cons, List.mem_nil_iff, or_false] at hy
      rcases hy with rfl | rfl | rfl | rfl | rfl | rfl | rfl | rfl
      · exact absurd rfl ny
      · exact hx
      all_goals exact back _ (fr _ (by simp))
    · have a1 := frn nD (by simp)
      have a2 := frn cD (by simp)
      have a3 := frn sD (by simp)
      have a4 := frn eL (by simp)
      have a5 := frn lL (by simp)
      have a6 := frn tD (by simp)
      refine ⟨upd_same, ?_, ?_, ?_, ?_, ?_, ?_, ?_, ?_, fun c hc => (nomatch hc), .nil, .nil, Nat.zero_le _⟩
      · show upd H1 d _ x = _; rw [upd_ne dnx.symm]; exact e1
      · show upd H1 d _ nD = _; rw [upd_ne a1]; exact e2
      · show upd H1 d _ cD = _; rw [upd_ne a2]; exact e3
      · show upd H1 d _ sD = _; rw [upd_ne a3]; exact e4
      · show upd H1 d _ eL = _; rw [upd_ne a4]; exact e5
      · show upd H1 d _ lL = _; rw [upd_ne a5]; exact e6
      · show upd H1 d _ tD = _; rw [upd_ne a6]; exact e7
      · simp only [List.nodup_cons, List.mem_cons, List.mem_nil_iff, or_false, not_or, List.nodup_nil, and_true, not_false_eq_true]
        exact ⟨⟨dnx, a1.symm, a2.symm, a3.symm, a4.symm, a5.symm, a6.symm⟩, f0, g0, j0, m0, p0, q0⟩
abbrev sCellD : Stmt := (inClass (top 14) 2)
theorem scCellD : FnScope ["self", "name", "value", "made"] ["self", "name", "value"] (defScope sCellD) := ⟨rfl, rfl, rfl, by decide +kernel, rfl, by decide +kernel, by decide +kernel⟩
def spCellD (FC DC CC : Addr) : Sp := fun vs H Q _ => ∃ (D : DA) (tD : Addr) (cs : List Ce) (z : Str) (v : Int), vs = [.ref D.d, .str z, .int v] ∧ DeskAt FC DC CC H D tD cs ∧ z ∉ cs.map Ce.z ∧ cs.length < 100 ∧
  ∀ H' a ax, Kp [D.nD, D.cD, D.sD] H H' → H a = none → DeskAt FC DC CC H' D tD (cs ++ [⟨z, a, ax, v⟩]) → Q (.ref a) H'
theorem ok_cellD {f fP fT fI : Addr} {fd dP dT dI : FuncData} (F : Fun K "cell" "Desk.cell" sCellD f fd) (T : DkT K DC) (TF : FlT K FC) (MP : MO P w K mg base FC "check_place" 1 ["self"] (spPlace FC) fP dP) (MT : MO P w K mg base FC "take_name" 1 ["self", "name"] (spTakeN FC) fT dT)
    (MkC : Mk K CC fI) (gC : mg "Cell" = some (.ref CC)) (oC : FnOk P w K mg base CX0 1 fI dI ["self", "floor", "name", "value"] (spInitC CC)) (bC : Binds K dI ["self", "floor", "name", "value"] []) : FnOk P w K mg base CX0 3 f fd ["self", "name", "value"] (spCellD FC DC CC) := by
  refine F.ok scCellD (fun vs H Q E h => ?_) (fun cdv A outer s H vs Q E hr h => ?_)
  · obtain ⟨D, tD, cs, z, v, rfl, _⟩ := h
    rfl
  · obtain ⟨D, tD, cs, z, v, rfl, hD, hz, hlen, k⟩ := h
    have nd := scCellD.nd
    have hu := hu_of hr
    have hr1 := hr.mono (by decide : 1 ≤ 2)
    have hsl := sizeLine_eq
    have hnd := hD.nd
    simp only [List.nodup_cons, List.mem_cons, List.mem_nil_iff, or_false, not_or, List.nodup_nil, and_true, not_false_eq_true] at hnd
    obtain ⟨⟨d1, d2, d3, d4, d5, d6, d7⟩, ⟨f1, f2, f3, f4, f5, f6⟩, ⟨g1, g2, g3, g4, g5⟩, ⟨j1, j2, j3, j4⟩, ⟨m1, m2, m3⟩, ⟨p1, p2⟩, q1⟩ := hnd
    have vn := valV_out (valV_names cs z) hz
    have vc := valV_out (valV_cells cs z) hz
    have ln : (namesT cs).length = cs.length := by simp [namesT]
    have lc : (cellsT cs).length = cs.length := by simp [cellsT]
    refine ⟨_, pss_cons (ps_expr (pe_meth0 (pe_fld (pv 0) rfl) TF.cl MP.m MP.o hr1 MP.b .nil pass0))
      (pss_cons (ps_expr (pe_meth (pe_fld (pv 0) rfl) TF.cl MT.m MT.o hr1 MT.b .nil pass0 (pa_cons (pv 1) pa_nil)))
      (pss_cons (ps_set (i := 3) nd rfl (Or.inl rfl) (pe_make MkC oC hr (by rfl) gC bC .nil pass0 (pa_cons (pe_fld (pv 0) rfl) (pa_cons (pv 1) (pa_cons (pv 2) pa_nil)))))
      (pss_cons (ps_dput hu (pe_fld (pe_fld (pv 0) rfl) rfl) (pv 1) (pv 3) rfl) (pss_cons (ps_dput hu (pe_fld (pe_fld (pv 0) rfl) rfl) (pv 1) (pv 3) rfl) (pss_one (ps_ret (pv 3))))))), ?_⟩
    refine ⟨_, rfl, D.d, DC, D.dx, _, _, rfl, hD.desk, T.cl, T.no, rfl, D.f, D.fx, _, rfl, hD.floor, rfl, D.f, D.fx, _, rfl, hD.floor, rfl, ?_⟩
    refine ⟨_, rfl, D.d, DC, D.dx, _, _, rfl, hD.desk, T.cl, T.no, rfl, D.f, D.fx, _, rfl, hD.floor, rfl, _, rfl, D.f, D.fx, D.nD, _, z, _, rfl, hD.floor, rfl, hD.names, vn, by omega, ?_⟩
    rw [putK_new _ vn]
    obtain ⟨H1, e1⟩ : ∃ H1, upd H D.nD (.dK (namesT cs ++ [(Sum.inr z, .bl true)])) = H1 := ⟨_, rfl⟩
    have n1 : H1 D.nD = some (.dK (namesT cs ++ [(Sum.inr z, .bl true)])) := by rw [← e1]; exact upd_same
    have o1 : ∀ b, b ≠ D.nD → H1 b = H b := fun b n => by rw [← e1]; exact upd_ne n
    rw [e1]
    have dk1 : H1 D.d = some (.ins DC D.dx [("_floor", .ref D.f)]) := (o1 _ d2).trans hD.desk
    have fl1 := (o1 _ f1).trans hD.floor
    refine ⟨_, rfl, D.d, DC, D.dx, _, _, rfl, dk1, T.cl, T.no, rfl, _, rfl, _, rfl, fun a ax ha hax hne => ⟨a, ax, D.f, z, v, rfl, upd_same, rfl, ?_⟩⟩
    rw [upd_upd]
    have low : ∀ {x : Addr}, H1 x = none → H x = none := fun {x} e => by
      have n : x ≠ D.nD := fun w => by rw [w, n1] at e; cases e
      rw [o1 _ n] at e; exact e
    obtain ⟨H3, e3⟩ : ∃ H3, upd (upd H1 ax (.own a)) a (.ins CC ax (cellF z D.f v)) = H3 := ⟨_, rfl⟩
    have a3 : H3 a = some (.ins CC ax (cellF z D.f v)) := by rw [← e3]; exact upd_same
    have o3 : ∀ b o, H1 b = some o → H3 b = some o := fun b o e => by rw [← e3, upd_ne (ne_of_none e ha), upd_ne (ne_of_none e hax)]; exact e
    rw [e3]
    refine ⟨_, rfl, _, rfl, D.d, DC, D.dx, _, _, rfl, o3 _ _ dk1, T.cl, T.no, rfl, D.f, FC, D.fx, _, _, rfl, o3 _ _ fl1, TF.cl, TF.no _ (by simp), rfl, _, rfl, D.cD, _, rfl, DPut.k (k := Sum.inr z) (o3 _ _ ((o1 _ (Ne.symm g1)).trans hD.cells)) (by omega), ?_⟩
    rw [putK_new _ vc]
    obtain ⟨H4, e4⟩ : ∃ H4, upd H3 D.cD (.dK (cellsT cs ++ [(Sum.inr z, .ref a)])) = H4 := ⟨_, rfl⟩
    have c4 : H4 D.cD = some (.dK (cellsT cs ++ [(Sum.inr z, .ref a)])) := by rw [← e4]; exact upd_same
    have o4 : ∀ b, b ≠ D.cD → H4 b = H3 b := fun b n => by rw [← e4]; exact upd_ne n
    have e4' : upd H3 D.cD (HO.dK (cellsT cs ++ [((Sum.inr z : Key), V.ref a)])) = H4 := e4
    rw [e4']
    refine ⟨_, rfl, _, rfl, D.d, DC, D.dx, _, _, rfl, (o4 _ d3).trans (o3 _ _ dk1), T.cl, T.no, rfl, D.f, FC, D.fx, _, _, rfl, (o4 _ f2).trans (o3 _ _ fl1), TF.cl, TF.no _ (by simp), rfl, _, rfl, D.sD, _, rfl, DPut.k (k := Sum.inr z) ((o4 _ (Ne.symm j1)).trans (o3 _ _ ((o1 _ (Ne.symm g2)).trans hD.sources))) (by omega), ?_⟩
    rw [putK_new _ vc]
    obtain ⟨H5, e5⟩ : ∃ H5, upd H4 D.sD (HO.dK (cellsT cs ++ [((Sum.inr z : Key), V.ref a)])) = H5 := ⟨_, rfl⟩
    have s5 : H5 D.sD = some (.dK (cellsT cs ++ [(Sum.inr z, .ref a)])) := by rw [← e5]; exact upd_same
    have o5 : ∀ b, b ≠ D.sD → H5 b = H4 b := fun b n => by rw [← e5]; exact upd_ne n
    rw [e5]
    refine ⟨_, rfl, ?_⟩
    have old : ∀ b o, b ≠ D.nD → b ≠ D.cD → b ≠ D.sD → H b = some o → H5 b = some o := fun b o n1 n2 n3 e => (o5 b n3).trans ((o4 b n2).trans (o3 b o ((o1 b n1).trans e)))
    have ha0 := low ha
    have fr : ∀ b o, H b = some o → b ≠ a := fun b o e => ne_of_none e ha0
    refine k H5 a ax (fun b o nb e => ?_) ha0 ?_
    · simp only [List.mem_cons, List.mem_nil_iff, or_false, not_or] at nb
      exact old b o nb.1 nb.2.1 nb.2.2 e
    · refine ⟨old _ _ d2 d3 d4 hD.desk, old _ _ f1 f2 f3 hD.floor, ?_, ?_, ?_, old _ _ (Ne.symm g3) (Ne.symm j2) (Ne.symm m1) hD.eff, old _ _ (Ne.symm g4) (Ne.symm j3) (Ne.symm m2) hD.log, old _ _ (Ne.symm g5) (Ne.symm j4) (Ne.symm m3) hD.turned, hD.nd, fun c hc => ?_, ?_, ?_, ?_⟩
      · rw [show namesT (cs ++ [⟨z, a, ax, v⟩]) = namesT cs ++ [(Sum.inr z, .bl true)] by simp [namesT]]
        exact (o5 _ g2).trans ((o4 _ g1).trans (o3 _ _ n1))
      · rw [show cellsT (cs ++ [⟨z, a, ax, v⟩]) = cellsT cs ++ [(Sum.inr z, .ref a)] by simp [cellsT]]
        exact (o5 _ j1).trans c4
      · rw [show cellsT (cs ++ [⟨z, a, ax, v⟩]) = cellsT cs ++ [(Sum.inr z, .ref a)] by simp [cellsT]]
        exact s5
      · rcases List.mem_append.mp hc with hc | hc
        · obtain ⟨h1, h2⟩ := hD.cell c hc
          have h3 := h2
          simp only [List.mem_cons, List.mem_nil_iff, or_false, not_or] at h3
          exact ⟨old _ _ h3.2.2.1 h3.2.2.2.1 h3.2.2.2.2.1 h1, h2⟩
        · rw [List.mem_singleton.mp hc]
          have nC : a ≠ D.cD := (fr _ _ hD.cells).symm
          have nS : a ≠ D.sD := (fr _ _ hD.sources).symm
          refine ⟨(o5 _ nS).trans ((o4 _ nC).trans a3), ?_⟩
          simp only [List.mem_cons, List.mem_nil_iff, or_false, not_or]
          exact ⟨(fr _ _ hD.desk).symm, (fr _ _ hD.floor).symm, (fr _ _ hD.names).symm, nC, nS, (fr _ _ hD.eff).symm, (fr _ _ hD.log).symm, (fr _ _ hD.turned).symm⟩
      · rw [List.map_append]
        exact nd_snoc hD.zs hz
      · rw [List.map_append]
        refine nd_snoc hD.as fun hm => ?_
        obtain ⟨c, hc, e⟩ := List.mem_map.mp hm
        exact fr _ _ (hD.cell c hc).1 e
      · rw [List.length_append, List.length_singleton]; omega
end
end My

set_option Elab.async false
set_option linter.all false
set_option maxRecDepth 100000
set_option maxHeartbeats 4000000
/-! Q7: a desk by names. -/
namespace My
open PySem PySem.Spec PyProof.Rows L2
/-- of the type of texts -/
def Fld.isStr : Fld → Bool
  | .str _ => true
  | _ => false
def hasF (cs : List Ce) : Fld → Bool
  | .str z => decide (z ∈ cs.map Ce.z)
  | _ => false
theorem FAt.ty {K : PySem.W.Frag} {H : Hp} : ∀ {fl : Fld} {x : V}, FAt H fl x → ∃ t : String, TyX K H x (.type t) ∧ PySem.W.kitOne K (.type t) (.type "str") = some fl.isStr
  | .non, _, h => by cases h; exact ⟨_, .base .non, kit_ty (r := false) (by decide +kernel)⟩
  | .int i, _, h => by cases h; exact ⟨_, .base (.int i), kit_ty (r := false) (by decide +kernel)⟩
  | .bl b, _, h => by cases h; exact ⟨_, .base (.bl b), kit_ty (r := false) (by decide +kernel)⟩
  | .str x, _, h => by cases h.1; exact ⟨_, .base (.str x), kit_ty (r := true) (by decide +kernel)⟩
  | .tup x, _, ⟨_, p, e, hp⟩ => by subst e; exact ⟨_, .base (.tup hp), kit_ty (r := false) (by decide +kernel)⟩
  | .lst x, _, ⟨_, p, e, hp⟩ => by subst e; exact ⟨_, .base (.lst hp), kit_ty (r := false) (by decide +kernel)⟩
theorem boot_str' : bootBuiltins "str" = some (.type "str") := by decide +kernel
theorem tyS {X : Cx} {pos : Pos} (hg : Gl X "str") (hm : X.mg "str" = none) : PE X (.Name "str" pos) (tC (.ty "str")) := pe_bltn hg hm boot_str' rfl
/-- x is no cell's name: E gets NoName(x) -/
def OddX (NN : Addr) (cs : List Ce) (x : V) (H : Hp) (E : XK) : Prop := ∃ fl, FAt H fl x ∧ hasF cs fl = false ∧ ∀ H' dd v, Kp [] H H' → H dd = none → H' dd = some (.xd [("name", v)]) → FAt H' fl v → E (.ref NN) (some dd) H'
/-- the property value -/
structure PO (P : Program) (w : World) (K : PySem.W.Frag) (mg : Str → Option Value) (base : Heap) (CC p g : Addr) (dg : FuncData) : Prop where
  p : PropOf K CC "value" p g
  b : Binds K dg ["self"] []
  o : FnOk P w K mg base CX0 1 g dg ["self"] (spVal CC)
section
variable {P : Program} {w : World} {K : PySem.W.Frag} {mg : Str → Option Value} {base : Heap} {FC DC CC NN : Addr}
abbrev sGet : Stmt := (inClass (top 14) 9)
theorem scGet : FnScope ["self", "at"] ["self", "at"] (defScope sGet) := ⟨rfl, rfl, rfl, by decide +kernel, rfl, by decide +kernel, by decide +kernel⟩
def spGet (FC DC CC NN : Addr) : Sp := fun vs H Q E => ∃ (D : DA) (tD : Addr) (cs : List Ce) (x : V), vs = [.ref D.d, x] ∧ DeskAt FC DC CC H D tD cs ∧ ((∃ c ∈ cs, x = .str c.z ∧ Q (.int c.v) H) ∨ OddX NN cs x H E)
theorem ok_get {f pA gA : Addr} {fd dg : FuncData} (F : Fun K "__getitem__" "Desk.__getitem__" sGet f fd) (B : Bt mg) (hstr : mg "str" = none) (T : DkT K DC) (TF : FlT K FC) (TC : CeT K CC) (PV : PO P w K mg base CC pA gA dg) (c : Cl P w K mg base "NoName" "name" NN) :
    FnOk P w K mg base (L2.CX P w) 6 f fd ["self", "at"] (spGet FC DC CC NN) := by
  obtain ⟨fE, dE, iC, tI, F1, b1, b2⟩ := c.ini
  refine F.okX scGet (fun vs H Q E h => ?_) (fun cdv A' outer s H vs Q E hr h => ?_)
  · obtain ⟨D, tD, cs, x, rfl, _⟩ := h
    rfl
  · obtain ⟨D, tD, cs, x, rfl, hD, post⟩ := h
    have hu := hu_of hr
    have h2 := hr.mono (by decide : 2 ≤ 5)
    refine ⟨_, pss_cons (ps_if (pw_or (pt_not (pt_val (pe_callB call_isi (by rfl) B.isinstance boot_isi' (pa_cons (pv 1) (pa_cons (tyS (by rfl) hstr) pa_nil))))) (pw_or1 (pt_cmp (pc_dnotin hu (pv 1) (pe_fld (pe_fld (pv 0) rfl) rfl))))).pt
        (pss_one (ps_raise (W := fun cls d _ H => E cls d H) rfl (takes_of rfl rfl rfl rfl) (pmk_new c.t iC tI F1 hr (by rfl) c.g b1 pass0 (pa_cons (pv 1) pa_nil)))) pss_nil)
      (pss_one (ps_ret (pe_prop (pe_dget hu (pe_fld (pe_fld (pv 0) rfl) rfl) (pv 1) (fun _ _ => rfl)) TC.cl PV.p PV.o h2 PV.b .nil pass0 rfl))), ?_⟩
    rcases post with ⟨ce, hc, rfl, q⟩ | ⟨fl, hF, hn, post⟩
    · refine ⟨_, rfl, _, _, _, _, _, rfl, .ty _, .base (.str ce.z), kit_ty (r := true) (by decide +kernel), _, rfl, iteF ?_⟩
      refine ⟨_, rfl, _, rfl, D.d, DC, D.dx, _, _, rfl, hD.desk, T.cl, T.no, rfl, D.f, FC, D.fx, _, _, rfl, hD.floor, TF.cl, TF.no _ (by simp), rfl, D.cD, _, rfl, DGet.k (k := Sum.inr ce.z) hD.cells, _, rfl, ?_⟩
      have vc := valV_cell hc hD.zs
      rw [vc]
      refine iteF ⟨_, rfl, D.d, DC, D.dx, _, _, rfl, hD.desk, T.cl, T.no, rfl, D.f, FC, D.fx, _, _, rfl, hD.floor, TF.cl, TF.no _ (by simp), rfl, _, rfl, D.cD, .ref ce.a, rfl, ?_, ce.a, ce.ax, _, rfl, (hD.cell ce hc).1, ce.a, ce.ax, D.f, ce.z, ce.v, rfl, (hD.cell ce hc).1, q⟩
      rw [← vc]
      exact DGet.k (k := Sum.inr ce.z) hD.cells
    · have raise : ∀ (aa : Addr), H aa = none → _ := fun aa na => raise_read (Kf := K) (fl := fl) (x := x) c.t c.no post (Kp.refl H) hF aa na
      cases hs : fl.isStr with
      | false =>
        obtain ⟨t, ty, kt⟩ := hF.ty (K := K)
        rw [hs] at kt
        refine ⟨_, rfl, _, _, _, _, _, rfl, .ty _, ty, kt, _, rfl, iteT (iteT ⟨_, rfl, rfl, by decide, raise⟩)⟩
      | true =>
        cases fl with
        | str z =>
          cases hF.1
          refine ⟨_, rfl, _, _, _, _, _, rfl, .ty _, .base (.str z), kit_ty (r := true) (by decide +kernel), _, rfl, iteF ?_⟩
          refine ⟨_, rfl, _, rfl, D.d, DC, D.dx, _, _, rfl, hD.desk, T.cl, T.no, rfl, D.f, FC, D.fx, _, _, rfl, hD.floor, TF.cl, TF.no _ (by simp), rfl, D.cD, _, rfl, DGet.k (k := Sum.inr z) hD.cells, _, rfl, ?_⟩
          rw [valV_out (valV_cells cs z) (of_decide_eq_false hn)]
          exact iteT ⟨_, rfl, rfl, by decide, raise⟩
        | _ => cases hs
abbrev sSet : Stmt := (inClass (top 14) 10)
theorem scSet : FnScope ["self", "at", "worth"] ["self", "at", "worth"] (defScope sSet) := ⟨rfl, rfl, rfl, by decide +kernel, rfl, by decide +kernel, by decide +kernel⟩
def spSet (FC DC CC NN : Addr) : Sp := fun vs H Q E => ∃ (D : DA) (tD : Addr) (cs : List Ce) (x : V) (v : Int), vs = [.ref D.d, x, .int v] ∧ DeskAt FC DC CC H D tD cs ∧
  ((∃ i c, cs[i]? = some c ∧ x = .str c.z ∧ ∀ H' t', Kp [D.f, tD, c.a] H H' → H t' = none → DeskAt FC DC CC H' D t' (cs.set i (c.to v)) → Q .non H') ∨ OddX NN cs x H E)
theorem ok_set {f fP fC : Addr} {fd dP dC : FuncData} (F : Fun K "__setitem__" "Desk.__setitem__" sSet f fd) (B : Bt mg) (hstr : mg "str" = none) (T : DkT K DC) (TF : FlT K FC) (TC : CeT K CC) (MP : MO P w K mg base CC "put" 3 ["self", "value"] (spPut FC DC CC) fP dP)
    (MC : MO P w K mg base FC "check_place" 1 ["self"] (spPlace FC) fC dC) (c : Cl P w K mg base "NoName" "name" NN) : FnOk P w K mg base (L2.CX P w) 6 f fd ["self", "at", "worth"] (spSet FC DC CC NN) := by
  obtain ⟨fE, dE, iC, tI, F1, b1, b2⟩ := c.ini
  refine F.okX scSet (fun vs H Q E h => ?_) (fun cdv A' outer s H vs Q E hr h => ?_)
  · obtain ⟨D, tD, cs, x, v, rfl, _⟩ := h
    rfl
  · obtain ⟨D, tD, cs, x, v, rfl, hD, post⟩ := h
    have hu := hu_of hr
    have h1 := hr.mono (by decide : 1 ≤ 5)
    have h3 := hr.mono (by decide : 3 ≤ 5)
    refine ⟨_, pss_cons (ps_expr (pe_meth0 (pe_fld (pv 0) rfl) TF.cl MC.m MC.o h1 MC.b .nil pass0))
      (pss_cons (ps_if (pw_or (pt_not (pt_val (pe_callB call_isi (by rfl) B.isinstance boot_isi' (pa_cons (pv 1) (pa_cons (tyS (by rfl) hstr) pa_nil))))) (pw_or1 (pt_cmp (pc_dnotin hu (pv 1) (pe_fld (pe_fld (pv 0) rfl) rfl))))).pt
        (pss_one (ps_raise (W := fun cls d _ H => E cls d H) rfl (takes_of rfl rfl rfl rfl) (pmk_new c.t iC tI F1 hr (by rfl) c.g b1 pass0 (pa_cons (pv 1) pa_nil)))) pss_nil)
      (pss_one (ps_expr (pe_meth (pe_dget hu (pe_fld (pe_fld (pv 0) rfl) rfl) (pv 1) (fun _ _ => rfl)) TC.cl MP.m MP.o h3 MP.b .nil pass0 (pa_cons (pv 2) pa_nil))))), ?_⟩
    refine ⟨_, rfl, D.d, DC, D.dx, _, _, rfl, hD.desk, T.cl, T.no, rfl, D.f, D.fx, _, rfl, hD.floor, rfl, D.f, D.fx, _, rfl, hD.floor, rfl, ?_⟩
    rcases post with ⟨i, ce, hi, rfl, q⟩ | ⟨fl, hF, hn, post⟩
    · have hc : ce ∈ cs := List.mem_of_getElem? hi
      refine ⟨_, rfl, _, _, _, _, _, rfl, .ty _, .base (.str ce.z), kit_ty (r := true) (by decide +kernel), _, rfl, iteF ?_⟩
      refine ⟨_, rfl, _, rfl, D.d, DC, D.dx, _, _, rfl, hD.desk, T.cl, T.no, rfl, D.f, FC, D.fx, _, _, rfl, hD.floor, TF.cl, TF.no _ (by simp), rfl, D.cD, _, rfl, DGet.k (k := Sum.inr ce.z) hD.cells, _, rfl, ?_⟩
      have vc := valV_cell hc hD.zs
      rw [vc]
      refine iteF ⟨_, rfl, D.d, DC, D.dx, _, _, rfl, hD.desk, T.cl, T.no, rfl, D.f, FC, D.fx, _, _, rfl, hD.floor, TF.cl, TF.no _ (by simp), rfl, _, rfl, D.cD, .ref ce.a, rfl, ?_, ce.a, ce.ax, _, rfl, (hD.cell ce hc).1, rfl, _, rfl, D, tD, cs, i, ce, v, rfl, hD, hi, q⟩
      rw [← vc]
      exact DGet.k (k := Sum.inr ce.z) hD.cells
    · have raise : ∀ (aa : Addr), H aa = none → _ := fun aa na => raise_read (Kf := K) (fl := fl) (x := x) c.t c.no post (Kp.refl H) hF aa na
      cases hs : fl.isStr with
      | false =>
        obtain ⟨t, ty, kt⟩ := hF.ty (K := K)
        rw [hs] at kt
        refine ⟨_, rfl, _, _, _, _, _, rfl, .ty _, ty, kt, _, rfl, iteT (iteT ⟨_, rfl, rfl, by decide, raise⟩)⟩
      | true =>
        cases fl with
        | str z =>
          cases hF.1
          refine ⟨_, rfl, _, _, _, _, _, rfl, .ty _, .base (.str z), kit_ty (r := true) (by decide +kernel), _, rfl, iteF ?_⟩
          refine ⟨_, rfl, _, rfl, D.d, DC, D.dx, _, _, rfl, hD.desk, T.cl, T.no, rfl, D.f, FC, D.fx, _, _, rfl, hD.floor, TF.cl, TF.no _ (by simp), rfl, D.cD, _, rfl, DGet.k (k := Sum.inr z) hD.cells, _, rfl, ?_⟩
          rw [valV_out (valV_cells cs z) (of_decide_eq_false hn)]
          exact iteT ⟨_, rfl, rfl, by decide, raise⟩
        | _ => cases hs
abbrev sHas : Stmt := (inClass (top 14) 11)
theorem scHas : FnScope ["self", "thing"] ["self", "thing"] (defScope sHas) := ⟨rfl, rfl, rfl, by decide +kernel, rfl, by decide +kernel, by decide +kernel⟩
def spHas (FC DC CC : Addr) : Sp := fun vs H Q _ => ∃ (D : DA) (tD : Addr) (cs : List Ce) (x : V) (fl : Fld), vs = [.ref D.d, x] ∧ DeskAt FC DC CC H D tD cs ∧ FAt H fl x ∧ Q (.bl (hasF cs fl)) H
theorem ok_has {f : Addr} {fd : FuncData} (F : Fun K "__contains__" "Desk.__contains__" sHas f fd) (B : Bt mg) (hstr : mg "str" = none) (T : DkT K DC) (TF : FlT K FC) : FnOk P w K mg base CX0 1 f fd ["self", "thing"] (spHas FC DC CC) := by
  refine F.ok scHas (fun vs H Q E h => ?_) (fun cdv A outer s H vs Q E hr h => ?_)
  · obtain ⟨D, tD, cs, x, fl, rfl, _⟩ := h
    rfl
  · obtain ⟨D, tD, cs, x, fl, rfl, hD, hF, q⟩ := h
    have hu := hu_of hr
    refine ⟨_, pss_one (ps_ret (pe_and (pe_callB call_isi (by rfl) B.isinstance boot_isi' (pa_cons (pv 1) (pa_cons (tyS (by rfl) hstr) pa_nil))) (pe_one (pe_cmp (pc_din hu (pv 1) (pe_fld (pe_fld (pv 0) rfl) rfl)))))), ?_⟩
    cases hs : fl.isStr with
    | false =>
      obtain ⟨t, ty, kt⟩ := hF.ty (K := K)
      rw [hs] at kt
      refine ⟨_, rfl, _, _, _, _, _, rfl, .ty _, ty, kt, _, rfl, iteF ?_⟩
      have e : hasF cs fl = false := by cases fl <;> first | rfl | cases hs
      rw [e] at q
      exact q
    | true =>
      cases fl with
      | str z =>
        cases hF.1
        refine ⟨_, rfl, _, _, _, _, _, rfl, .ty _, .base (.str z), kit_ty (r := true) (by decide +kernel), _, rfl, iteT ?_⟩
        refine ⟨_, rfl, _, rfl, D.d, DC, D.dx, _, _, rfl, hD.desk, T.cl, T.no, rfl, D.f, FC, D.fx, _, _, rfl, hD.floor, TF.cl, TF.no _ (by simp), rfl, D.nD, _, rfl, DGet.k (k := Sum.inr z) hD.names, ?_⟩
        rw [valV_names]
        exact q
      | _ => cases hs
abbrev sLenD : Stmt := (inClass (top 14) 12)
theorem scLenD : FnScope ["self"] ["self"] (defScope sLenD) := ⟨rfl, rfl, rfl, by decide +kernel, rfl, by decide +kernel, by decide +kernel⟩
def spLenD (FC DC CC : Addr) : Sp := fun vs H Q _ => ∃ (D : DA) (tD : Addr) (cs : List Ce), vs = [.ref D.d] ∧ DeskAt FC DC CC H D tD cs ∧ Q (.int 0) H
theorem ok_lenD {f : Addr} {fd : FuncData} (F : Fun K "__len__" "Desk.__len__" sLenD f fd) (B : Bt mg) (T : DkT K DC) (TF : FlT K FC) : FnOk P w K mg base CX0 1 f fd ["self"] (spLenD FC DC CC) := by
  refine F.ok scLenD (fun vs H Q E h => ?_) (fun cdv A outer s H vs Q E hr h => ?_)
  · obtain ⟨D, tD, cs, rfl, _⟩ := h
    rfl
  · obtain ⟨D, tD, cs, rfl, hD, q⟩ := h
    refine ⟨_, pss_one (ps_ret (pe_callB call_len (by rfl) B.len PySem.boot_len (pa_cons (pe_fld (pe_fld (pv 0) rfl) rfl) pa_nil))), ?_⟩
    exact ⟨_, rfl, D.d, DC, D.dx, _, _, rfl, hD.desk, T.cl, T.no, rfl, D.f, FC, D.fx, _, _, rfl, hD.floor, TF.cl, TF.no _ (by simp), rfl, _, _, rfl, .inl ⟨_, SqL.of hD.log, rfl⟩, q⟩
abbrev sIterD : Stmt := (inClass (top 14) 13)
theorem scIterD : FnScope ["self"] ["self"] (defScope sIterD) := ⟨rfl, rfl, rfl, by decide +kernel, rfl, by decide +kernel, by decide +kernel⟩
def spIterD (FC DC CC : Addr) : Sp := fun vs H Q _ => ∃ (D : DA) (tD : Addr) (cs : List Ce), vs = [.ref D.d] ∧ DeskAt FC DC CC H D tD cs ∧ ∀ it, H it = none → Q (.ref it) (upd H it (ItO D.lL it 0))
theorem boot_iter' : bootBuiltins "iter" = some (.builtin "iter") := by decide +kernel
theorem ok_iterD {f : Addr} {fd : FuncData} (F : Fun K "__iter__" "Desk.__iter__" sIterD f fd) (hit : mg "iter" = none) (T : DkT K DC) (TF : FlT K FC) : FnOk P w K mg base CX0 1 f fd ["self"] (spIterD FC DC CC) := by
  refine F.ok scIterD (fun vs H Q E h => ?_) (fun cdv A outer s H vs Q E hr h => ?_)
  · obtain ⟨D, tD, cs, rfl, _⟩ := h
    rfl
  · obtain ⟨D, tD, cs, rfl, hD, q⟩ := h
    refine ⟨_, pss_one (ps_ret (pe_callB call_iterL (by rfl) hit boot_iter' (pa_cons (pe_fld (pe_fld (pv 0) rfl) rfl) pa_nil))), ?_⟩
    exact ⟨_, rfl, D.d, DC, D.dx, _, _, rfl, hD.desk, T.cl, T.no, rfl, D.f, FC, D.fx, _, _, rfl, hD.floor, TF.cl, TF.no _ (by simp), rfl, D.lL, _, rfl, SqL.of hD.log, q⟩
end
end My

set_option Elab.async false
set_option linter.all false
set_option maxRecDepth 100000
set_option maxHeartbeats 4000000
/-! Q8: drawn names. -/
namespace My
open PySem PySem.Spec PyProof.Rows L2
theorem strOk_app (a b : Str) : PyData.strOk (a ++ b) = (PyData.strOk a && PyData.strOk b) := by
  show (a ++ b).cps.all _ = _
  rw [Str.cps_append, Array.all_append]
  rfl
theorem rep_fold (c : Array Nat) : ∀ (n : Nat) (acc : Array Nat), ((List.replicate n c).foldl (· ++ ·) acc).size = acc.size + n * c.size ∧ (acc.all (· < 0x110000) = true → c.all (· < 0x110000) = true → ((List.replicate n c).foldl (· ++ ·) acc).all (· < 0x110000) = true)
  | 0, acc => ⟨by simp, fun h _ => h⟩
  | n + 1, acc => by
    obtain ⟨h1, h2⟩ := rep_fold c n (acc ++ c)
    rw [List.replicate_succ, List.foldl_cons]
    refine ⟨by rw [h1, Array.size_append, Nat.succ_mul]; omega, fun a b => h2 (by rw [Array.all_append, a, b]; rfl) b⟩
theorem mul_q (q : Str) (hq : q.length = 1) (ok : PyData.strOk q = true) (n : Int) (hn : 1 ≤ n) : ((Txt.mul q n).length : Int) = n ∧ PyData.strOk (Txt.mul q n) = true := by
  unfold Txt.mul
  rw [if_neg (by omega)]
  by_cases e : n = 1
  · rw [if_pos (by rw [e]; rfl)]
    exact ⟨by rw [hq, e]; rfl, ok⟩
  · rw [if_neg (by rw [hq]; simp [e])]
    obtain ⟨h1, h2⟩ := rep_fold q.cps n.toNat #[]
    have h3 : q.cps.size = 1 := hq
    refine ⟨?_, h2 (by simp) ok⟩
    show ((((List.replicate n.toNat q.cps).foldl (· ++ ·) #[]).size : Nat) : Int) = n
    rw [h1, h3]
    simp
    omega
theorem mulOk_q (q : Str) (hq : q.length = 1) (n : Int) (hn : 1 ≤ n) (hm : n ≤ 1000) : MulOk q n := by
  refine ⟨?_, fun _ _ => ?_, fun _ _ => ?_⟩
  · rw [decide_eq_false (by omega), decide_eq_false (by omega)]; rfl
  · rw [hq]
    have : (1 : Int) ≤ (2 ^ 63 - 1) / n := by
      rw [Int.le_ediv_iff_mul_le (by omega)]
      omega
    show ¬ ((1 : Int) > (2 ^ 63 - 1) / n)
    omega
  · rw [hq, Nat.one_mul]
    show Builtin.Str.tooLong n.toNat = false
    unfold Builtin.Str.tooLong
    have := sizeLine_eq
    exact decide_eq_false (by omega)
def rMulS : R2 := fun x y H Q => ∃ (a : Str) (n : Int), x = .str a ∧ y = .int n ∧ MulOk a n ∧ Q (.str (Txt.mul a n)) H
theorem op_mulS {X : Cx} : OpR X (binaryOp .Mult) rMulS := by
  intro pins s σ H x y v u Q I rx ry h
  obtain ⟨a, n, rfl, rfl, ok, q⟩ := h
  obtain ⟨t, rfl⟩ := rx
  obtain ⟨t', rfl⟩ := ry
  exact SB.mul ok fun t2 k => ⟨.str _, H, I.tok _, ⟨_, rfl⟩, q⟩
theorem join_ok : ∀ ys : List Str, (∀ y ∈ ys, y.length ≤ 4 ∧ PyData.strOk y = true) → (Str.join "" ys).length ≤ 4 * ys.length ∧ PyData.strOk (Str.join "" ys) = true
  | [], _ => ⟨by decide, by decide +kernel⟩
  | [x], h => by
    have := h x (by simp)
    exact ⟨by show x.length ≤ _; simp; exact this.1, this.2⟩
  | x :: y :: r, h => by
    obtain ⟨a, b⟩ := join_ok (y :: r) fun z hz => h z (List.mem_cons_of_mem _ hz)
    have hx := h x (by simp)
    show (x ++ "" ++ Str.join "" (y :: r)).length ≤ _ ∧ PyData.strOk (x ++ "" ++ Str.join "" (y :: r)) = true
    have e0 : ("" : Str).length = 0 := by decide +kernel
    have o0 : PyData.strOk ("" : Str) = true := by decide +kernel
    rw [Str.length_append, Str.length_append, strOk_app, strOk_app, hx.2, b, o0, e0]
    simp only [List.length_cons] at a ⊢
    exact ⟨by omega, rfl⟩
theorem sum_four : ∀ ys : List Str, (∀ y ∈ ys, y.length ≤ 4) → (ys.map (·.length)).sum ≤ 4 * ys.length
  | [], _ => Nat.le_refl _
  | y :: r, h => by
    have := sum_four r fun z hz => h z (List.mem_cons_of_mem _ hz)
    have hy := h y (by simp)
    rw [List.map_cons, List.sum_cons, List.length_cons]
    omega
theorem inV_strs (z : Str) (zs : List Str) : inV (.str z) (zs.map V.str) = decide (z ∈ zs) := by
  induction zs with
  | nil => rfl
  | cons y r ih =>
    have e : inV (.str z) ((y :: r).map V.str) = (eqV (.str y) (.str z) || inV (.str z) (r.map V.str)) := rfl
    rw [e, ih]
    by_cases q : y = z
    · subst q
      simp [eqV]
    · have q2 : ¬ z = y := fun w => q w.symm
      simp [eqV, q, q2]
theorem flat_strs (zs : List Str) : (zs.map V.str).all flatV = true := by
  induction zs with
  | nil => rfl
  | cons y r ih => rw [List.map_cons, List.all_cons, ih]; rfl
/-- names as they are drawn -/
def NamesOk (zs : List Str) : Prop := zs.Nodup ∧ ∀ z ∈ zs, z.length ≤ 13 * zs.length ∧ PyData.strOk z = true
theorem NamesOk.snoc {zs : List Str} {z : Str} (h : NamesOk zs) (hz : z ∉ zs) (hl : z.length ≤ 13 * (zs.length + 1)) (ok : PyData.strOk z = true) : NamesOk (zs ++ [z]) := by
  refine ⟨nd_snoc h.1 hz, fun y hy => ?_⟩
  rw [List.length_append, List.length_singleton]
  rcases List.mem_append.mp hy with hy | hy
  · have := h.2 y hy
    exact ⟨by omega, this.2⟩
  · rw [List.mem_singleton.mp hy]
    exact ⟨hl, ok⟩
def spNames : Sp := fun vs H Q _ => ∃ (b : Addr) (m : Nat) (n : Int), vs = [.ref b, .int m] ∧ BagAt H b n ∧ m ≤ 7 ∧ n < 900000 ∧ ∀ (H' : Hp) (l : Addr) (zs : List Str), Kp [b] H H' → BagAt H' b (n + 4 * m) → H l = none → H' l = some (.lst (zs.map V.str)) → NamesOk zs → zs.length = m → Q (.ref l) H'
section
variable {P : Program} {w : World} {K : PySem.W.Frag} {mg : Str → Option Value} {base : Heap}
abbrev sNames : Stmt := (top 23)
abbrev NNames : List Str := ["_law_bag_here", "_law_many", "_law_found", "_law_turn", "_law_letters", "_law_name", "_law_k", "_law_one"]
theorem scNames : FnScope NNames ["_law_bag_here", "_law_many"] (defScope sNames) := ⟨rfl, rfl, rfl, by decide +kernel, rfl, by decide +kernel, by decide +kernel⟩
theorem ok_names {f fT fO : Addr} {fd dT dO : FuncData} (F : Fun K "_law_names" "_law_names" sNames f fd) (B : Bt mg) (aT : At K mg "_law_take" fT) (bT : Binds K dT ["_law_bag_here", "_law_many"] []) (oT : FnOk P w K mg base CX0 1 fT dT ["_law_bag_here", "_law_many"] spTake)
    (aO : At K mg "_law_of" fO) (bO : Binds K dO ["_law_bag_here", "_law_some"] []) (oO : FnOk P w K mg base CX0 2 fO dO ["_law_bag_here", "_law_some"] (spOf K)) : FnOk P w K mg base CX0 3 f fd ["_law_bag_here", "_law_many"] spNames := by
  refine F.ok scNames (fun vs H Q E h => ?_) (fun cdv A outer s H vs Q E hr h => ?_)
  · obtain ⟨b, m, n, rfl, _⟩ := h
    rfl
  · obtain ⟨b, m, n, rfl, hB, hm, hn, k⟩ := h
    have nd := scNames.nd
    have hr1 := hr.mono (by decide : 1 ≤ 2)
    have hsl := sizeLine_eq
    have nine : ∀ (t : Nat) (x : V), ([.str "a", .str "b", .str "z", .str "K", .str "7", .str " ", .str "-", .str "kept", .str "log"] : List V)[t]? = some x → ∃ y : Str, x = .str y ∧ y.length ≤ 4 ∧ PyData.strOk y = true := by
      intro t x hx
      match t, hx with
      | 0, hx => exact ⟨_, (Option.some.inj hx).symm, by decide +kernel, by decide +kernel⟩
      | 1, hx => exact ⟨_, (Option.some.inj hx).symm, by decide +kernel, by decide +kernel⟩
      | 2, hx => exact ⟨_, (Option.some.inj hx).symm, by decide +kernel, by decide +kernel⟩
      | 3, hx => exact ⟨_, (Option.some.inj hx).symm, by decide +kernel, by decide +kernel⟩
      | 4, hx => exact ⟨_, (Option.some.inj hx).symm, by decide +kernel, by decide +kernel⟩
      | 5, hx => exact ⟨_, (Option.some.inj hx).symm, by decide +kernel, by decide +kernel⟩
      | 6, hx => exact ⟨_, (Option.some.inj hx).symm, by decide +kernel, by decide +kernel⟩
      | 7, hx => exact ⟨_, (Option.some.inj hx).symm, by decide +kernel, by decide +kernel⟩
      | 8, hx => exact ⟨_, (Option.some.inj hx).symm, by decide +kernel, by decide +kernel⟩
    refine ⟨_, pss_cons (ps_set (i := 2) nd rfl (Or.inl rfl) (pe_lst pa_nil))
      (pss_cons (ps_for PassesOwn.never rfl (pi_range1 rfl B.range (pa_cons (pv 1) pa_nil)) (pg_name (i := 3) nd rfl (Or.inl rfl))
        (pss_cons (ps_setLc (i := 4) (own := [("_law_k", 6)]) (g := gName 6) (tt := tYes) rfl nd rfl rfl (sw_true rfl rfl rfl (by decide +kernel)) (pi_range1 rfl B.range (pa_cons (pe_call oT hr1 (by rfl) aT.g aT.k bT .nil pass0 (pa_cons (pv 0) (pa_cons pe_int pa_nil))) pa_nil)) (blkOk_by (own := [("_law_k", 6)]) (N := NNames) (sc := defScope sNames) (by decide +kernel)) (fun _ _ _ _ _ => pg_name (i := 6) nd rfl (Or.inl rfl)) (fun _ _ _ _ _ => pts_nil)
            (fun _ _ _ _ _ => pe_call oO hr (by rfl) aO.g aO.k bO .nil pass0 (pa_cons (pv 0) (pa_cons (pe_lst (pa_cons pe_str (pa_cons pe_str (pa_cons pe_str (pa_cons pe_str (pa_cons pe_str (pa_cons pe_str (pa_cons pe_str (pa_cons pe_str (pa_cons pe_str pa_nil)))))))))) pa_nil))))
        (pss_cons (ps_set (i := 5) nd rfl (Or.inl rfl) (pe_join pe_str (pv 4)))
        (C8.pss_cut (ps_if (pt_cmpR op_in_seq (pv 5) (pv 2) (by rfl)) (pss_one (ps_set (i := 5) nd rfl (Or.inl rfl) (pe_op op_add_str (pv 5) (pe_op op_mulS pe_str (pe_op op_add pe_int (pe_callB (cr_max rfl) (by rfl) B.max boot_max (pa_cons (pe_lc (own := [("_law_one", 7)]) (g := gName 7) (tt := tYes) rfl nd (pi_list (pv 2)) (blkOk_by (own := [("_law_one", 7)]) (N := NNames) (sc := defScope sNames) (by decide +kernel)) (fun _ _ _ _ _ => pg_name (i := 7) nd rfl (Or.inl rfl)) (fun _ _ _ _ _ => pts_nil)
            (fun _ _ _ _ _ => pe_callB call_len_str (by rfl) B.len PySem.boot_len (pa_cons (pv 7) pa_nil))) pa_nil))))))) pss_nil)
        (pss_one (ps_expr (pe_bm PySem.F.plainAttrs_list PySem.F.slot_list_append PySem.F.type_list_append mt_append (pv 2) (pa_cons (pv 5) pa_nil))))))))
      (pss_one (ps_ret (pv 2)))), ?_⟩
    refine ⟨(by show 0 ≤ sizeLine; omega), fun l hl => ?_⟩
    have nlb : l ≠ b := by obtain ⟨_, _, _, hb, _⟩ := hB; exact (ne_of_none hb hl).symm
    refine ⟨_, rfl, m, rfl, by omega, by omega, for_range (lo := 0) (n := m) (fun i σ H' => ∃ (zs : List Str) (v3 v4 v5 : Option V), σ = [some (.ref b), some (.int m), some (.ref l), v3, v4, v5, none, none] ∧ Kp [b] H H' ∧ BagAt H' b (n + 4 * i) ∧ H' l = some (.lst (zs.map V.str)) ∧ NamesOk zs ∧ zs.length = i)
      ⟨[], none, none, none, rfl, Kp.new hl, ?_, upd_same, ⟨.nil, fun z hz => (nomatch hz)⟩, rfl⟩ ?_ ?_⟩
    · exact (hB.kp (Kp.new (S := []) hl) (by simp)).up (by omega)
    · rintro i σ H1 hi ⟨zs, v3, v4, v5, rfl, k1, hB1, hl1, hN, hzl⟩
      refine ⟨_, rfl, b, _, _, rfl, hB1, by omega, by decide, by decide, fun H2 r k2 hB2 r0 r1 => ⟨r, rfl, by omega, by omega, fun D hD => lc_range (lo := 0) (n := r.toNat) (fun j H' => ∃ ys : List Str, Kp [b] H2 H' ∧ BagAt H' b (n + 4 * i + 1 + j) ∧ H' D = some (.lst (ys.map V.str)) ∧ ys.length = j ∧ ∀ y ∈ ys, y.length ≤ 4 ∧ PyData.strOk y = true)
        ⟨[], Kp.new hD, (hB2.kp (Kp.new (S := []) hD) (by simp)).up (by omega), upd_same, rfl, fun y hy => (nomatch hy)⟩ ?_ ?_⟩⟩
      · rintro j H3 hj ⟨ys, k3, hB3, hD3, hyl, hys⟩
        refine ⟨rfl, _, rfl, (by show 9 ≤ sizeLine; omega), fun p hp => ?_⟩
        have npb : p ≠ b := by obtain ⟨_, _, _, hb, _⟩ := hB3; exact (ne_of_none hb hp).symm
        have npD : D ≠ p := ne_of_none hD3 hp
        have nDb : D ≠ b := by obtain ⟨_, _, _, hb, _⟩ := hB2; exact (ne_of_none hb hD).symm
        refine ⟨b, p, _, _, rfl, hB3.kp (Kp.new (S := []) hp) (by simp), by omega, upd_same, by decide, by decide, npb, fun H4 t x k4 hB4 hx => ?_⟩
        obtain ⟨y, rfl, y4, yok⟩ := nine t x hx
        have hD4 : H4 D = some (.lst (ys.map V.str)) := k4 _ _ (by simpa using nDb) (by rw [upd_ne npD]; exact hD3)
        refine ⟨_, hD4, by rw [List.length_map]; omega, ys ++ [y], fun c o nc e => ?_, ?_, by rw [upd_same, List.map_append]; rfl, by rw [List.length_append, List.length_singleton, hyl], fun w hw => ?_⟩
        · have e3 := k3 c o nc e
          have ncD : c ≠ D := fun z => by rw [z, hD] at e; cases e
          rw [upd_ne ncD]
          exact k4 c o nc (by rw [upd_ne (ne_of_none e3 hp)]; exact e3)
        · exact (hB4.kp (S := [D]) (Kp.put (by simp)) (by simpa using nDb.symm)).up (by omega)
        · rcases List.mem_append.mp hw with hw | hw
          · exact hys w hw
          · rw [List.mem_singleton.mp hw]; exact ⟨y4, yok⟩
      · rintro H3 ⟨ys, k3, hB3, hD3, hyl, hys⟩
        have hjo := join_ok ys hys
        have hsum := sum_four ys fun y hy => (hys y hy).1
        have e0 : ("" : Str).length = 0 := by decide +kernel
        refine ⟨⟨_, rfl⟩, _, rfl, "", D, ys, rfl, rfl, .inl (SqL.of hD3), by rw [e0]; omega, ?_⟩
        obtain ⟨z0, hz0⟩ : ∃ z0, Txt.join ("" : Str) ys = z0 := ⟨_, rfl⟩
        rw [hz0]
        rw [← TL.join_eq, hz0] at hjo
        have l12 : z0.length ≤ 12 := by have := hjo.1; omega
        have hl3 : H3 l = some (.lst (zs.map V.str)) := k3 _ _ (by simpa using nlb) (k2 _ _ (by simpa using nlb) hl1)
        refine ⟨fun σ' H' => ∃ z : Str, σ' = [some (.ref b), some (.int m), some (.ref l), some (.int (0 + (i : Int))), some (.ref D), some (.str z), none, none] ∧ Kp [] H3 H' ∧ z ∉ zs ∧ z.length ≤ 13 * (zs.length + 1) ∧ PyData.strOk z = true, ?_, ?_⟩
        · refine ⟨_, rfl, _, rfl, l, _, rfl, .inl (SqL.of hl3), rfl, flat_strs zs, _, rfl, ?_⟩
          refine ite2 (fun e => ?_) (fun e => ⟨z0, rfl, Kp.refl H3, ?_, by omega, hjo.2⟩)
          · refine ⟨_, rfl, _, rfl, l, rfl, ⟨_, SqL.of hl3⟩, fun D2 hD2 => lc_list (K := K) (a := l) (xs := zs.map V.str) (fun j H' => Kp [] H3 H' ∧ H' D2 = some (.lst (((zs.take j).map fun z : Str => (z.length : Int)).map V.int))) ⟨Kp.new hD2, upd_same⟩ (fun j H' _ e => SqL.of (e.1 _ _ (by simp) hl3)) ?_ ?_⟩
            · rintro j x H4 hx ⟨k4, h4⟩
              rw [List.getElem?_map] at hx
              cases hzj : zs[j]? with
              | none => rw [hzj] at hx; cases hx
              | some zj =>
                rw [hzj] at hx
                cases hx
                have hj := (List.getElem?_eq_some_iff.mp hzj).1
                have hlz := (hN.2 zj (List.mem_of_getElem? hzj)).1
                have tk : zs.take (j + 1) = zs.take j ++ [zj] := by rw [List.take_succ, hzj]; rfl
                refine ⟨rfl, _, rfl, zj, rfl, by omega, _, h4, by rw [List.length_map, List.length_map, List.length_take]; omega, fun c o nc e => ?_, ?_⟩
                · rw [upd_ne (fun z => by rw [z, hD2] at e; cases e)]; exact k4 c o nc e
                · rw [upd_same, tk, List.map_append, List.map_append]; rfl
            · rintro H4 ⟨k4, h4⟩
              rw [List.length_map, List.take_length] at h4
              have hin : z0 ∈ zs := by
                have e2 : inV (.str z0) (zs.map V.str) = true := e
                rw [inV_strs] at e2
                exact of_decide_eq_true e2
              have hpos : 0 < zs.length := List.length_pos_of_mem hin
              refine ⟨D2, _, rfl, SqL.of h4, by rw [List.length_map]; exact hpos, fun mx hmx hall => ?_⟩
              obtain ⟨zm, hzm, rfl⟩ := List.mem_map.mp hmx
              have hzl2 := (hN.2 zm hzm).1
              obtain ⟨mq1, mq2⟩ := mul_q "q" (by decide +kernel) (by decide +kernel) (1 + (zm.length : Int)) (by omega)
              refine ⟨_, _, rfl, rfl, _, _, rfl, rfl, mulOk_q "q" (by decide +kernel) _ (by omega) (by omega), _, _, rfl, rfl, by omega, ?_⟩
              refine ⟨_, rfl, k4, fun hm2 => ?_, ?_, ?_⟩
              · have h5 := hall _ (List.mem_map_of_mem (f := fun z : Str => (z.length : Int)) hm2)
                rw [Str.length_append] at h5
                omega
              · rw [Str.length_append]; omega
              · rw [strOk_app, hjo.2, mq2]; rfl
          · have e2 : ¬ inV (.str z0) (zs.map V.str) = true := e
            rw [inV_strs, decide_eq_true_eq] at e2
            exact e2
        · rintro σ' H4 ⟨z, rfl, k4, hz, hzl2, hok⟩
          have hl4 : H4 l = some (.lst (zs.map V.str)) := k4 _ _ (by simp) hl3
          refine ⟨_, rfl, .inl ⟨rfl, _, SqL.of hl4⟩, _, rfl, l, _, _, rfl, rfl, hl4, by rw [List.length_map]; omega, ?_⟩
          refine ⟨zs ++ [z], _, _, _, rfl, fun c o nc e => ?_, ?_, by rw [upd_same, List.map_append]; rfl, hN.snoc hz hzl2 hok, by rw [List.length_append, List.length_singleton, hzl]⟩
          · rw [upd_ne (fun w => by rw [w, hl] at e; cases e)]
            exact k4 _ _ (by simp) (k3 c o nc (k2 c o nc (k1 c o nc e)))
          · exact ((hB3.kp k4 (by simp)).kp (S := [l]) (Kp.put (by simp)) (by simpa using nlb.symm)).up (by omega)
    · rintro σ H1 ⟨zs, v3, v4, v5, rfl, k1, hB1, hl1, hN, hzl⟩
      exact ⟨_, rfl, k H1 l zs k1 hB1 hl hl1 hN hzl⟩
end
end My

set_option Elab.async false
set_option linter.all false
set_option maxRecDepth 100000
set_option maxHeartbeats 4000000
/-! Q9: what the law shows, and names that are none. -/
namespace My
open PySem PySem.Spec PyProof.Rows L2
def duesT (cs : List Ce) : List (Key × V) := cs.map fun c => (Sum.inr c.z, V.int c.v)
theorem valV_due {cs : List Ce} {c : Ce} (h : c ∈ cs) (nd : (cs.map Ce.z).Nodup) : valV (duesT cs) (Sum.inr c.z) = some (.int c.v) := by
  induction cs with
  | nil => cases h
  | cons b r ih =>
    rw [List.map_cons, List.nodup_cons] at nd
    rcases List.mem_cons.mp h with rfl | h
    · exact valV_pos (p := (Sum.inr c.z, V.int c.v)) rfl
    · have e : ¬ b.z = c.z := fun q => nd.1 (by rw [q]; exact List.mem_map_of_mem h)
      have ne : ¬ (Sum.inr b.z : Key) = Sum.inr c.z := fun q => e (Sum.inr.inj q)
      show valV ((Sum.inr b.z, V.int b.v) :: duesT r) (Sum.inr c.z) = _
      rw [valV_neg ne]
      exact ih h nd.2
/-- an operator of the class of desks -/
structure SO (P : Program) (w : World) (K : PySem.W.Frag) (mg : Str → Option Value) (base : Heap) (CX : CXT) (C : Addr) (m : Str) (k : Nat) (ps : List Str) (sp : Sp) (f : Addr) (fd : FuncData) : Prop where
  m : Spc K C m f
  i : PySem.W.fnIn K f = true
  b : Binds K fd ps []
  o : FnOk P w K mg base CX k f fd ps sp
theorem passL' {X : Cx} : ∀ σ, PassesAt (L2.CX X.prog X.w) X σ E0 := fun σ pins H s e s' I h => passL pins σ H s e s' I h
section
variable {P : Program} {w : World} {K : PySem.W.Frag} {mg : Str → Option Value} {base : Heap} {FC DC CC NN TE' : Addr}
abbrev sIsInt : Stmt := (top 24)
theorem scIsInt : FnScope ["_law_thing"] ["_law_thing"] (defScope sIsInt) := ⟨rfl, rfl, rfl, by decide +kernel, rfl, by decide +kernel, by decide +kernel⟩
def spIsInt : Sp := fun vs H Q _ => ∃ v : Int, vs = [.int v] ∧ Q (.bl true) H
theorem boot_bool' : bootBuiltins "bool" = some (.type "bool") := by decide +kernel
theorem ok_isInt {f : Addr} {fd : FuncData} (F : Fun K "_law_is_int" "_law_is_int" sIsInt f fd) (B : Bt mg) : FnOk P w K mg base CX0 1 f fd ["_law_thing"] spIsInt := by
  refine F.ok scIsInt (fun vs H Q E h => ?_) (fun cdv A outer s H vs Q E hr h => ?_)
  · obtain ⟨v, rfl, _⟩ := h
    rfl
  · obtain ⟨v, rfl, q⟩ := h
    refine ⟨_, pss_one (ps_ret (pe_and (pe_callB call_isi (by rfl) B.isinstance boot_isi' (pa_cons (pv 0) (pa_cons (pe_bltn (v := .ty "int") (by rfl) B.int str_int_none rfl) pa_nil))) (pe_one (pe_not (pe_callB call_isi (by rfl) B.isinstance boot_isi' (pa_cons (pv 0) (pa_cons (pe_bltn (v := .ty "bool") (by rfl) B.bool boot_bool' rfl) pa_nil))))))), ?_⟩
    refine ⟨_, rfl, _, _, _, _, _, rfl, .ty _, .base (.int v), kit_ty (r := true) (by decide +kernel), _, rfl, iteT ?_⟩
    exact ⟨_, rfl, _, _, _, _, _, rfl, .ty _, .base (.int v), kit_ty (r := false) (by decide +kernel), _, rfl, q⟩
abbrev sShows : Stmt := (top 25)
abbrev NShows : List Str := ["_law_desk", "_law_cells", "_law_names_here", "_law_dues", "_law_cell", "_law_name", "_law_due", "_law_found"]
theorem scShows : FnScope NShows ["_law_desk", "_law_cells", "_law_names_here", "_law_dues"] (defScope sShows) := ⟨rfl, rfl, rfl, by decide +kernel, rfl, by decide +kernel, by decide +kernel⟩
/-- the law's lists beside the desk -/
structure Side (H : Hp) (cl nl du : Addr) (cs : List Ce) : Prop where
  cl : H cl = some (.lst (cs.map fun c => V.ref c.a))
  nl : H nl = some (.lst (cs.map fun c => V.str c.z))
  du : H du = some (.dK (duesT cs))
  ok : ∀ c ∈ cs, PyData.strOk c.z = true
theorem Side.kp {S : List Addr} {H H' : Hp} {cl nl du : Addr} {cs : List Ce} (h : Side H cl nl du cs) (k : Kp S H H') (n1 : cl ∉ S) (n2 : nl ∉ S) (n3 : du ∉ S) : Side H' cl nl du cs := ⟨k _ _ n1 h.cl, k _ _ n2 h.nl, k _ _ n3 h.du, h.ok⟩
def spShows (FC DC CC : Addr) : Sp := fun vs H Q _ => ∃ (D : DA) (tD : Addr) (cs : List Ce) (cl nl du : Addr), vs = [.ref D.d, .ref cl, .ref nl, .ref du] ∧ DeskAt FC DC CC H D tD cs ∧ Side H cl nl du cs ∧ ∀ H', Kp [] H H' → Q (.bl true) H'
/-- the classes and defs that the law asks -/
structure LawE (P : Program) (w : World) (K : PySem.W.Frag) (mg : Str → Option Value) (base : Heap) (FC DC CC NN fG fSt fH fC fI fP pA gA : Addr) (dG dSt dH dC dI dP dV : FuncData) : Prop where
  get : SO P w K mg base (L2.CX P w) DC "__getitem__" 6 ["self", "at"] (spGet FC DC CC NN) fG dG
  set : SO P w K mg base (L2.CX P w) DC "__setitem__" 6 ["self", "at", "worth"] (spSet FC DC CC NN) fSt dSt
  has : SO P w K mg base CX0 DC "__contains__" 1 ["self", "thing"] (spHas FC DC CC) fH dH
  call : SO P w K mg base CX0 CC "__call__" 2 ["self"] (spCall FC CC) fC dC
  iadd : SO P w K mg base CX0 CC "__iadd__" 4 ["self", "other"] (spIadd FC DC CC) fI dI
  put : MO P w K mg base CC "put" 3 ["self", "value"] (spPut FC DC CC) fP dP
  putK : KBn K dP ["self", "value"] 1 ["value"] (fun us ws => us ++ ws) (fun us ws => us ++ ws)
  val : PO P w K mg base CC pA gA dV
  seq : PySem.W.noSeq K DC = true
  slf : PySem.W.selfFirst K CC = true
  TC : CeT K CC
  ic : C8.InsC K CC
  gC : mg "Cell" = some (.ref CC)
theorem ok_shows {f fN fG fSt fH fC fI fP pA gA : Addr} {fd dN dG dSt dH dC dI dP dV : FuncData} (F : Fun K "_law_shows" "_law_shows" sShows f fd) (B : Bt mg) (hzip : mg "zip" = none) (V0 : LawE P w K mg base FC DC CC NN fG fSt fH fC fI fP pA gA dG dSt dH dC dI dP dV)
    (aN : At K mg "_law_is_int" fN) (bN : Binds K dN ["_law_thing"] []) (oN : FnOk P w K mg base CX0 1 fN dN ["_law_thing"] spIsInt) : FnOk P w K mg base CX0 8 f fd ["_law_desk", "_law_cells", "_law_names_here", "_law_dues"] (spShows FC DC CC) := by
  refine F.ok scShows (fun vs H Q E h => ?_) (fun cdv A outer s H vs Q E hr h => ?_)
  · obtain ⟨D, tD, cs, cl, nl, du, rfl, _⟩ := h
    rfl
  · obtain ⟨D, tD, cs, cl, nl, du, rfl, hD, hS, k⟩ := h
    have nd := scShows.nd
    have hu := hu_of hr
    have h1 := hr.mono (by decide : 1 ≤ 7)
    have h2 := hr.mono (by decide : 2 ≤ 7)
    have hsl := sizeLine_eq
    refine ⟨_, pss_cons (ps_for PassesOwn.never rfl (RZ.pi_zipA (by rfl) hzip (pa_cons (pv 1) (pa_cons (pv 2) pa_nil))) (pg_tup rfl (pgs_cons (pg_name (i := 4) nd rfl (Or.inl rfl)) (pgs_cons (pg_name (i := 5) nd rfl (Or.inl rfl)) pgs_nil)))
        (pss_cons (ps_set (i := 6) nd rfl (Or.inl rfl) (pe_dget hu (pv 3) (pv 5) (fun _ _ => rfl)))
        (pss_cons (ps_for PassesOwn.never rfl (pi_list (pe_lst (pa_cons (pe_callO0 (pv 4) V0.call.m V0.call.i V0.call.o h2 V0.call.b pass0) (pa_cons (pe_prop (pv 4) V0.TC.cl V0.val.p V0.val.o h2 V0.val.b .nil pass0 rfl) (pa_cons (pe_subO (pv 0) (pv 5) V0.get.m V0.get.i V0.get.o hr V0.get.b passL') pa_nil))))) (pg_name (i := 7) nd rfl (Or.inl rfl))
          (pss_one (ps_if (pw_or (pt_not (pt_val (pe_call oN h1 (by rfl) aN.g aN.k bN .nil pass0 (pa_cons (pv 7) pa_nil)))) (pw_or1 (pt_cmpR op_ne (pv 7) (pv 6) (nomark _)))).pt (pss_one (ps_ret pe_bl)) pss_nil)))
        (pss_one (ps_if (pw_or (pt_not (pt_val (pe_callB (C8.call_isC V0.ic) (by rfl) B.isinstance boot_isi' (pa_cons (pv 4) (pa_cons (pe_glob (v := .ref CC) (by rfl) V0.gC rfl) pa_nil))))) (pw_or (pt_cmpR op_ne (pe_fld (pv 4) rfl) (pv 5) (nomark _)) (pw_or1 (pt_cmpR (notin_own V0.has.m V0.has.o h1 V0.has.b pass0) (pv 5) (pv 0) (by rfl))))).pt (pss_one (ps_ret pe_bl)) pss_nil)))))
      (pss_one (ps_ret pe_bl)), ?_⟩
    refine ⟨_, rfl, _, rfl, cl, nl, _, _, rfl, .inl ⟨SqL.of hS.cl, SqL.of hS.nl, RZ.for_zipL (K := K) (a := cl) (b := nl) (xs := cs.map fun c => V.ref c.a) (ys := cs.map fun c => V.str c.z) (by rw [List.length_map, List.length_map]) (fun i σ H' => ∃ v4 v5 v6 v7 : Option V, σ = [some (.ref D.d), some (.ref cl), some (.ref nl), some (.ref du), v4, v5, v6, v7] ∧ Kp [] H H')
      ⟨none, none, none, none, rfl, Kp.refl H⟩ (fun i σ H' ⟨_, _, _, _, _, kk⟩ => ⟨SqL.of (kk _ _ (by simp) hS.cl), SqL.of (kk _ _ (by simp) hS.nl)⟩) ?_ ?_⟩⟩
    · rintro i x y T σ H1 hx hy ⟨v4, v5, v6, v7, rfl, k1⟩ hT
      rw [List.getElem?_map] at hx hy
      cases hc : cs[i]? with
      | none => rw [hc] at hx; cases hx
      | some c =>
        rw [hc] at hx hy
        cases hx
        cases hy
        have hcm : c ∈ cs := List.mem_of_getElem? hc
        have k2 : Kp [] H (upd H1 T (.tup [V.ref c.a, V.str c.z])) := k1.trans (Kp.new hT)
        obtain ⟨H2, e2⟩ : ∃ H2, upd H1 T (.tup [V.ref c.a, V.str c.z]) = H2 := ⟨_, rfl⟩
        have hT2 : H2 T = some (.tup [V.ref c.a, V.str c.z]) := by rw [← e2]; exact upd_same
        rw [e2] at k2
        rw [e2]
        have D2 := hD.kp k2 (fun _ _ => by simp)
        have S2 := hS.kp k2 (by simp) (by simp) (by simp)
        have vd := valV_due hcm hD.zs
        refine ⟨T, _, rfl, SqT.of hT2, rfl, _, _, rfl, _, _, rfl, rfl, ?_⟩
        refine ⟨_, rfl, _, rfl, du, .int c.v, rfl, by rw [← vd]; exact DGet.k (k := Sum.inr c.z) S2.du, ?_⟩
        have ha := (D2.cell c hcm).1
        refine ⟨_, rfl, c.a, c.ax, _, rfl, ha, c.a, c.ax, D.f, D.fx, c.z, c.v, _, rfl, ha, D2.floor, rfl, rfl, ?_⟩
        refine ⟨_, rfl, c.a, c.ax, _, rfl, ha, c.a, c.ax, D.f, c.z, c.v, rfl, ha, ?_⟩
        refine ⟨_, rfl, _, rfl, D.d, D.dx, _, rfl, D2.desk, D, tD, cs, _, rfl, D2, .inl ⟨c, hcm, rfl, ?_⟩⟩
        refine ⟨(by show 3 ≤ sizeLine; omega), fun L hL => ⟨L, rfl, ⟨_, SqL.of upd_same⟩, for_list (K := K) (a := L) (xs := [V.int c.v, V.int c.v, V.int c.v]) (fun j σ H' => ∃ v7 : Option V, σ = [some (.ref D.d), some (.ref cl), some (.ref nl), some (.ref du), some (.ref c.a), some (.str c.z), some (.int c.v), v7] ∧ H' = upd H2 L (.lst [V.int c.v, V.int c.v, V.int c.v]))
          ⟨_, rfl, rfl⟩ (fun j σ H' _ ⟨_, _, e⟩ => by rw [e]; exact SqL.of upd_same) ?_ ?_⟩⟩
        · rintro j x σ H' hx ⟨v, rfl, rfl⟩
          have ex : x = V.int c.v := by
            match j, hx with
            | 0, hx => exact (Option.some.inj hx).symm
            | 1, hx => exact (Option.some.inj hx).symm
            | 2, hx => exact (Option.some.inj hx).symm
          subst ex
          refine ⟨_, rfl, c.v, rfl, _, rfl, iteF ?_⟩
          refine ⟨_, rfl, _, rfl, rfl, _, rfl, ?_⟩
          refine ite2 (fun e => ?_) (fun e => ⟨_, rfl, rfl⟩)
          exfalso
          have e' : (!decide (V.int c.v = V.int c.v)) = true := e
          rw [decide_eq_true rfl] at e'
          cases e'
        · rintro σ H' ⟨v, rfl, rfl⟩
          have k3 : Kp [] H (upd H2 L (.lst [V.int c.v, V.int c.v, V.int c.v])) := k2.trans (Kp.new hL)
          obtain ⟨H3, e3⟩ : ∃ H3, upd H2 L (.lst [V.int c.v, V.int c.v, V.int c.v]) = H3 := ⟨_, rfl⟩
          rw [e3] at k3
          rw [e3]
          have D3 := hD.kp k3 (fun _ _ => by simp)
          have ha3 := (D3.cell c hcm).1
          refine ⟨_, rfl, c.a, c.ax, _, rfl, ha3, _, rfl, iteF ?_⟩
          refine ⟨_, rfl, c.a, CC, c.ax, _, _, rfl, ha3, V0.TC.cl, V0.TC.no _ (by simp), rfl, _, rfl, rfl, _, rfl, ?_⟩
          refine ite2 (fun e => ?_) (fun e => ?_)
          · exfalso
            have e' : (!decide (V.str c.z = V.str c.z)) = true := e
            rw [decide_eq_true rfl] at e'
            cases e'
          · refine ⟨_, rfl, _, rfl, D.d, D.dx, _, rfl, D3.desk, D, tD, cs, _, .str c.z, rfl, D3, ⟨rfl, hS.ok c hcm⟩, _, rfl, _, rfl, ?_⟩
            have e : hasF cs (.str c.z) = true := decide_eq_true (List.mem_map_of_mem hcm)
            rw [e]
            exact iteF ⟨_, _, _, _, rfl, k3⟩
    · rintro σ H1 ⟨v4, v5, v6, v7, rfl, k1⟩
      exact k H1 k1
end
end My

set_option Elab.async false
set_option linter.all false
set_option maxRecDepth 100000
set_option maxHeartbeats 4000000
/-! Q10: a name that is none. -/
namespace My
open PySem PySem.Spec PyProof.Rows L2
/-- NoName, as the law catches it -/
structure NnT (K : PySem.W.Frag) (mg : Str → Option Value) (NN TE' : Addr) : Prop where
  x : XC K NN
  no : PySem.W.findIn K (.ref NN) "name" = some none
  g : mg "NoName" = some (.ref NN)
  gT : mg "TrackedError" = some (.ref TE')
  gV : mg "ValueError" = none
  ex : PySem.W.exmOne K (.ref NN) (.ref NN) = some true
  kT : PySem.W.kitOne K (.ref NN) (.ref TE') = some true
  kV : PySem.W.kitOne K (.ref NN) (.type "ValueError") = some true
theorem boot_ve' : bootBuiltins "ValueError" = some (.type "ValueError") := by decide +kernel
section
variable {P : Program} {w : World} {K : PySem.W.Frag} {mg : Str → Option Value} {base : Heap} {FC DC CC NN TE' : Addr}
abbrev sNoNm : Stmt := (top 26)
theorem scNoNm : FnScope ["_law_desk", "_law_odd", "_law_putting", "_law_found", "e"] ["_law_desk", "_law_odd", "_law_putting"] (defScope sNoNm) := ⟨rfl, rfl, rfl, by decide +kernel, rfl, by decide +kernel, by decide +kernel⟩
def spNoNm (FC DC CC : Addr) : Sp := fun vs H Q _ => ∃ (D : DA) (tD : Addr) (cs : List Ce) (x : V) (fl : Fld) (p : Bool), vs = [.ref D.d, x, .bl p] ∧ DeskAt FC DC CC H D tD cs ∧ FAt H fl x ∧ hasF cs fl = false ∧ ∀ H', Kp [] H H' → Q (.bl true) H'
theorem ok_noNm {f fG fSt fH fC fI fP pA gA : Addr} {fd dG dSt dH dC dI dP dV : FuncData} (F : Fun K "_law_no_name" "_law_no_name" sNoNm f fd) (B : Bt mg) (V0 : LawE P w K mg base FC DC CC NN fG fSt fH fC fI fP pA gA dG dSt dH dC dI dP dV) (N : NnT K mg NN TE') :
    FnOk P w K mg base CX0 8 f fd ["_law_desk", "_law_odd", "_law_putting"] (spNoNm FC DC CC) := by
  refine F.ok scNoNm (fun vs H Q E h => ?_) (fun cdv A outer s H vs Q E hr h => ?_)
  · obtain ⟨D, tD, cs, x, fl, p, rfl, _⟩ := h
    rfl
  · obtain ⟨D, tD, cs, x, fl, p, rfl, hD, hF, hn, k⟩ := h
    have nd := scNoNm.nd
    have h6 := hr.mono (by decide : 6 ≤ 7)
    have xf : XfC K NN := ⟨N.x.is.hg, N.x.is.hk, N.x.is.hs, N.x.is.hd⟩
    refine ⟨_, pss_cons (ps_try_as (i := 4) rfl rfl nd rfl rfl ⟨rfl, by decide, .inl N.g⟩ takes0
        (fun W pn xe tk _ => pss_one (ps_if (pt_val (pv 2)) (pss_one (ps_asg pe_int (pg_subS (pv 0) (pv 1) V0.set.m V0.seq V0.set.o h6 V0.set.b (fun σ => passAt tk σ)))) (pss_one (ps_set (i := 3) nd rfl (Or.inl rfl) (pe_subO (pv 0) (pv 1) V0.get.m V0.get.i V0.get.o hr V0.get.b (fun σ => passAt tk σ))))))
        (fun a oe cls d pn hz hf => pss_one (ps_ret (pe_and (pe_cmpR (show OpR _ (compareOp .Eq) (rEqD K) from op_eqD hr.units) (pe_xf xf N.no hz hf (pv 4)) (pv 1) (nomark _)) (pe_and (pe_callB (call_isP N.x hz hf) (by rfl) B.isinstance boot_isi' (pa_cons (pv 4) (pa_cons (pe_glob (v := .ref TE') (by rfl) N.gT rfl) pa_nil))) (pe_one (pe_callB (call_isP N.x hz hf) (by rfl) B.isinstance boot_isi' (pa_cons (pv 4) (pa_cons (pe_bltn (v := .ty "ValueError") (by rfl) N.gV boot_ve' rfl) pa_nil)))))))))
      (pss_one (ps_ret pe_bl)), ?_⟩
    refine ⟨_, rfl, p, rfl, ?_⟩
    cases p with
    | true =>
      refine iteT ⟨_, rfl, _, rfl, D.d, D.dx, _, rfl, hD.desk, D, tD, cs, x, 3, rfl, hD, .inr ⟨fl, hF, hn, fun H2 dd v k2 hd0 hdd hF2 => ⟨true, N.ex, fun _ a na => ?_, fun z => nomatch z⟩⟩⟩
      refine ⟨_, rfl, rfl, rfl, dd, _, v, rfl, hdd, rfl, _, rfl, fl.data, fl.data, Fld.dp hF2, Fld.dp (hF.same k2), Fld.shaped hF2, Fld.shaped (hF.same k2), ?_⟩
      rw [Fld.eqv]
      refine ⟨_, rfl, iteT ⟨_, rfl, _, _, true, dd, _, rfl, rfl, rfl, hdd, fun u r => r, N.kT, _, rfl, iteT ?_⟩⟩
      exact ⟨_, rfl, _, _, true, dd, _, rfl, rfl, rfl, hdd, fun u r => r, N.kV, k H2 k2⟩
    | false =>
      refine iteF ⟨_, rfl, _, rfl, D.d, D.dx, _, rfl, hD.desk, D, tD, cs, x, rfl, hD, .inr ⟨fl, hF, hn, fun H2 dd v k2 hd0 hdd hF2 => ⟨true, N.ex, fun _ a na => ?_, fun z => nomatch z⟩⟩⟩
      refine ⟨_, rfl, rfl, rfl, dd, _, v, rfl, hdd, rfl, _, rfl, fl.data, fl.data, Fld.dp hF2, Fld.dp (hF.same k2), Fld.shaped hF2, Fld.shaped (hF.same k2), ?_⟩
      rw [Fld.eqv]
      refine ⟨_, rfl, iteT ⟨_, rfl, _, _, true, dd, _, rfl, rfl, rfl, hdd, fun u r => r, N.kT, _, rfl, iteT ?_⟩⟩
      exact ⟨_, rfl, _, _, true, dd, _, rfl, rfl, rfl, hdd, fun u r => r, N.kV, k H2 k2⟩
end
end My

set_option Elab.async false
set_option linter.all false
set_option maxRecDepth 100000
set_option maxHeartbeats 8000000
/-! Q11: one deed of the law. -/
namespace My
open PySem PySem.Spec PyProof.Rows L2
theorem upd_id {H : Hp} {p : Addr} {o : HO} (h : H p = some o) : upd H p o = H := by
  funext b
  by_cases e : b = p
  · rw [e, upd_same, h]
  · rw [upd_ne e]
theorem dues_put {cs : List Ce} {i : Nat} {c : Ce} (v : Int) (hi : cs[i]? = some c) (nd : (cs.map Ce.z).Nodup) : putK (duesT cs) (Sum.inr c.z) (.int v) = duesT (cs.set i (c.to v)) := by
  have hv := valV_due (List.mem_of_getElem? hi) nd
  unfold putK
  rw [if_pos (by rw [valV_any, hv]; rfl)]
  apply List.ext_getElem?
  intro j
  unfold duesT
  rw [List.getElem?_map, List.getElem?_map, List.getElem?_map]
  by_cases ij : i = j
  · subst ij
    rw [List.getElem?_set_self ((List.getElem?_eq_some_iff.mp hi).1), hi]
    show some (if (Sum.inr c.z : Key) = Sum.inr c.z then _ else _) = _
    rw [if_pos rfl]
    rfl
  · rw [List.getElem?_set_ne ij]
    cases hj : cs[j]? with
    | none => rfl
    | some d =>
      have ne : ¬ (Sum.inr d.z : Key) = Sum.inr c.z := fun e => by
        have e2 : d.z = c.z := Sum.inr.inj e
        have h1 : (cs.map Ce.z)[j]? = some d.z := by rw [List.getElem?_map, hj]; rfl
        have h2 : (cs.map Ce.z)[i]? = some c.z := by rw [List.getElem?_map, hi]; rfl
        have hl2 : i < (cs.map Ce.z).length := by rw [List.length_map]; exact (List.getElem?_eq_some_iff.mp hi).1
        exact ij ((List.getElem?_inj hl2 nd).mp (by rw [h1, h2, e2]))
      show some (if (Sum.inr d.z : Key) = Sum.inr c.z then _ else _) = _
      rw [if_neg ne]
      rfl
theorem foot_to {D : DA} {tD t' x : Addr} {cs cs' : List Ce} (e : cs'.map Ce.a = cs.map Ce.a) (h : x ∈ foot D t' cs') : x = t' ∨ x ∈ foot D tD cs := by
  unfold foot at h ⊢
  rw [e] at h
  rcases List.mem_append.mp h with h | h
  · simp only [List.mem_cons, List.mem_nil_iff, or_false] at h
    rcases h with h | h | h | h | h | h | h | h
    · exact .inr (List.mem_append_left _ (by simp [h]))
    · exact .inr (List.mem_append_left _ (by simp [h]))
    · exact .inr (List.mem_append_left _ (by simp [h]))
    · exact .inr (List.mem_append_left _ (by simp [h]))
    · exact .inr (List.mem_append_left _ (by simp [h]))
    · exact .inr (List.mem_append_left _ (by simp [h]))
    · exact .inr (List.mem_append_left _ (by simp [h]))
    · exact .inl h
  · exact .inr (List.mem_append_right _ h)
/-- a cell of the desk has another value -/
def Done (FC DC CC : Addr) (D : DA) (tD : Addr) (cs : List Ce) (i : Nat) (c : Ce) (H4 : Hp) (w : Int) (H' : Hp) : Prop := ∃ t', Kp (foot D tD cs) H4 H' ∧ H4 t' = none ∧ DeskAt FC DC CC H' D t' (cs.set i (c.to w))
theorem done_of {FC DC CC : Addr} {D : DA} {tD t' : Addr} {cs : List Ce} {i : Nat} {c : Ce} {H4 H' : Hp} {w : Int} (hc : c ∈ cs) (k : Kp [D.f, tD, c.a] H4 H') (ht : H4 t' = none) (hD : DeskAt FC DC CC H' D t' (cs.set i (c.to w))) : Done FC DC CC D tD cs i c H4 w H' :=
  ⟨t', k.mono fun x hx => by
    simp only [List.mem_cons, List.mem_nil_iff, or_false] at hx
    rcases hx with rfl | rfl | rfl
    · exact List.mem_append_left _ (by simp)
    · exact List.mem_append_left _ (by simp)
    · exact List.mem_append_right _ (List.mem_map_of_mem hc), ht, hD⟩
/-- the law's things stand apart -/
def Apart (b cl nl du : Addr) (D : DA) (tD : Addr) (cs : List Ce) : Prop := (∀ x ∈ [b, cl, nl, du], x ∉ foot D tD cs) ∧ [b, cl, nl, du].Nodup
section
variable {P : Program} {w : World} {K : PySem.W.Frag} {mg : Str → Option Value} {base : Heap} {FC DC CC NN TE' : Addr}
abbrev sPutL : Stmt := (top 27)
abbrev NPutL : List Str := ["_law_bag_here", "_law_desk", "_law_cells", "_law_names_here", "_law_dues", "_law_k", "_law_cell", "_law_name", "_law_road", "_law_worth_here", "_law_more"]
theorem scPutL : FnScope NPutL ["_law_bag_here", "_law_desk", "_law_cells", "_law_names_here", "_law_dues"] (defScope sPutL) := ⟨rfl, rfl, rfl, by decide +kernel, rfl, by decide +kernel, by decide +kernel⟩
def spPutL (FC DC CC : Addr) : Sp := fun vs H Q _ => ∃ (D : DA) (tD : Addr) (cs : List Ce) (b cl nl du : Addr) (n : Int), vs = [.ref b, .ref D.d, .ref cl, .ref nl, .ref du] ∧ BagAt H b n ∧ n < 900000 ∧ DeskAt FC DC CC H D tD cs ∧ Side H cl nl du cs ∧ 0 < cs.length ∧ Apart b cl nl du D tD cs ∧
  ∀ H' t' cs', Kp (b :: du :: foot D tD cs) H H' → H t' = none → BagAt H' b (n + 5) → DeskAt FC DC CC H' D t' cs' → Side H' cl nl du cs' → cs'.map Ce.z = cs.map Ce.z → cs'.map Ce.a = cs.map Ce.a → Q (.bl true) H'
theorem ok_putL {f fT fW fG fSt fH fC fI fP pA gA : Addr} {fd dT dW dG dSt dH dC dI dP dV : FuncData} (F : Fun K "_law_put" "_law_put" sPutL f fd) (B : Bt mg) (V0 : LawE P w K mg base FC DC CC NN fG fSt fH fC fI fP pA gA dG dSt dH dC dI dP dV)
    (aT : At K mg "_law_take" fT) (bT : Binds K dT ["_law_bag_here", "_law_many"] []) (oT : FnOk P w K mg base CX0 1 fT dT ["_law_bag_here", "_law_many"] spTake) (aW : At K mg "_law_worth" fW) (bW : Binds K dW ["_law_bag_here"] []) (oW : FnOk P w K mg base CX0 2 fW dW ["_law_bag_here"] spWorth) :
    FnOk P w K mg base CX0 8 f fd ["_law_bag_here", "_law_desk", "_law_cells", "_law_names_here", "_law_dues"] (spPutL FC DC CC) := by
  refine F.ok scPutL (fun vs H Q E h => ?_) (fun cdv A outer s H vs Q E hr h => ?_)
  · obtain ⟨D, tD, cs, b, cl, nl, du, n, rfl, _⟩ := h
    rfl
  · obtain ⟨D, tD, cs, b, cl, nl, du, n, rfl, hB, hn, hD, hS, hpos, hA, k⟩ := h
    have nd := scPutL.nd
    have hu := hu_of hr
    have h1 := hr.mono (by decide : 1 ≤ 7)
    have h2 := hr.mono (by decide : 2 ≤ 7)
    have h3 := hr.mono (by decide : 3 ≤ 7)
    have h4 := hr.mono (by decide : 4 ≤ 7)
    have h6 := hr.mono (by decide : 6 ≤ 7)
    have hsl := sizeLine_eq
    have big : ((100 : Nat) : Int) < 2 ^ 200 := by decide
    have hlen := hD.len
    refine ⟨_, pss_cons (ps_set (i := 5) nd rfl (Or.inl rfl) (pe_call oT h1 (by rfl) aT.g aT.k bT .nil pass0 (pa_cons (pv 0) (pa_cons (pe_callB call_len (by rfl) B.len PySem.boot_len (pa_cons (pv 2) pa_nil)) pa_nil))))
      (pss_cons (ps_par (i := 6) (j := 7) rfl nd rfl rfl (by decide) rfl rfl (pa_cons (ixl (pv 2) (pv 5)) (pa_cons (ixl (pv 3) (pv 5)) pa_nil)) rfl)
      (pss_cons (ps_par3 (i := 8) (j := 9) (l := 10) rfl nd rfl rfl rfl (by decide) (by decide) (by decide) rfl rfl rfl (pa_cons (pe_call oT h1 (by rfl) aT.g aT.k bT .nil pass0 (pa_cons (pv 0) (pa_cons pe_int pa_nil))) (pa_cons (pe_call oW h2 (by rfl) aW.g aW.k bW .nil pass0 (pa_cons (pv 0) pa_nil))
          (pa_cons (pe_op op_sub (pe_call oT h1 (by rfl) aT.g aT.k bT .nil pass0 (pa_cons (pv 0) (pa_cons (pe_op op_pow pe_int pe_int) pa_nil))) (pe_op op_mul pe_int (pe_op op_pow pe_int pe_int))) pa_nil))) rfl)
      (C8.pss_cut (ps_if (pw_and (pt_cmpR op_eq (pv 8) pe_int (nomark _)) (pw_and1 (pt_cmp (pc_notN (pe_ifExp (pt_cmpR op_lt (pv 10) pe_int (nomark _)) (pe_methK (pv 6) V0.TC.cl V0.put.m V0.put.o h3 V0.putK pass0 (pk_cons (pv 9) pk_nil)) (pe_meth (pv 6) V0.TC.cl V0.put.m V0.put.o h3 V0.put.b .nil pass0 (pa_cons (pv 9) pa_nil))))))).pt (pss_one (ps_ret pe_bl)) pss_nil)
      (C8.pss_cut (ps_if (pt_cmpR op_eq (pv 8) pe_int (nomark _)) (pss_one (ps_asg (pv 9) (pg_sub (pv 1) (pv 7) (set_own V0.set.m V0.seq V0.set.o h6 V0.set.b passL)))) pss_nil)
      (C8.pss_cut (ps_if (pt_cmpR op_eq (pv 8) pe_int (nomark _)) (pss_cons (ps_aug (i := 6) nd rfl (Or.inl rfl) (pv 10) (ip_own V0.iadd.m V0.slf V0.iadd.o h4 V0.iadd.b pass0)) (pss_one (ps_asg (pv 6) (pg_sub (pv 2) (pv 5) set_list)))) pss_nil)
      (C8.pss_cut (ps_if (pt_cmpR op_eq (pv 8) pe_int (nomark _)) (pss_one (ps_augS (pv 1) (pv 7) (get_own V0.get.m V0.seq V0.get.o h6 V0.get.b passL) (pv 10) ip_add (set_own V0.set.m V0.seq V0.set.o h6 V0.set.b passL))) pss_nil)
      (pss_cons (ps_dput hu (pv 4) (pv 7) (pe_ifExp (pt_cmpR op_lt (pv 8) pe_int (nomark _)) (pv 9) (pe_op op_add (pe_dget hu (pv 4) (pv 7) (fun _ _ => rfl)) (pv 10))) rfl) (pss_one (ps_ret pe_bl))))))))), ?_⟩
    obtain ⟨hA1, hA2⟩ := hA
    have abl : ∀ x, x ∈ [b, cl, nl, du] → x ∉ foot D tD cs := hA1
    simp only [List.nodup_cons, List.mem_cons, List.mem_nil_iff, or_false, not_or, List.nodup_nil, and_true, not_false_eq_true] at hA2
    obtain ⟨⟨bc, bn, bd⟩, ⟨cn, cd⟩, nd'⟩ := hA2
    have fb : ∀ x, x ∈ foot D tD cs → x ≠ b := fun x hx e => abl b (by simp) (by rw [← e]; exact hx)
    refine ⟨_, rfl, _, rfl, _, _, rfl, .inl ⟨_, SqL.of hS.cl, rfl⟩, b, _, n, rfl, hB, by omega, by rw [List.length_map]; omega, by rw [List.length_map]; omega, fun H1 ri k1 hB1 r0 r1 => ?_⟩
    rw [List.length_map] at r1
    obtain ⟨i, rfl⟩ := Int.eq_ofNat_of_zero_le r0
    have hil : i < cs.length := by omega
    obtain ⟨c, hc⟩ : ∃ c, cs[i]? = some c := ⟨_, List.getElem?_eq_getElem hil⟩
    have hcm : c ∈ cs := List.mem_of_getElem? hc
    have S1 := hS.kp k1 (by simpa using Ne.symm bc) (by simpa using Ne.symm bn) (by simpa using Ne.symm bd)
    refine ⟨_, rfl, _, rfl, cl, _, i, V.ref c.a, rfl, rfl, SqL.of S1.cl, atI_nat (by rw [List.getElem?_map, hc]; rfl), _, rfl, _, rfl, nl, _, i, V.str c.z, rfl, rfl, SqL.of S1.nl, atI_nat (by rw [List.getElem?_map, hc]; rfl), _, _, rfl, ?_⟩
    refine ⟨_, rfl, b, 4, _, rfl, hB1, by omega, by decide, by decide, fun H2 r k2 hB2 q0 q1 => ?_⟩
    refine ⟨_, rfl, b, _, rfl, hB2, by omega, fun H3 v k3 hB3 _ _ => ?_⟩
    refine ⟨_, rfl, _, _, rfl, rfl, ⟨by decide, by decide, by decide⟩, b, _, _, rfl, hB3, by omega, by decide, by decide, fun H4 m0 k4 hB4 _ _ => ?_⟩
    refine ⟨_, _, rfl, rfl, ⟨by decide, by decide, by decide⟩, _, _, rfl, rfl, .inl ⟨by decide, by decide⟩, _, _, rfl, rfl, _, _, _, rfl, ?_⟩
    have kk : Kp [b] H H4 := k1.trans (k2.trans (k3.trans k4))
    have D4 := hD.kp kk (fun x hx => by simpa using fb x hx)
    have S4 := hS.kp kk (by simpa using Ne.symm bc) (by simpa using Ne.symm bn) (by simpa using Ne.symm bd)
    have ha4 := (D4.cell c hcm).1
    obtain ⟨σ, eσ⟩ : ∃ σ : L2.St, [some (V.ref b), some (V.ref D.d), some (V.ref cl), some (V.ref nl), some (V.ref du), some (V.int i), some (V.ref c.a), some (V.str c.z), some (V.int r), some (V.int v), some (V.int (m0 - 5 * 10 ^ (27 : Int).toNat))] = σ := ⟨_, rfl⟩
    have dec : ∀ (x y : Int), decide (V.int x = V.int y) = true → x = y := fun x y e => V.int.inj (of_decide_eq_true e)
    have ndec : ∀ (x y : Int), ¬ decide (V.int x = V.int y) = true → x ≠ y := fun x y e z => e (by rw [z]; exact decide_eq_true rfl)
    refine ⟨fun σ' H' => σ' = σ ∧ ((r = 0 ∧ Done FC DC CC D tD cs i c H4 v H') ∨ (r ≠ 0 ∧ H' = H4)), ?_, ?_⟩
    · refine ⟨_, rfl, rfl, _, rfl, ?_⟩
      refine ite2 (fun e => ?_) (fun e => iteF ⟨eσ, .inr ⟨ndec _ _ e, rfl⟩⟩)
      refine ⟨_, rfl, _, _, rfl, rfl, _, rfl, ?_⟩
      refine ite2 (fun e2 => ?_) (fun e2 => ?_)
      · exact ⟨_, rfl, c.a, c.ax, _, rfl, ha4, rfl, _, rfl, rfl, D, tD, cs, i, c, v, rfl, D4, hc, fun H5 t5 k5 ht5 D5 => ⟨_, rfl, iteF ⟨eσ, .inl ⟨dec _ _ e, done_of hcm k5 ht5 D5⟩⟩⟩⟩
      · exact ⟨_, rfl, c.a, c.ax, _, rfl, ha4, rfl, _, rfl, D, tD, cs, i, c, v, rfl, D4, hc, fun H5 t5 k5 ht5 D5 => ⟨_, rfl, iteF ⟨eσ, .inl ⟨dec _ _ e, done_of hcm k5 ht5 D5⟩⟩⟩⟩
    rintro σ' H' ⟨rfl, hM⟩
    subst eσ
    refine ⟨fun σ'' H'' => σ'' = [some (V.ref b), some (V.ref D.d), some (V.ref cl), some (V.ref nl), some (V.ref du), some (V.int i), some (V.ref c.a), some (V.str c.z), some (V.int r), some (V.int v), some (V.int (m0 - 5 * 10 ^ (27 : Int).toNat))] ∧ ((r < 2 ∧ Done FC DC CC D tD cs i c H4 v H'') ∨ (2 ≤ r ∧ H'' = H4)), ?_, ?_⟩
    · refine ⟨_, rfl, rfl, _, rfl, ?_⟩
      refine ite2 (fun e => ?_) (fun e => ⟨rfl, ?_⟩)
      · have e1 := dec _ _ e
        rcases hM with ⟨e0, _⟩ | ⟨_, rfl⟩
        · omega
        · exact ⟨_, rfl, _, rfl, _, rfl, D.d, D.dx, _, rfl, D4.desk, D, tD, cs, _, v, rfl, D4, .inl ⟨i, c, hc, rfl, fun H5 t5 k5 ht5 D5 => ⟨rfl, .inl ⟨by omega, done_of hcm k5 ht5 D5⟩⟩⟩⟩
      · have e1 := ndec _ _ e
        rcases hM with ⟨e0, hd⟩ | ⟨e0, rfl⟩
        · exact .inl ⟨by omega, hd⟩
        · exact .inr ⟨by omega, rfl⟩
    rintro σ' H'' ⟨rfl, hM2⟩
    clear hM H'
    refine ⟨fun σ'' H' => σ'' = [some (V.ref b), some (V.ref D.d), some (V.ref cl), some (V.ref nl), some (V.ref du), some (V.int i), some (V.ref c.a), some (V.str c.z), some (V.int r), some (V.int v), some (V.int (m0 - 5 * 10 ^ (27 : Int).toNat))] ∧ ((r < 2 ∧ Done FC DC CC D tD cs i c H4 v H') ∨ (r = 2 ∧ Done FC DC CC D tD cs i c H4 (c.v + (m0 - 5 * 10 ^ (27 : Int).toNat)) H') ∨ (3 ≤ r ∧ H' = H4)), ?_, ?_⟩
    · refine ⟨_, rfl, rfl, _, rfl, ?_⟩
      refine ite2 (fun e => ?_) (fun e => ⟨rfl, ?_⟩)
      · have e1 := dec _ _ e
        rcases hM2 with ⟨e0, _⟩ | ⟨_, rfl⟩
        · omega
        · refine ⟨_, rfl, _, rfl, c.a, c.ax, _, rfl, ha4, D, tD, cs, i, c, (m0 - 5 * 10 ^ (27 : Int).toNat), rfl, D4, hc, fun H5 t5 k5 ht5 D5 => ⟨⟨_, rfl⟩, ?_⟩⟩
          have dn := done_of (w := c.v + (m0 - 5 * 10 ^ (27 : Int).toNat)) hcm k5 ht5 D5
          have hcl5 : H5 cl = some (.lst (cs.map fun c => V.ref c.a)) := by
            obtain ⟨t', kd, _⟩ := dn
            exact kd _ _ (abl cl (by simp)) S4.cl
          have es : (cs.map fun c => V.ref c.a).set i (V.ref c.a) = cs.map fun c => V.ref c.a := by
            apply List.ext_getElem?
            intro j
            by_cases ij : i = j
            · subst ij
              rw [List.getElem?_set_self (by rw [List.length_map]; exact hil), List.getElem?_map, hc]
              rfl
            · rw [List.getElem?_set_ne ij]
          refine ⟨_, rfl, _, rfl, _, rfl, cl, _, _, i, rfl, rfl, hcl5, ?_, ?_⟩
          · unfold ixN
            rw [if_pos (by omega), if_pos (by rw [List.length_map]; omega)]
            rfl
          · rw [es, upd_id hcl5]
            exact ⟨rfl, .inr (.inl ⟨e1, dn⟩)⟩
      · have e1 := ndec _ _ e
        rcases hM2 with ⟨e0, hd⟩ | ⟨e0, rfl⟩
        · exact .inl ⟨e0, hd⟩
        · exact .inr (.inr ⟨by omega, rfl⟩)
    rintro σ' H' ⟨rfl, hM⟩
    clear hM2 H''
    refine ⟨fun σ'' H' => σ'' = [some (V.ref b), some (V.ref D.d), some (V.ref cl), some (V.ref nl), some (V.ref du), some (V.int i), some (V.ref c.a), some (V.str c.z), some (V.int r), some (V.int v), some (V.int (m0 - 5 * 10 ^ (27 : Int).toNat))] ∧ ((r < 2 ∧ Done FC DC CC D tD cs i c H4 v H') ∨ (2 ≤ r ∧ Done FC DC CC D tD cs i c H4 (c.v + (m0 - 5 * 10 ^ (27 : Int).toNat)) H')), ?_, ?_⟩
    · refine ⟨_, rfl, rfl, _, rfl, ?_⟩
      refine ite2 (fun e => ?_) (fun e => ⟨rfl, ?_⟩)
      · have e1 := dec _ _ e
        rcases hM with ⟨e0, _⟩ | ⟨e0, _⟩ | ⟨_, rfl⟩
        · omega
        · omega
        · refine ⟨_, rfl, _, rfl, D.d, D.dx, _, rfl, D4.desk, D, tD, cs, _, rfl, D4, .inl ⟨c, hcm, rfl, ?_⟩⟩
          refine ⟨_, rfl, _, _, rfl, rfl, D.d, D.dx, _, rfl, D4.desk, D, tD, cs, _, c.v + (m0 - 5 * 10 ^ (27 : Int).toNat), rfl, D4, .inl ⟨i, c, hc, rfl, fun H5 t5 k5 ht5 D5 => ⟨rfl, .inr ⟨by omega, done_of hcm k5 ht5 D5⟩⟩⟩⟩
      · have e1 := ndec _ _ e
        rcases hM with ⟨e0, hd⟩ | ⟨e0, hd⟩ | ⟨e0, rfl⟩
        · exact .inl ⟨e0, hd⟩
        · exact .inr ⟨by omega, hd⟩
        · omega
    rintro σ' H5 ⟨rfl, hM2⟩
    clear hM H'
    obtain ⟨w, hw1, hw2, t5, k5, ht5, D5⟩ : ∃ w, (r < 2 → w = v) ∧ (2 ≤ r → w = c.v + (m0 - 5 * 10 ^ (27 : Int).toNat)) ∧ Done FC DC CC D tD cs i c H4 w H5 := by
      rcases hM2 with ⟨e0, hd⟩ | ⟨e0, hd⟩
      · exact ⟨v, fun _ => rfl, fun z => by omega, hd⟩
      · exact ⟨c.v + (m0 - 5 * 10 ^ (27 : Int).toNat), fun z => by omega, fun _ => rfl, hd⟩
    have k05 : Kp (b :: foot D tD cs) H H5 := (kk.mono (by simp)).trans (k5.mono fun x hx => List.mem_cons_of_mem _ hx)
    have ez : (cs.set i (c.to w)).map Ce.z = cs.map Ce.z := map_set Ce.z hc rfl
    have ea : (cs.set i (c.to w)).map Ce.a = cs.map Ce.a := map_set Ce.a hc rfl
    have ecl : ((cs.set i (c.to w)).map fun c => V.ref c.a) = cs.map fun c => V.ref c.a := map_set _ hc rfl
    have enl : ((cs.set i (c.to w)).map fun c => V.str c.z) = cs.map fun c => V.str c.z := map_set _ hc rfl
    have du5 : H5 du = some (.dK (duesT cs)) := k5 _ _ (abl du (by simp)) S4.du
    have htH : H t5 = none := by
      cases e : H t5 with
      | none => rfl
      | some o =>
        by_cases b1 : t5 = b
        · obtain ⟨_, _, _, hb4, _⟩ := hB4
          rw [b1, hb4] at ht5; cases ht5
        · rw [kk _ _ (by simpa using b1) e] at ht5; cases ht5
    have fin : Q (.bl true) (upd H5 du (.dK (duesT (cs.set i (c.to w))))) := by
      have ndu : ∀ x ∈ foot D t5 (cs.set i (c.to w)), x ∉ [du] := fun x hx e => by
        have e2 := List.mem_singleton.mp e
        rcases foot_to (tD := tD) ea hx with h | h
        · rw [← h, e2, S4.du] at ht5; cases ht5
        · exact abl du (by simp) (by rw [← e2]; exact h)
      refine k _ t5 (cs.set i (c.to w)) (fun x o nx e => ?_) htH ?_ (D5.kp (Kp.put (by simp)) ndu) ⟨?_, ?_, upd_same, fun d hd => ?_⟩ ez ea
      · simp only [List.mem_cons, not_or] at nx
        rw [upd_ne nx.2.1]
        exact k05 _ _ (by simp only [List.mem_cons, not_or]; exact ⟨nx.1, nx.2.2⟩) e
      · exact (((hB4.kp k5 (abl b (by simp))).kp (S := [du]) (Kp.put (by simp)) (by simpa using bd))).up (by omega)
      · rw [upd_ne cd, ecl]; exact k5 _ _ (abl cl (by simp)) S4.cl
      · rw [upd_ne nd', enl]; exact k5 _ _ (abl nl (by simp)) S4.nl
      · have : d.z ∈ cs.map Ce.z := by rw [← ez]; exact List.mem_map_of_mem hd
        obtain ⟨d2, h2m, e2⟩ := List.mem_map.mp this
        rw [← e2]; exact hS.ok d2 h2m
    have ld : (duesT cs).length < sizeLine := by unfold duesT; rw [List.length_map]; omega
    have tail : ∀ x : Int, x = w → ∃ a H8, V.ref du = .ref a ∧ DPut H5 a (.str c.z) (.int x) H8 ∧ Q (.bl true) H8 := fun x e => by
      subst e
      refine ⟨du, _, rfl, DPut.k (k := Sum.inr c.z) du5 ld, ?_⟩
      rw [dues_put x hc hD.zs]
      exact fin
    refine ⟨_, rfl, _, _, rfl, rfl, _, rfl, ?_⟩
    refine ite2 (fun e => ?_) (fun e => ?_)
    · have e1 : r < 2 := of_decide_eq_true e
      exact ⟨_, rfl, _, rfl, _, rfl, tail v (hw1 e1).symm⟩
    · have e1 : ¬ r < 2 := fun z => e (decide_eq_true z)
      refine ⟨_, rfl, _, rfl, du, .int c.v, rfl, ?_, _, rfl, _, _, rfl, rfl, _, rfl, _, rfl, tail (c.v + (m0 - 5 * 10 ^ (27 : Int).toNat)) (hw2 (by omega)).symm⟩
      rw [← valV_due hcm hD.zs]
      exact DGet.k (k := Sum.inr c.z) du5
end
end My

set_option Elab.async false
set_option linter.all false
set_option maxRecDepth 100000
set_option maxHeartbeats 8000000
/-! Q12: the law's state. -/
namespace My
open PySem PySem.Spec PyProof.Rows L2
theorem join_all : ∀ ys : List Str, (∀ y ∈ ys, PyData.strOk y = true) → PyData.strOk (Str.join "" ys) = true ∧ (∀ y ∈ ys, y.length ≤ (Str.join "" ys).length) ∧ (Str.join "" ys).length = (ys.map (·.length)).sum
  | [], _ => ⟨by decide +kernel, fun y h => (nomatch h), by decide +kernel⟩
  | [x], h => ⟨h x (by simp), fun y hy => by rw [List.mem_singleton.mp hy]; exact Nat.le_refl _, by show x.length = _; simp⟩
  | x :: y :: r, h => by
    obtain ⟨a, b, c⟩ := join_all (y :: r) fun z hz => h z (List.mem_cons_of_mem _ hz)
    have hx := h x (by simp)
    have e0 : ("" : Str).length = 0 := by decide +kernel
    have o0 : PyData.strOk ("" : Str) = true := by decide +kernel
    have el : Str.join "" (x :: y :: r) = x ++ "" ++ Str.join "" (y :: r) := rfl
    rw [el, Str.length_append, Str.length_append, strOk_app, strOk_app, hx, a, o0, e0]
    refine ⟨rfl, fun z hz => ?_, ?_⟩
    · rcases List.mem_cons.mp hz with rfl | hz
      · omega
      · have := b z hz; omega
    · rw [List.map_cons, List.sum_cons, c, Nat.add_zero]
theorem sum_le {k : Nat} : ∀ ys : List Str, (∀ y ∈ ys, y.length ≤ k) → (ys.map (·.length)).sum ≤ k * ys.length
  | [], _ => Nat.zero_le _
  | y :: r, h => by
    have := sum_le r fun z hz => h z (List.mem_cons_of_mem _ hz)
    have hy := h y (by simp)
    rw [List.map_cons, List.sum_cons, List.length_cons, Nat.mul_succ]
    omega
theorem valV_dues (cs : List Ce) (z : Str) : (valV (duesT cs) (Sum.inr z)).isSome = decide (z ∈ cs.map Ce.z) := by
  induction cs with
  | nil => rfl
  | cons c r ih =>
    by_cases e : c.z = z
    · have : valV (duesT (c :: r)) (Sum.inr z) = some (.int c.v) := valV_pos (p := (Sum.inr c.z, V.int c.v)) (by rw [e])
      rw [this, decide_eq_true (by rw [← e]; simp)]
      rfl
    · have ne : ¬ (Sum.inr c.z : Key) = Sum.inr z := fun q => e (Sum.inr.inj q)
      have : valV (duesT (c :: r)) (Sum.inr z) = valV (duesT r) (Sum.inr z) := valV_neg (p := (Sum.inr c.z, V.int c.v)) ne
      rw [this, ih]
      have e2 : ¬ z = c.z := fun q => e q.symm
      simp [e2]
/-- all that stands while the law looks at one desk: D its desk, D2 the other one -/
structure LS (FC DC CC : Addr) (H : Hp) (D : DA) (tD : Addr) (cs : List Ce) (D2 : DA) (t2 : Addr) (b cl nl du : Addr) (zs : List Str) (n : Int) : Prop where
  desk : DeskAt FC DC CC H D tD cs
  other : DeskAt FC DC CC H D2 t2 []
  bag : BagAt H b n
  hcl : H cl = some (.lst (cs.map fun c => V.ref c.a))
  hnl : H nl = some (.lst (zs.map V.str))
  hdu : H du = some (.dK (duesT cs))
  apart : Apart b cl nl du D tD cs
  far : ∀ x ∈ foot D2 t2 [], x ∉ foot D tD cs ∧ x ∉ [b, cl, nl, du]
theorem LS.side {FC DC CC : Addr} {H : Hp} {D : DA} {tD : Addr} {cs : List Ce} {D2 : DA} {t2 b cl nl du : Addr} {zs : List Str} {n : Int} (h : LS FC DC CC H D tD cs D2 t2 b cl nl du zs n) (e : cs.map Ce.z = zs) (ok : ∀ z ∈ zs, PyData.strOk z = true) : Side H cl nl du cs :=
  ⟨h.hcl, by rw [h.hnl, ← e, List.map_map]; rfl, h.hdu, fun c hc => ok _ (by rw [← e]; exact List.mem_map_of_mem hc)⟩
theorem LS.kp {FC DC CC : Addr} {S : List Addr} {H H' : Hp} {D : DA} {tD : Addr} {cs : List Ce} {D2 : DA} {t2 b cl nl du : Addr} {zs : List Str} {n : Int} (h : LS FC DC CC H D tD cs D2 t2 b cl nl du zs n) (k : Kp S H H')
    (n1 : ∀ x ∈ foot D tD cs, x ∉ S) (n2 : ∀ x ∈ foot D2 t2 [], x ∉ S) (n3 : ∀ x ∈ [b, cl, nl, du], x ∉ S) : LS FC DC CC H' D tD cs D2 t2 b cl nl du zs n :=
  ⟨h.desk.kp k n1, h.other.kp k n2, h.bag.kp k (n3 _ (by simp)), k _ _ (n3 _ (by simp)) h.hcl, k _ _ (n3 _ (by simp)) h.hnl, k _ _ (n3 _ (by simp)) h.hdu, h.apart, h.far⟩
/-- what only makes objects -/
theorem LS.kp0 {FC DC CC : Addr} {H H' : Hp} {D : DA} {tD : Addr} {cs : List Ce} {D2 : DA} {t2 b cl nl du : Addr} {zs : List Str} {n : Int} (h : LS FC DC CC H D tD cs D2 t2 b cl nl du zs n) (k : Kp [] H H') : LS FC DC CC H' D tD cs D2 t2 b cl nl du zs n :=
  h.kp k (fun _ _ => by simp) (fun _ _ => by simp) (fun _ _ => by simp)
theorem LS.up {FC DC CC : Addr} {H : Hp} {D : DA} {tD : Addr} {cs : List Ce} {D2 : DA} {t2 b cl nl du : Addr} {zs : List Str} {n m : Int} (h : LS FC DC CC H D tD cs D2 t2 b cl nl du zs n) (e : n ≤ m) : LS FC DC CC H D tD cs D2 t2 b cl nl du zs m := { h with bag := h.bag.up e }
/-- a draw -/
theorem LS.draw {FC DC CC : Addr} {H H' : Hp} {D : DA} {tD : Addr} {cs : List Ce} {D2 : DA} {t2 b cl nl du : Addr} {zs : List Str} {n m : Int} (h : LS FC DC CC H D tD cs D2 t2 b cl nl du zs n) (k : Kp [b] H H') (hb : BagAt H' b m) : LS FC DC CC H' D tD cs D2 t2 b cl nl du zs m := by
  have a2 := h.apart.2
  simp only [List.nodup_cons, List.mem_cons, List.mem_nil_iff, or_false, not_or, List.nodup_nil, and_true, not_false_eq_true] at a2
  have f1 : ∀ x ∈ foot D tD cs, x ∉ [b] := fun x hx e => h.apart.1 b (by simp) (by rw [← List.mem_singleton.mp e]; exact hx)
  have f2 : ∀ x ∈ foot D2 t2 [], x ∉ [b] := fun x hx e => (h.far x hx).2 (by rw [List.mem_singleton.mp e]; simp)
  exact ⟨h.desk.kp k f1, h.other.kp k f2, hb, k _ _ (by simpa using Ne.symm a2.1.1) h.hcl, k _ _ (by simpa using Ne.symm a2.1.2.1) h.hnl, k _ _ (by simpa using Ne.symm a2.1.2.2) h.hdu, h.apart, h.far⟩
/-- a deed -/
theorem LS.deed {FC DC CC : Addr} {H H' : Hp} {D : DA} {tD t' : Addr} {cs cs' : List Ce} {D2 : DA} {t2 b cl nl du : Addr} {zs : List Str} {n m : Int} (h : LS FC DC CC H D tD cs D2 t2 b cl nl du zs n) (k : Kp (b :: du :: foot D tD cs) H H') (ht : H t' = none) (hb : BagAt H' b m) (hD : DeskAt FC DC CC H' D t' cs')
    (hS : Side H' cl nl du cs') (ez : cs'.map Ce.z = cs.map Ce.z) (ea : cs'.map Ce.a = cs.map Ce.a) : LS FC DC CC H' D t' cs' D2 t2 b cl nl du zs m := by
  have a1 := h.apart.1
  have a2 := h.apart.2
  have a2' := a2
  simp only [List.nodup_cons, List.mem_cons, List.mem_nil_iff, or_false, not_or, List.nodup_nil, and_true, not_false_eq_true] at a2'
  obtain ⟨⟨bc, bn, bd⟩, ⟨cn, cd⟩, nd'⟩ := a2'
  obtain ⟨_, _, _, hb0, _⟩ := h.bag
  have live : ∀ x ∈ [b, cl, nl, du], x ≠ t' := fun x hx e => by
    simp only [List.mem_cons, List.mem_nil_iff, or_false] at hx
    rcases hx with rfl | rfl | rfl | rfl
    · rw [e, ht] at hb0; cases hb0
    · have := h.hcl; rw [e, ht] at this; cases this
    · have := h.hnl; rw [e, ht] at this; cases this
    · have := h.hdu; rw [e, ht] at this; cases this
  refine ⟨hD, h.other.kp k fun x hx => ?_, hb, hS.cl, ?_, hS.du, ⟨fun x hx hf => ?_, a2⟩, fun x hx => ⟨fun hf => ?_, (h.far x hx).2⟩⟩
  · obtain ⟨f1, f2⟩ := h.far x hx
    simp only [List.mem_cons, List.mem_nil_iff, or_false, not_or] at f2
    simp only [List.mem_cons, not_or]
    exact ⟨f2.1, f2.2.2.2, f1⟩
  · refine k _ _ ?_ h.hnl
    simp only [List.mem_cons, not_or]
    exact ⟨Ne.symm bn, nd', a1 nl (by simp)⟩
  · rcases foot_to (tD := tD) ea hf with e | e
    · exact live x hx e
    · exact a1 x hx e
  · rcases foot_to (tD := tD) ea hf with e | e
    · obtain ⟨o, ho⟩ := h.other.there x hx
      rw [e, ht] at ho; cases ho
    · exact (h.far x hx).1 e
theorem Kp.via {S T : List Addr} {H H1 H2 : Hp} (k0 : Kp T H H1) (k : Kp S H1 H2) (h : ∀ x ∈ S, x ∈ T ∨ H x = none) : Kp T H H2 := fun q o nq e => k q o (fun hq => by
  rcases h q hq with h | h
  · exact nq h
  · rw [e] at h; cases h) (k0 q o nq e)
theorem made_back {H : Hp} {x dx y : Addr} {o : HO} (e : upd (upd H dx (.own x)) x o y = none) : H y = none := by
  have n1 : y ≠ x := fun z => by rw [z, upd_same] at e; cases e
  rw [upd_ne n1] at e
  have n2 : y ≠ dx := fun z => by rw [z, upd_same] at e; cases e
  rw [upd_ne n2] at e
  exact e
theorem made_kp {H H' : Hp} {x dx : Addr} {o : HO} (hx : H x = none) (hdx : H dx = none) (k : Kp [x] (upd (upd H dx (.own x)) x o) H') : Kp [] H H' := fun q u _ e =>
  k q u (by simpa using ne_of_none e hx) (by rw [upd_ne (ne_of_none e hx), upd_ne (ne_of_none e hdx)]; exact e)
theorem Kp.none {T : List Addr} {H H1 : Hp} {x : Addr} (k : Kp T H H1) (h : H1 x = none) (ht : ∀ y ∈ T, ∃ o, H1 y = some o) : H x = none := by
  cases e : H x with
  | none => rfl
  | some o =>
    by_cases hx : x ∈ T
    · obtain ⟨u, hu⟩ := ht x hx
      rw [hu] at h; cases h
    · rw [k x o hx e] at h; cases h
theorem BagAt.there {H : Hp} {b : Addr} {n : Int} (h : BagAt H b n) : ∀ y ∈ [b], ∃ o, H y = some o := fun y hy => by
  obtain ⟨_, _, _, hb, _⟩ := h
  rw [List.mem_singleton.mp hy]; exact ⟨_, hb⟩
/-- the list of what is no name -/
structure OddAt (H : Hp) (ol tp lp : Addr) (j z0 zl : Str) : Prop where
  ol : H ol = some (.lst [.str j, .int 0, .bl true, .non, .ref tp, .ref lp])
  tp : H tp = some (.tup [.str z0])
  lp : H lp = some (.lst [.str zl])
theorem OddAt.kp {S : List Addr} {H H' : Hp} {ol tp lp : Addr} {j z0 zl : Str} (h : OddAt H ol tp lp j z0 zl) (k : Kp S H H') (n : ∀ x ∈ [ol, tp, lp], x ∉ S) : OddAt H' ol tp lp j z0 zl := ⟨k _ _ (n _ (by simp)) h.ol, k _ _ (n _ (by simp)) h.tp, k _ _ (n _ (by simp)) h.lp⟩
theorem OddAt.odd {H : Hp} {ol tp lp : Addr} {j z0 zl : Str} (h : OddAt H ol tp lp j z0 zl) (oj : PyData.strOk j = true) (o0 : PyData.strOk z0 = true) (o1 : PyData.strOk zl = true) {cs : List Ce} (hj : j ∉ cs.map Ce.z) {i : Nat} {x : V} (hx : ([.str j, .int 0, .bl true, .non, .ref tp, .ref lp] : List V)[i]? = some x) :
    ∃ fl, FAt H fl x ∧ hasF cs fl = false := by
  match i, hx with
  | 0, hx => exact ⟨.str j, ⟨(Option.some.inj hx).symm, oj⟩, decide_eq_false hj⟩
  | 1, hx => exact ⟨.int 0, (Option.some.inj hx).symm, rfl⟩
  | 2, hx => exact ⟨.bl true, (Option.some.inj hx).symm, rfl⟩
  | 3, hx => exact ⟨.non, (Option.some.inj hx).symm, rfl⟩
  | 4, hx => exact ⟨.tup z0, ⟨o0, tp, (Option.some.inj hx).symm, h.tp⟩, rfl⟩
  | 5, hx => exact ⟨.lst zl, ⟨o1, lp, (Option.some.inj hx).symm, h.lp⟩, rfl⟩
theorem foot_snoc {D : DA} {tD x : Addr} {cs : List Ce} {c : Ce} (h : x ∈ foot D tD (cs ++ [c])) : x ∈ foot D tD cs ∨ x = c.a := by
  unfold foot at h ⊢
  rw [List.map_append] at h
  rcases List.mem_append.mp h with h | h
  · exact .inl (List.mem_append_left _ h)
  · rcases List.mem_append.mp h with h | h
    · exact .inl (List.mem_append_right _ h)
    · exact .inr (List.mem_singleton.mp h)
theorem foot_three {D : DA} {tD : Addr} {cs : List Ce} {x : Addr} (h : x ∈ [D.nD, D.cD, D.sD]) : x ∈ foot D tD cs := by
  simp only [List.mem_cons, List.mem_nil_iff, or_false] at h
  rcases h with rfl | rfl | rfl <;> exact List.mem_append_left _ (by simp)
end My

set_option Elab.async false
set_option linter.all false
set_option maxRecDepth 100000
set_option maxHeartbeats 8000000
/-! Q13: one number of the script. -/
namespace My
open PySem PySem.Spec PyProof.Rows L2
/-- a def of the law -/
structure LD (P : Program) (w : World) (K : PySem.W.Frag) (mg : Str → Option Value) (base : Heap) (x : Str) (k : Nat) (ps : List Str) (sp : Sp) (f : Addr) (fd : FuncData) : Prop where
  a : At K mg x f
  b : Binds K fd ps []
  o : FnOk P w K mg base CX0 k f fd ps sp
section
variable {P : Program} {w : World} {K : PySem.W.Frag} {mg : Str → Option Value} {base : Heap} {FC DC CC NN TE' : Addr}
abbrev sRight : Stmt := (top 28)
abbrev NRight : List Str := ["_law_bag_here", "_law_desk", "_law_other", "_law_names_here", "_law_dues", "_law_cells", "_law_name", "_law_odds", "_law_turn", "_law_odd", "_law_twin"]
theorem scRight : FnScope NRight ["_law_bag_here"] (defScope sRight) := ⟨rfl, rfl, rfl, by decide +kernel, rfl, by decide +kernel, by decide +kernel⟩
def spRight : Sp := fun vs H Q _ => ∃ b : Addr, vs = [.ref b] ∧ BagAt H b 0 ∧ ∀ H', Kp [b] H H' → Q (.bl true) H'
theorem ok_right {f fG fSt fH fC fI fP pA gA fID fCD fL fIt fT fO fW fN fS fPL fNN : Addr} {fd dG dSt dH dC dI dP dV dID dCD dL dIt dT dO dW dN dS dPL dNN : FuncData} (F : Fun K "_law_right" "_law_right" sRight f fd) (B : Bt mg) (V0 : LawE P w K mg base FC DC CC NN fG fSt fH fC fI fP pA gA dG dSt dH dC dI dP dV)
    (TD : DkT K DC) (MkD : Mk K DC fID) (gD : mg "Desk" = some (.ref DC)) (oD : FnOk P w K mg base CX0 3 fID dID ["self"] (spInitD FC DC CC)) (bD : Binds K dID ["self"] []) (MC : MO P w K mg base DC "cell" 3 ["self", "name", "value"] (spCellD FC DC CC) fCD dCD)
    (ML : SO P w K mg base CX0 DC "__len__" 1 ["self"] (spLenD FC DC CC) fL dL) (MI : SO P w K mg base CX0 DC "__iter__" 1 ["self"] (spIterD FC DC CC) fIt dIt)
    (T : LD P w K mg base "_law_take" 1 ["_law_bag_here", "_law_many"] spTake fT dT) (O : LD P w K mg base "_law_of" 2 ["_law_bag_here", "_law_some"] (spOf K) fO dO) (W : LD P w K mg base "_law_worth" 2 ["_law_bag_here"] spWorth fW dW)
    (N : LD P w K mg base "_law_names" 3 ["_law_bag_here", "_law_many"] spNames fN dN) (S : LD P w K mg base "_law_shows" 8 ["_law_desk", "_law_cells", "_law_names_here", "_law_dues"] (spShows FC DC CC) fS dS)
    (PL : LD P w K mg base "_law_put" 8 ["_law_bag_here", "_law_desk", "_law_cells", "_law_names_here", "_law_dues"] (spPutL FC DC CC) fPL dPL) (NM : LD P w K mg base "_law_no_name" 8 ["_law_desk", "_law_odd", "_law_putting"] (spNoNm FC DC CC) fNN dNN) :
    FnOk P w K mg base CX0 9 f fd ["_law_bag_here"] spRight := by
  refine F.ok scRight (fun vs H Q E h => ?_) (fun cdv A outer s H vs Q E hr h => ?_)
  · obtain ⟨b, rfl, _⟩ := h
    rfl
  · obtain ⟨b, rfl, hB, k⟩ := h
    have nd := scRight.nd
    have hu := hu_of hr
    have h1 := hr.mono (by decide : 1 ≤ 8)
    have h2 := hr.mono (by decide : 2 ≤ 8)
    have h3 := hr.mono (by decide : 3 ≤ 8)
    have h4 := hr.mono (by decide : 4 ≤ 8)
    have hsl := sizeLine_eq
    refine ⟨_, pss_cons (ps_par (i := 1) (j := 2) rfl nd rfl rfl (by decide) rfl rfl (pa_cons (pe_make0 MkD oD h4 (by rfl) gD bD .nil pass0) (pa_cons (pe_make0 MkD oD h4 (by rfl) gD bD .nil pass0) pa_nil)) rfl)
      (pss_cons (ps_set (i := 3) nd rfl (Or.inl rfl) (pe_call N.o h3 (by rfl) N.a.g N.a.k N.b .nil pass0 (pa_cons (pv 0) (pa_cons (pe_op op_add pe_int (pe_call T.o h1 (by rfl) T.a.g T.a.k T.b .nil pass0 (pa_cons (pv 0) (pa_cons pe_int pa_nil)))) pa_nil))))
      (pss_cons (ps_set (i := 4) nd rfl (Or.inl rfl) pe_dnewK)
      (pss_cons (ps_set (i := 5) nd rfl (Or.inl rfl) (pe_lst pa_nil))
      (C8.pss_cut (ps_for PassesOwn.never rfl (pi_list (pv 3)) (pg_name (i := 6) nd rfl (Or.inl rfl)) (pss_cons (ps_dput hu (pv 4) (pv 6) (pe_call W.o h2 (by rfl) W.a.g W.a.k W.b .nil pass0 (pa_cons (pv 0) pa_nil)) rfl)
      (pss_one (ps_expr (pe_bm PySem.F.plainAttrs_list PySem.F.slot_list_append PySem.F.type_list_append mt_append (pv 5) (pa_cons (pe_meth (pv 1) TD.cl MC.m MC.o h3 MC.b .nil pass0 (pa_cons (pv 6) (pa_cons (pe_dget hu (pv 4) (pv 6) (fun _ _ => rfl)) pa_nil))) pa_nil))))))
      (pss_cons (ps_set (i := 7) nd rfl (Or.inl rfl) (pe_lst (pa_cons (pe_op op_add_str (pe_join pe_str (pv 3)) pe_str) (pa_cons pe_int (pa_cons pe_bl (pa_cons pe_non (pa_cons (pe_tup (pa_cons (ixl (pv 3) pe_int) pa_nil)) (pa_cons (pe_lst (pa_cons (ixl (pv 3) (pe_un un_neg pe_int)) pa_nil)) pa_nil))))))))
      (pss_cons (ps_if (pt_not (pt_val (pe_call S.o hr (by rfl) S.a.g S.a.k S.b .nil pass0 (pa_cons (pv 1) (pa_cons (pv 5) (pa_cons (pv 3) (pa_cons (pv 4) pa_nil))))))) (pss_one (ps_ret pe_bl)) pss_nil)
      (C8.pss_cut (ps_for PassesOwn.never rfl (pi_range1 rfl B.range (pa_cons (pe_op op_add pe_int (pe_call T.o h1 (by rfl) T.a.g T.a.k T.b .nil pass0 (pa_cons (pv 0) (pa_cons pe_int pa_nil)))) pa_nil)) (pg_name (i := 8) nd rfl (Or.inl rfl)) (pss_cons (ps_if (pw_or (pt_not (pt_val (pe_call PL.o hr (by rfl) PL.a.g PL.a.k PL.b .nil pass0 (pa_cons (pv 0) (pa_cons (pv 1) (pa_cons (pv 5) (pa_cons (pv 3) (pa_cons (pv 4) pa_nil)))))))) (pw_or1 (pt_not (pt_val (pe_call S.o hr (by rfl) S.a.g S.a.k S.b .nil pass0 (pa_cons (pv 1) (pa_cons (pv 5) (pa_cons (pv 3) (pa_cons (pv 4) pa_nil))))))))).pt (pss_one (ps_ret pe_bl)) pss_nil)
      (pss_cons (ps_set (i := 9) nd rfl (Or.inl rfl) (pe_call O.o h2 (by rfl) O.a.g O.a.k O.b .nil pass0 (pa_cons (pv 0) (pa_cons (pv 7) pa_nil))))
      (pss_one (ps_if (pw_or (pt_cmpR (in_own V0.has.m V0.has.o h1 V0.has.b pass0) (pv 9) (pv 1) (by rfl)) (pw_or (pt_not (pt_val (pe_call NM.o hr (by rfl) NM.a.g NM.a.k NM.b .nil pass0 (pa_cons (pv 1) (pa_cons (pv 9) (pa_cons (pe_cmpR op_gt (pv 8) pe_int (nomark _)) pa_nil)))))) (pw_or1 (pt_not (pt_val (pe_call S.o hr (by rfl) S.a.g S.a.k S.b .nil pass0 (pa_cons (pv 1) (pa_cons (pv 5) (pa_cons (pv 3) (pa_cons (pv 4) pa_nil)))))))))).pt (pss_one (ps_ret pe_bl)) pss_nil)))))
      (pss_cons (ps_if (pw_or (pt_cmpR (in_own V0.has.m V0.has.o h1 V0.has.b pass0) (ixl (pv 3) pe_int) (pv 2) (by rfl)) (pw_or1 (pt_not (pt_val (pe_call NM.o hr (by rfl) NM.a.g NM.a.k NM.b .nil pass0 (pa_cons (pv 2) (pa_cons (ixl (pv 3) pe_int) (pa_cons pe_bl pa_nil)))))))).pt (pss_one (ps_ret pe_bl)) pss_nil)
      (pss_cons (ps_set (i := 10) nd rfl (Or.inl rfl) (pe_meth (pv 2) TD.cl MC.m MC.o h3 MC.b .nil pass0 (pa_cons (ixl (pv 3) pe_int) (pa_cons pe_int pa_nil))))
      (pss_cons (ps_expr (pe_meth (pv 10) V0.TC.cl V0.put.m V0.put.o h3 V0.put.b .nil pass0 (pa_cons pe_int pa_nil)))
      (pss_one (ps_ret (pe_and (pe_cmpR op_eq (pe_callO0 (pv 10) V0.call.m V0.call.i V0.call.o h2 V0.call.b pass0) pe_int (nomark _)) (pe_and (pe_cmpR op_eq (pe_callB (len_own (E := E0) ML.m ML.o h2 ML.b (fun _ _ _ _ _ _ _ h => (show False from h).elim)) (by rfl) B.len PySem.boot_len (pa_cons (pv 1) pa_nil)) pe_int (nomark _)) (pe_and (pe_cmpR (op_eqD hr.units) (pe_callTy (call_listIt (EI := E0) (EL := E0) rfl MI.m ML.m MI.o MI.b pass0 ML.o ML.b h4) (by rfl) B.list boot_list' (pa_cons (pv 1) pa_nil)) (pe_lst pa_nil) (nomark _)) (pe_one (pe_call S.o hr (by rfl) S.a.g S.a.k S.b .nil pass0 (pa_cons (pv 1) (pa_cons (pv 5) (pa_cons (pv 3) (pa_cons (pv 4) pa_nil))))))))))))))))))))), ?_⟩
    refine fun x dx hx hdx ne1 => ⟨x, dx, rfl, upd_same, fun H1 D tD eD k1 fr1 D1 => ⟨rfl, fun y dy hy hdy ne2 => ⟨y, dy, rfl, upd_same, fun H2 D2 t2 eD2 k2 fr2 O2 => ⟨rfl, _, _, rfl, ?_⟩⟩⟩⟩
    subst eD eD2
    have K1 : Kp [] H H1 := made_kp hx hdx k1
    have K2 : Kp [] H1 H2 := made_kp hy hdy k2
    have K12 := K1.trans K2
    have fD : ∀ z ∈ foot D tD [], H z = none := fun z hz => by
      by_cases e : z = D.d
      · rw [e]; exact hx
      · exact made_back (fr1 z hz e)
    have fD2 : ∀ z ∈ foot D2 t2 [], H1 z = none := fun z hz => by
      by_cases e : z = D2.d
      · rw [e]; exact hy
      · exact made_back (fr2 z hz e)
    have Dk2 := D1.kp K2 (fun _ _ => by simp)
    have far2 : ∀ z ∈ foot D2 t2 [], z ∉ foot D tD [] := fun z hz hf => by
      obtain ⟨o, ho⟩ := D1.there z hf
      rw [fD2 z hz] at ho; cases ho
    have hB2 := hB.kp K12 (by simp)
    obtain ⟨w1, w2, w3, hbH, _⟩ := id hB
    have nbD : ∀ z ∈ foot D tD [], z ≠ b := fun z hz e => by have := fD z hz; rw [e, hbH] at this; cases this
    have nbD2 : ∀ z ∈ foot D2 t2 [], z ≠ b := fun z hz e => by have := fD2 z hz; rw [e, K1 _ _ (by simp) hbH] at this; cases this
    refine ⟨_, rfl, _, rfl, b, 6, 0, rfl, hB2, by decide, by decide, by decide, fun H3 r k3 hB3 r0 r1 => ?_⟩
    obtain ⟨j0, rfl⟩ := Int.eq_ofNat_of_zero_le r0
    refine ⟨_, _, rfl, rfl, b, 1 + j0, _, (by rw [Int.natCast_add]; rfl), hB3, by omega, by decide, fun H4 nl zs k4 hB4 hnl0 hnl hN hzl => ?_⟩
    have K4 : Kp [b] H H4 := (K12.mono (by simp)).trans (k3.trans k4)
    have K24 : Kp [b] H2 H4 := k3.trans k4
    have zpos : 0 < zs.length := by omega
    have z7 : zs.length ≤ 6 := by omega
    intro du hdu
    refine ⟨(by show 0 ≤ sizeLine; omega), fun cl hcl => ?_⟩
    have eB4 : ∀ {x : Addr}, H4 x = none → x ≠ b := fun {x} h e => by obtain ⟨_, _, _, hb, _⟩ := hB4; rw [e, hb] at h; cases h
    have hduH : H du = none := K4.none hdu hB4.there
    have hnlH : H nl = none := by
      have h2 : H2 nl = none := k3.none hnl0 hB3.there
      exact Kp.none (T := []) K12 h2 (fun y hy => nomatch hy)
    have hcl4 : H4 cl = none := by
      have n : cl ≠ du := fun e => by rw [e, upd_same] at hcl; cases hcl
      rw [upd_ne n] at hcl; exact hcl
    have hclH : H cl = none := K4.none hcl4 hB4.there
    obtain ⟨H5, e5⟩ : ∃ H5, upd (upd H4 du (.dK [])) cl (.lst []) = H5 := ⟨_, rfl⟩
    have K45 : Kp [] H4 H5 := by rw [← e5]; exact (Kp.new hdu).trans (Kp.new hcl)
    have K5 : Kp [b] H H5 := K4.trans (K45.mono (by simp))
    have ndc : du ≠ cl := fun e => by rw [← e, upd_same] at hcl; cases hcl
    have c5 : H5 cl = some (.lst []) := by rw [← e5]; exact upd_same
    have d5 : H5 du = some (.dK []) := by rw [← e5, upd_ne ndc]; exact upd_same
    have K25 : Kp [b] H2 H5 := K24.trans (K45.mono (by simp))
    have L5 : LS FC DC CC H5 D tD [] D2 t2 b cl nl du zs (0 + 1 + 4 * ((1 + j0 : Nat) : Int)) := by
      refine ⟨Dk2.kp K25 (fun z hz => by simpa using nbD z hz), O2.kp K25 (fun z hz => by simpa using nbD2 z hz), hB4.kp K45 (by simp), c5, K45 _ _ (by simp) hnl, d5, ⟨fun z hz hf => ?_, ?_⟩, fun z hz => ⟨far2 z hz, fun hm => ?_⟩⟩
      · have hzf := fD z hf
        obtain ⟨o, ho⟩ := (Dk2.kp K24 (fun z hz => by simpa using nbD z hz)).there z hf
        simp only [List.mem_cons, List.mem_nil_iff, or_false] at hz
        rcases hz with rfl | rfl | rfl | rfl
        · exact nbD _ hf rfl
        · rw [hcl4] at ho; cases ho
        · obtain ⟨o2, ho2⟩ := Dk2.there z hf
          have h2 : H2 z = none := k3.none hnl0 hB3.there
          rw [ho2] at h2; cases h2
        · rw [hdu] at ho; cases ho
      · have n1 : b ≠ cl := (eB4 hcl4).symm
        have n2 : b ≠ nl := fun e => by obtain ⟨_, _, _, hb, _⟩ := hB3; rw [← e, hb] at hnl0; cases hnl0
        have n3 : b ≠ du := (eB4 hdu).symm
        have n4 : cl ≠ nl := fun e => by rw [e, hnl] at hcl4; cases hcl4
        have n5 : nl ≠ du := fun e => by rw [← e, hnl] at hdu; cases hdu
        simp only [List.nodup_cons, List.mem_cons, List.mem_nil_iff, or_false, not_or, List.nodup_nil, and_true, not_false_eq_true]
        exact ⟨⟨n1, n2, n3⟩, ⟨n4, ndc.symm⟩, n5⟩
      · obtain ⟨o, ho⟩ := (O2.kp K24 (fun z hz => by simpa using nbD2 z hz)).there z hz
        simp only [List.mem_cons, List.mem_nil_iff, or_false] at hm
        rcases hm with rfl | rfl | rfl | rfl
        · exact nbD2 _ hz rfl
        · rw [hcl4] at ho; cases ho
        · obtain ⟨o2, ho2⟩ := O2.there z hz
          have h2 : H2 z = none := k3.none hnl0 hB3.there
          rw [ho2] at h2; cases h2
        · rw [hdu] at ho; cases ho
    have zok : ∀ z ∈ zs, PyData.strOk z = true := fun z hz => (hN.2 z hz).2
    rw [e5]
    clear K45 K24 e5 hcl
    refine ⟨fun σ' H' => ∃ (cs : List Ce) (v6 : Option V), σ' = [some (.ref b), some (.ref D.d), some (.ref D2.d), some (.ref nl), some (.ref du), some (.ref cl), v6, none, none, none, none] ∧ LS FC DC CC H' D tD cs D2 t2 b cl nl du zs 100 ∧ cs.map Ce.z = zs ∧ Kp [b] H H' ∧ ∀ x ∈ foot D tD cs, H x = none, ?_, ?_⟩
    · refine ⟨_, rfl, nl, rfl, ⟨_, SqL.of L5.hnl⟩, for_list (K := K) (a := nl) (xs := zs.map V.str) (fun i σ H' => ∃ (cs : List Ce) (v6 : Option V), σ = [some (.ref b), some (.ref D.d), some (.ref D2.d), some (.ref nl), some (.ref du), some (.ref cl), v6, none, none, none, none] ∧ LS FC DC CC H' D tD cs D2 t2 b cl nl du zs (50 + 2 * i) ∧ cs.map Ce.z = zs.take i ∧ Kp [b] H H' ∧ ∀ x ∈ foot D tD cs, H x = none)
        ⟨[], none, rfl, L5.up (by omega), by rw [List.take_zero]; rfl, K5, fD⟩ (fun i σ H' _ ⟨cs, v6, _, L, _⟩ => SqL.of L.hnl) ?_ ?_⟩
      · rintro i x σ H6 hx ⟨cs, v6, rfl, L, ez, kH, fr⟩
        rw [List.getElem?_map] at hx
        cases hzi : zs[i]? with
        | none => rw [hzi] at hx; cases hx
        | some z =>
          rw [hzi] at hx
          cases hx
          have hi : i < zs.length := (List.getElem?_eq_some_iff.mp hzi).1
          have tk : zs.take (i + 1) = zs.take i ++ [z] := by rw [List.take_succ, hzi]; rfl
          have hz : z ∉ cs.map Ce.z := by
            rw [ez]
            have nd2 := hN.1.sublist (List.take_sublist (i + 1) zs)
            rw [tk, List.nodup_append] at nd2
            exact fun m => nd2.2.2 z m z (by simp) rfl
          have lcs : cs.length = i := by
            have := congrArg List.length ez
            rw [List.length_map, List.length_take] at this
            omega
          have ldu : (duesT cs).length = cs.length := by simp [duesT]
          have vdz := valV_out (valV_dues cs z) hz
          refine ⟨_, rfl, b, _, rfl, L.bag, by omega, fun H7 v k7 hB7 _ _ => ?_⟩
          have L7 := L.draw k7 hB7
          refine ⟨_, rfl, _, rfl, du, _, rfl, DPut.k (k := Sum.inr z) L7.hdu (by omega), ?_⟩
          obtain ⟨H8, e8⟩ : ∃ H8, upd H7 du (.dK (putK (duesT cs) (Sum.inr z) (.int v))) = H8 := ⟨_, rfl⟩
          rw [e8]
          have du8 : H8 du = some (.dK (putK (duesT cs) (Sum.inr z) (.int v))) := by rw [← e8]; exact upd_same
          have k8 : Kp [du] H7 H8 := by rw [← e8]; exact Kp.put (by simp)
          have a1 := L.apart.1
          have a2 := L.apart.2
          simp only [List.nodup_cons, List.mem_cons, List.mem_nil_iff, or_false, not_or, List.nodup_nil, and_true, not_false_eq_true] at a2
          obtain ⟨⟨bc, bn, bd⟩, ⟨cn, cd⟩, nd'⟩ := a2
          have D8 : DeskAt FC DC CC H8 D tD cs := L7.desk.kp k8 (fun x hx e => a1 du (by simp) (by rw [← List.mem_singleton.mp e]; exact hx))
          have O8 : DeskAt FC DC CC H8 D2 t2 [] := L7.other.kp k8 (fun x hx e => (L.far x hx).2 (by rw [List.mem_singleton.mp e]; simp))
          have cl8 := k8 _ _ (by simpa using cd) L7.hcl
          have nl8 := k8 _ _ (by simpa using nd') L7.hnl
          have B8 := L7.bag.kp k8 (by simpa using bd)
          have g8 : DGet H8 du (.str z) (some (.int v)) := by
            have g := DGet.k (k := Sum.inr z) du8
            rw [valV_put, if_pos rfl] at g
            exact g
          have n3 : ∀ x ∈ [b, cl, nl, du], x ∉ [D.nD, D.cD, D.sD] := fun x hx e => a1 x hx (foot_three e)
          refine ⟨_, rfl, .inl ⟨rfl, _, SqL.of cl8⟩, _, rfl, D.d, D.dx, _, rfl, D8.desk, rfl, _, rfl, _, rfl, _, rfl, du, .int v, rfl, g8, D, tD, cs, z, v, rfl, D8, hz, by omega, fun H9 a ax k9 ha D9 => ?_⟩
          have cl9 := k9 _ _ (n3 cl (by simp)) cl8
          refine ⟨cl, _, _, rfl, rfl, cl9, by rw [List.length_map]; omega, ?_⟩
          obtain ⟨H10, e10⟩ : ∃ H10, upd H9 cl (.lst ((cs.map fun c => V.ref c.a) ++ [V.ref a])) = H10 := ⟨_, rfl⟩
          rw [e10]
          have k10 : Kp [cl] H9 H10 := by rw [← e10]; exact Kp.put (by simp)
          have fr8 : ∀ q o, H8 q = some o → q ≠ a := fun q o e => ne_of_none e ha
          have kH8 : Kp [b] H H8 := (kH.trans k7).via k8 (fun x hx => .inr (by rw [List.mem_singleton.mp hx]; exact hduH))
          have haH : H a = none := kH8.none ha B8.there
          have kH9 : Kp [b] H H9 := kH8.via k9 (fun x hx => .inr (fr _ (foot_three hx)))
          have kH10 : Kp [b] H H10 := kH9.via k10 (fun x hx => .inr (by rw [List.mem_singleton.mp hx]; exact hclH))
          refine ⟨cs ++ [⟨z, a, ax, v⟩], _, rfl, ⟨?_, ?_, ?_, ?_, ?_, ?_, ⟨fun x hx hf => ?_, L.apart.2⟩, fun x hx => ⟨fun hf => ?_, (L.far x hx).2⟩⟩, by rw [List.map_append, ez, tk]; rfl, kH10, fun x hx => ?_⟩
          · refine D9.kp k10 fun x hx e => ?_
            rcases foot_snoc hx with h | h
            · exact a1 cl (by simp) (by rw [← List.mem_singleton.mp e]; exact h)
            · exact fr8 _ _ cl8 (by rw [← List.mem_singleton.mp e]; exact h)
          · refine (O8.kp k9 fun x hx e => (L.far x hx).1 (foot_three e)).kp k10 fun x hx e => (L.far x hx).2 (by rw [List.mem_singleton.mp e]; simp)
          · exact ((B8.kp k9 (n3 b (by simp))).kp k10 (by simpa using bc)).up (by omega)
          · rw [← e10, upd_same, List.map_append]; rfl
          · exact k10 _ _ (by simpa using Ne.symm cn) (k9 _ _ (n3 nl (by simp)) nl8)
          · have := k10 _ _ (by simpa using Ne.symm cd) (k9 _ _ (n3 du (by simp)) du8)
            rw [this, putK_new _ vdz]
            simp [duesT]
          · rcases foot_snoc hf with h | h
            · exact a1 x hx h
            · simp only [List.mem_cons, List.mem_nil_iff, or_false] at hx
              obtain ⟨_, _, _, hb8, _⟩ := B8
              rcases hx with rfl | rfl | rfl | rfl
              · exact fr8 _ _ hb8 h
              · exact fr8 _ _ cl8 h
              · exact fr8 _ _ nl8 h
              · exact fr8 _ _ du8 h
          · rcases foot_snoc hf with h | h
            · exact (L.far x hx).1 h
            · obtain ⟨o, ho⟩ := O8.there x hx
              exact fr8 _ _ ho h
          · rcases foot_snoc hx with h | h
            · exact fr x h
            · rw [h]; exact haH
      · rintro σ H6 ⟨cs, v6, rfl, L, ez, kH, fr⟩
        rw [List.length_map, List.take_length] at ez
        rw [List.length_map] at L
        exact ⟨cs, v6, rfl, L.up (by omega), ez, kH, fr⟩
    · rintro σ' H6 ⟨cs, v6, rfl, L, ez, kH, fr⟩
      have ldz : cs.length = zs.length := by rw [← ez, List.length_map]
      obtain ⟨z0, hz0⟩ : ∃ z0, zs[0]? = some z0 := ⟨_, List.getElem?_eq_getElem zpos⟩
      have m0 : z0 ∈ zs := List.mem_of_getElem? hz0
      obtain ⟨zi, zl, hzs⟩ : ∃ zi zl, zs = zi ++ [zl] := ⟨zs.dropLast, zs.getLast (List.ne_nil_of_length_pos zpos), (List.dropLast_concat_getLast _).symm⟩
      have ml : zl ∈ zs := by rw [hzs]; simp
      obtain ⟨jok, jall, jlen⟩ := join_all zs zok
      have l78 : ∀ z ∈ zs, z.length ≤ 78 := fun z hz => by have := (hN.2 z hz).1; omega
      have hsum := sum_le zs l78
      have e0 : ("" : Str).length = 0 := by decide +kernel
      have ex1 : ("x" : Str).length = 1 := by decide +kernel
      have okx : PyData.strOk ("x" : Str) = true := by decide +kernel
      have s78 : (zs.map (·.length)).sum ≤ 468 := by omega
      obtain ⟨j, hj⟩ : ∃ j, Txt.join ("" : Str) zs = j := ⟨_, rfl⟩
      rw [← TL.join_eq, hj] at jok jall jlen
      have jx : j ++ ("x" : Str) ∉ zs := fun hm => by
        have := jall _ hm
        rw [Str.length_append, ex1] at this
        omega
      have jxo : PyData.strOk (j ++ ("x" : Str)) = true := by rw [strOk_app, jok, okx]; rfl
      refine ⟨⟨_, rfl⟩, _, rfl, "", nl, zs, rfl, rfl, .inl (SqL.of L.hnl), by rw [e0]; omega, ?_⟩
      rw [hj]
      refine ⟨_, _, rfl, rfl, by rw [ex1, jlen]; omega, ?_⟩
      refine ⟨_, rfl, nl, _, 0, V.str z0, rfl, rfl, SqL.of L.hnl, atI_nat (by rw [List.getElem?_map, hz0]; rfl), (by show 1 ≤ sizeLine; omega), fun tp htp => ?_⟩
      obtain ⟨H7, e7⟩ : ∃ H7, upd H6 tp (.tup [V.str z0]) = H7 := ⟨_, rfl⟩
      have tp7 : H7 tp = some (.tup [V.str z0]) := by rw [← e7]; exact upd_same
      have K67 : Kp [] H6 H7 := by rw [← e7]; exact Kp.new htp
      rw [e7]
      have L7 := L.kp0 K67
      refine ⟨_, rfl, _, rfl, nl, _, -1, V.str zl, rfl, rfl, SqL.of L7.hnl, (by rw [hzs, List.map_append]; exact atI_last _ _), (by show 1 ≤ sizeLine; omega), fun lp hlp => ?_⟩
      obtain ⟨H8, e8⟩ : ∃ H8, upd H7 lp (.lst [V.str zl]) = H8 := ⟨_, rfl⟩
      have lp8 : H8 lp = some (.lst [V.str zl]) := by rw [← e8]; exact upd_same
      have K78 : Kp [] H7 H8 := by rw [← e8]; exact Kp.new hlp
      rw [e8]
      refine ⟨(by show 6 ≤ sizeLine; omega), fun ol hol => ?_⟩
      obtain ⟨H9, e9⟩ : ∃ H9, upd H8 ol (.lst [.str (j ++ ("x" : Str)), .int 0, .bl true, .non, .ref tp, .ref lp]) = H9 := ⟨_, rfl⟩
      have K89 : Kp [] H8 H9 := by rw [← e9]; exact Kp.new hol
      have A9 : OddAt H9 ol tp lp (j ++ ("x" : Str)) z0 zl := ⟨by rw [← e9]; exact upd_same, K89 _ _ (by simp) (K78 _ _ (by simp) tp7), K89 _ _ (by simp) lp8⟩
      have e9' : upd H8 ol (HO.lst [V.str (j ++ ("x" : Str)), V.int 0, V.bl true, V.non, V.ref tp, V.ref lp]) = H9 := e9
      rw [e9']
      have K69 : Kp [] H6 H9 := K67.trans (K78.trans K89)
      have L9 := L.kp0 K69
      have newO : ∀ x ∈ [ol, tp, lp], H6 x = none := fun x hx => by
        simp only [List.mem_cons, List.mem_nil_iff, or_false] at hx
        rcases hx with rfl | rfl | rfl
        · exact Kp.none (T := []) (K67.trans K78) hol (fun y hy => nomatch hy)
        · exact htp
        · exact Kp.none (T := []) K67 hlp (fun y hy => nomatch hy)
      have liveA : ∀ {Hc : Hp}, OddAt Hc ol tp lp (j ++ ("x" : Str)) z0 zl → ∀ x ∈ [ol, tp, lp], ∃ o, Hc x = some o := fun {Hc} h x hx => by
        simp only [List.mem_cons, List.mem_nil_iff, or_false] at hx
        rcases hx with rfl | rfl | rfl
        · exact ⟨_, h.ol⟩
        · exact ⟨_, h.tp⟩
        · exact ⟨_, h.lp⟩
      have offO : ∀ x ∈ [ol, tp, lp], x ∉ foot D tD cs ∧ x ≠ b ∧ x ≠ du := fun x hx => by
        have hn := newO x hx
        refine ⟨fun hf => ?_, fun e => ?_, fun e => ?_⟩
        · obtain ⟨o, ho⟩ := L.desk.there x hf
          rw [hn] at ho; cases ho
        · obtain ⟨_, _, _, hb6, _⟩ := L.bag
          rw [e, hb6] at hn; cases hn
        · have := L.hdu
          rw [← e, hn] at this; cases this
      refine ⟨_, rfl, _, rfl, _, rfl, _, rfl, D, tD, cs, cl, nl, du, rfl, L9.desk, L9.side ez zok, fun H10 k10 => ⟨_, rfl, iteF ?_⟩⟩
      have L10 := L9.kp0 k10
      have A10 := A9.kp k10 (fun _ _ => by simp)
      have kH10 : Kp [b] H H10 := kH.trans ((K69.trans k10).mono (by simp))
      refine ⟨fun σ' H' => ∃ (tD' : Addr) (cs' : List Ce) (v6 v8 v9 : Option V), σ' = [some (.ref b), some (.ref D.d), some (.ref D2.d), some (.ref nl), some (.ref du), some (.ref cl), v6, some (.ref ol), v8, v9, none] ∧ LS FC DC CC H' D tD' cs' D2 t2 b cl nl du zs 1000 ∧ cs'.map Ce.z = zs ∧ Kp [b] H H', ?_, ?_⟩
      · refine ⟨_, rfl, b, 9, _, rfl, L10.bag, by decide, by decide, by decide, fun H11 r k11 hB11 r0' r1' => ?_⟩
        have L11 := L10.draw k11 hB11
        have A11 := A10.kp k11 (fun x hx => by simpa using (offO x hx).2.1)
        refine ⟨_, _, rfl, rfl, 4 + r, rfl, by omega, by omega, for_range (lo := 0) (n := (4 + r).toNat) (fun i σ H' => ∃ (tD' : Addr) (cs' : List Ce) (v6 v8 v9 : Option V), σ = [some (.ref b), some (.ref D.d), some (.ref D2.d), some (.ref nl), some (.ref du), some (.ref cl), v6, some (.ref ol), v8, v9, none] ∧ LS FC DC CC H' D tD' cs' D2 t2 b cl nl du zs (200 + 6 * i) ∧ cs'.map Ce.z = zs ∧ Kp [b] H H' ∧ (∀ x ∈ foot D tD' cs', H x = none) ∧ OddAt H' ol tp lp (j ++ ("x" : Str)) z0 zl ∧ ∀ x ∈ [ol, tp, lp], x ∉ foot D tD' cs' ∧ x ≠ b ∧ x ≠ du)
          ⟨tD, cs, _, _, _, rfl, L11.up (by omega), ez, kH10.trans k11, fr, A11, offO⟩ ?_ ?_⟩
        · rintro i σ H12 hi ⟨tD', cs', v6', v8, v9, rfl, L12, ez', kH12, fr', A12, off'⟩
          have lcs' : cs'.length = zs.length := by rw [← ez', List.length_map]
          refine ⟨_, rfl, _, rfl, _, rfl, _, rfl, _, rfl, D, tD', cs', b, cl, nl, du, _, rfl, L12.bag, by omega, L12.desk, L12.side ez' zok, by omega, L12.apart, fun H13 t13 cs13 k13 ht13 hB13 D13 S13 ez13 ea13 => ⟨_, rfl, iteF ?_⟩⟩
          have L13 := L12.deed k13 ht13 hB13 D13 S13 ez13 ea13
          have ez13' : cs13.map Ce.z = zs := ez13.trans ez'
          have kH13 : Kp [b] H H13 := kH12.via k13 (fun x hx => by
            rcases List.mem_cons.mp hx with rfl | hx
            · exact .inl (by simp)
            · rcases List.mem_cons.mp hx with rfl | hx
              · exact .inr hduH
              · exact .inr (fr' x hx))
          have tH : H t13 = none := kH12.none ht13 L12.bag.there
          have fr13 : ∀ x ∈ foot D t13 cs13, H x = none := fun x hx => by
            rcases foot_to (tD := tD') ea13 hx with h | h
            · rw [h]; exact tH
            · exact fr' x h
          have A13 := A12.kp k13 (fun x hx => by
            obtain ⟨h1, h2, h3⟩ := off' x hx
            simp only [List.mem_cons, not_or]
            exact ⟨h2, h3, h1⟩)
          have off13 : ∀ x ∈ [ol, tp, lp], x ∉ foot D t13 cs13 ∧ x ≠ b ∧ x ≠ du := fun x hx => by
            obtain ⟨h1, h2, h3⟩ := off' x hx
            refine ⟨fun hf => ?_, h2, h3⟩
            rcases foot_to (tD := tD') ea13 hf with h | h
            · obtain ⟨o, ho⟩ := liveA A12 x hx
              rw [h, ht13] at ho; cases ho
            · exact h1 h
          refine ⟨_, rfl, _, rfl, _, rfl, _, rfl, D, t13, cs13, cl, nl, du, rfl, L13.desk, L13.side ez13' zok, fun H14 k14 => ⟨_, rfl, iteF ?_⟩⟩
          have L14 := L13.kp0 k14
          have A14 := A13.kp k14 (fun _ _ => by simp)
          have olb : ol ≠ b := (offO ol (by simp)).2.1
          refine ⟨_, rfl, _, rfl, b, ol, _, _, rfl, L14.bag, by omega, A14.ol, (by show 0 < 6; decide), (by show 6 < 1000; decide), olb, fun H15 t x k15 hB15 hx => ?_⟩
          have L15 := L14.draw k15 hB15
          have A15 := A14.kp k15 (fun x hx => by simpa using (offO x hx).2.1)
          obtain ⟨fl, hF, hno⟩ := A15.odd (cs := cs13) jxo (zok _ m0) (zok _ ml) (by rw [ez13']; exact jx) hx
          have kH15 : Kp [b] H H15 := kH13.trans ((k14.mono (by simp)).trans k15)
          refine ⟨_, rfl, _, rfl, D.d, D.dx, _, rfl, L15.desk.desk, D, t13, cs13, x, fl, rfl, L15.desk, hF, _, rfl, _, rfl, ?_⟩
          rw [show id (hasF cs13 fl) = false from hno]
          refine iteF ?_
          refine ⟨_, rfl, _, rfl, _, rfl, _, _, rfl, rfl, D, t13, cs13, x, fl, _, rfl, L15.desk, hF, hno, fun H16 k16 => ⟨_, rfl, iteF ?_⟩⟩
          have L16 := L15.kp0 k16
          refine ⟨_, rfl, _, rfl, _, rfl, _, rfl, D, t13, cs13, cl, nl, du, rfl, L16.desk, L16.side ez13' zok, fun H17 k17 => ⟨_, rfl, iteF ?_⟩⟩
          exact ⟨t13, cs13, _, _, _, rfl, (L16.kp0 k17).up (by omega), ez13', kH15.trans ((k16.trans k17).mono (by simp)), fr13, (A15.kp k16 (fun _ _ => by simp)).kp k17 (fun _ _ => by simp), off13⟩
        · rintro σ H12 ⟨tD', cs', v6', v8, v9, rfl, L12, ez', kH12, fr', A12, off'⟩
          exact ⟨tD', cs', _, _, _, rfl, L12.up (by omega), ez', kH12⟩
      · rintro σ' Ha ⟨ta, ca, v6', v8, v9, rfl, La, eza, kHa⟩
        have lca : ca.length = zs.length := by rw [← eza, List.length_map]
        have o0 : PyData.strOk z0 = true := zok _ m0
        have no2 : hasF ([] : List Ce) (.str z0) = false := by
          show decide (z0 ∈ ([] : List Ce).map Ce.z) = false
          simp
        refine ⟨_, rfl, nl, _, 0, V.str z0, rfl, rfl, SqL.of La.hnl, atI_nat (by rw [List.getElem?_map, hz0]; rfl), _, rfl, D2.d, D2.dx, _, rfl, La.other.desk, D2, t2, [], _, .str z0, rfl, La.other, ⟨rfl, o0⟩, _, rfl, _, rfl, ?_⟩
        rw [show id (hasF [] (.str z0)) = false from no2]
        refine iteF ?_
        refine ⟨_, rfl, _, rfl, nl, _, 0, V.str z0, rfl, rfl, SqL.of La.hnl, atI_nat (by rw [List.getElem?_map, hz0]; rfl), D2, t2, [], _, .str z0, true, rfl, La.other, ⟨rfl, o0⟩, no2, fun Hb kb => ⟨_, rfl, iteF ?_⟩⟩
        have Lb := La.kp0 kb
        have kHb : Kp [b] H Hb := kHa.trans (kb.mono (by simp))
        refine ⟨_, rfl, D2.d, D2.dx, _, rfl, Lb.other.desk, rfl, _, rfl, nl, _, 0, V.str z0, rfl, rfl, SqL.of Lb.hnl, atI_nat (by rw [List.getElem?_map, hz0]; rfl), D2, t2, [], z0, 5, rfl, Lb.other, by simp, by decide, fun Hc a ax kc ha Oc => ?_⟩
        have f3 : ∀ x ∈ [D2.nD, D2.cD, D2.sD], x ∈ foot D2 t2 [] := fun x hx => foot_three hx
        have Sb := Lb.side eza zok
        have Dc : DeskAt FC DC CC Hc D ta ca := Lb.desk.kp kc (fun x hx e => (Lb.far x (f3 x e)).1 hx)
        have nc3 : ∀ x ∈ [b, cl, nl, du], x ∉ [D2.nD, D2.cD, D2.sD] := fun x hx e => (Lb.far x (f3 x e)).2 hx
        have Sc : Side Hc cl nl du ca := Sb.kp kc (nc3 _ (by simp)) (nc3 _ (by simp)) (nc3 _ (by simp))
        have haH : H a = none := kHb.none ha Lb.bag.there
        have f2H : ∀ x ∈ foot D2 t2 [], H x = none := fun x hx => Kp.none (T := []) K1 (fD2 x hx) (fun y hy => nomatch hy)
        have kHc : Kp [b] H Hc := kHb.via kc (fun x hx => .inr (f2H x (f3 x hx)))
        obtain ⟨ca1, ca2⟩ := Oc.cell ⟨z0, a, ax, 5⟩ (by simp)
        refine ⟨_, rfl, a, ax, _, rfl, ca1, rfl, D2, t2, [⟨z0, a, ax, 5⟩], 0, ⟨z0, a, ax, 5⟩, 6, rfl, Oc, rfl, fun Hd td kd htd Od => ?_⟩
        have n2a : ∀ x ∈ [D2.f, t2, a], x = a ∨ x ∈ foot D2 t2 [] := fun x hx => by
          simp only [List.mem_cons, List.mem_nil_iff, or_false] at hx
          rcases hx with rfl | rfl | rfl
          · exact .inr (List.mem_append_left _ (by simp))
          · exact .inr (List.mem_append_left _ (by simp))
          · exact .inl rfl
        have Dd : DeskAt FC DC CC Hd D ta ca := Dc.kp kd (fun x hx e => by
          rcases n2a x e with h | h
          · obtain ⟨o, ho⟩ := Lb.desk.there x hx
            rw [h, ha] at ho; cases ho
          · exact (Lb.far x h).1 hx)
        have nd3 : ∀ x ∈ [b, cl, nl, du], x ∉ [D2.f, t2, a] := fun x hx e => by
          rcases n2a x e with h | h
          · obtain ⟨_, _, _, hbb, _⟩ := Lb.bag
            have c1 := Lb.hcl
            have c2 := Lb.hnl
            have c3 := Lb.hdu
            subst h
            simp only [List.mem_cons, List.mem_nil_iff, or_false] at hx
            rcases hx with rfl | rfl | rfl | rfl
            · rw [ha] at hbb; cases hbb
            · rw [ha] at c1; cases c1
            · rw [ha] at c2; cases c2
            · rw [ha] at c3; cases c3
          · exact (Lb.far x h).2 hx
        have Sd : Side Hd cl nl du ca := Sc.kp kd (nd3 _ (by simp)) (nd3 _ (by simp)) (nd3 _ (by simp))
        have kHd : Kp [b] H Hd := kHc.via kd (fun x hx => by
          rcases n2a x hx with h | h
          · rw [h]; exact .inr haH
          · exact .inr (f2H x h))
        obtain ⟨cd1, cd2⟩ := Od.cell ⟨z0, a, ax, 6⟩ (by simp [Ce.to])
        refine ⟨_, rfl, a, ax, _, rfl, cd1, a, ax, D2.f, D2.fx, z0, 6, _, rfl, cd1, Od.floor, rfl, rfl, rfl, _, rfl, iteT ?_⟩
        refine ⟨_, rfl, D.d, D.dx, _, rfl, Dd.desk, D, ta, ca, rfl, Dd, 0, rfl, by decide, by decide, rfl, _, rfl, iteT ?_⟩
        refine ⟨_, rfl, D.d, D.dx, _, rfl, Dd.desk, fun q hq => ?_⟩
        have Dq : DeskAt FC DC CC (upd Hd q (.lst [])) D ta ca := Dd.kp (S := []) (Kp.new hq) (fun _ _ => by simp)
        refine ⟨D, ta, ca, rfl, Dq, fun it hit => ?_⟩
        have Di : DeskAt FC DC CC (upd (upd Hd q (.lst [])) it (ItO D.lL it 0)) D ta ca := Dq.kp (S := []) (Kp.new hit) (fun _ _ => by simp)
        have nqi : q ≠ it := fun e => by rw [← e, upd_same] at hit; cases hit
        have hitd : Hd it = none := by rw [upd_ne (Ne.symm nqi)] at hit; exact hit
        refine ⟨it, D.lL, D.dx, _, [], rfl, upd_same, Di.log, by decide, fun e => ?_, by rw [upd_ne nqi]; exact upd_same, Di.desk, D, ta, ca, rfl, Di, rfl, rfl, fun He heq oth => ?_⟩
        · have := Dd.log
          rw [e, hq] at this; cases this
        · have kde : Kp [] Hd He := fun x o _ e => by
            have n1 : x ≠ q := ne_of_none e hq
            have n2 : x ≠ it := ne_of_none e hitd
            rw [oth x n1 n2, upd_ne n2, upd_ne n1]
            exact e
          refine ⟨(by show 0 ≤ sizeLine; omega), fun p hp => ?_⟩
          have heq2 : upd He p (.lst []) q = some (.lst []) := by rw [upd_ne (ne_of_none heq hp)]; exact heq
          refine ⟨_, _, .lst (SqL.of heq2) .nil, .lst (SqL.of upd_same) .nil, by decide, by decide, _, rfl, iteT ?_⟩
          have kdf : Kp [] Hd (upd He p (.lst [])) := kde.trans (Kp.new hp)
          refine ⟨_, rfl, _, rfl, _, rfl, _, rfl, D, ta, ca, cl, nl, du, rfl, Dd.kp kdf (fun _ _ => by simp), Sd.kp kdf (by simp) (by simp) (by simp), fun Hf kf => ?_⟩
          exact k Hf (kHd.trans ((kdf.trans kf).mono (by simp)))
end
end My

set_option Elab.async false
set_option linter.all false
set_option maxRecDepth 100000
set_option maxHeartbeats 8000000
/-! Q14: the law. -/
namespace My
open PySem PySem.Spec PyProof.Rows L2
def spLaw (K : PySem.W.Frag) : Sp := fun vs H Q _ => ∃ (a : Addr) (ns : List Int), vs = [.ref a] ∧ SqL K H a (ns.map V.int) ∧ ns.length ≤ 63 ∧ ∀ H', Q (.bl true) H'
section
variable {P : Program} {w : World} {K : PySem.W.Frag} {mg : Str → Option Value} {base : Heap}
abbrev sLaw : Stmt := (top 29)
theorem scLaw : FnScope ["_law_script", "_law_at"] ["_law_script"] (defScope sLaw) := ⟨rfl, rfl, rfl, by decide +kernel, rfl, by decide +kernel, by decide +kernel⟩
theorem SqL.kp0 {H H' : Hp} {a : Addr} {xs : List V} (h : SqL K H a xs) (k : Kp [] H H') : SqL K H' a xs := by
  rcases h with (h | ⟨od, h⟩) | h
  · exact .inl (.inl (k _ _ (by simp) h))
  · exact .inl (.inr ⟨od, k _ _ (by simp) h⟩)
  · exact .inr h
theorem ok_law {f fG fR : Addr} {fd dG dR : FuncData} (F : Fun K "law" "law" sLaw f fd) (B : Bt mg) (G : LD P w K mg base "_law_bag" 1 ["_law_script", "_law_at"] (spBag K) fG dG) (R : LD P w K mg base "_law_right" 9 ["_law_bag_here"] spRight fR dR) : FnOk P w K mg base CX0 10 f fd ["_law_script"] (spLaw K) := by
  refine F.ok scLaw (fun vs H Q E h => ?_) (fun cdv A outer s H vs Q E hr h => ?_)
  · obtain ⟨a, ns, rfl, _⟩ := h
    rfl
  · obtain ⟨a, ns, rfl, hS, hl, k⟩ := h
    have nd := scLaw.nd
    have h1 := hr.mono (by decide : 1 ≤ 9)
    refine ⟨_, pss_cons (ps_for PassesOwn.never rfl (pi_range1 rfl B.range (pa_cons (pe_callB (call_max2 rfl) (by rfl) B.max boot_max (pa_cons pe_int (pa_cons (pe_callB (call_min2 rfl) (by rfl) B.min boot_min (pa_cons pe_int (pa_cons (pe_callB call_len (by rfl) B.len PySem.boot_len (pa_cons (pv 0) pa_nil)) pa_nil))) pa_nil))) pa_nil)) (pg_name (i := 1) nd rfl (Or.inl rfl))
        (pss_one (ps_if (pt_not (pt_val (pe_call R.o hr (by rfl) R.a.g R.a.k R.b .nil pass0 (pa_cons (pe_call G.o h1 (by rfl) G.a.g G.a.k G.b .nil pass0 (pa_cons (pv 0) (pa_cons (pv 1) pa_nil))) pa_nil)))) (pss_one (ps_ret pe_bl)) pss_nil)))
      (pss_one (ps_ret pe_bl)), ?_⟩
    obtain ⟨n, hn, n0, n4⟩ : ∃ n : Int, (if (if ((ns.map V.int).length : Int) < 4 then ((ns.map V.int).length : Int) else 4) > 1 then (if ((ns.map V.int).length : Int) < 4 then ((ns.map V.int).length : Int) else 4) else 1) = n ∧ 0 ≤ n ∧ n ≤ 4 := ⟨_, rfl, by split <;> (try split) <;> omega, by split <;> (try split) <;> omega⟩
    refine ⟨_, rfl, _, _, rfl, .inl ⟨_, hS, rfl⟩, _, _, rfl, _, _, rfl, n, by rw [← hn], by omega, by omega, for_range (lo := 0) (n := n.toNat) (fun i σ H' => ∃ v1, σ = [some (.ref a), v1] ∧ Kp [] H H') ⟨none, rfl, Kp.refl H⟩ ?_ ?_⟩
    · rintro i σ H1 hi ⟨v1, rfl, k1⟩
      refine ⟨_, rfl, _, rfl, a, ns, _, rfl, SqL.kp0 hS k1, by omega, by omega, fun H2 b k2 hb hB => ⟨b, rfl, hB, fun H3 k3 => ⟨_, rfl, iteF ⟨_, rfl, ?_⟩⟩⟩⟩
      exact k1.trans (k2.via k3 fun x hx => .inr (by rw [List.mem_singleton.mp hx]; exact hb))
    · rintro σ H1 ⟨v1, rfl, k1⟩
      exact k H1
end
end My

set_option Elab.async false
set_option linter.all false
set_option maxRecDepth 100000
set_option maxHeartbeats 8000000
/-! Q15: from the written part to the promise. -/
namespace My
open PySem PySem.Spec PyProof.Rows L2
abbrev bmV : List Value := [.type "ValueError", .type "Exception", .type "BaseException", .type "object"]
/-- a look at what the written part says of a class of errors -/
def xcB (K : PySem.W.Frag) (C : Addr) (bm : List Value) (nw : String) : Bool := PySem.W.excInitIn K C bm nw && (decide (PySem.W.findIn K (.ref C) "__setattr__" = some (some (.builtin "object.__setattr__"))) && (decide (PySem.W.typeIn K (.ref C) = some (.type "type")) && (PySem.W.keepIn K (.ref C) &&
  (decide (PySem.W.findIn K (.ref C) "__getattribute__" = some (some (.builtin "BaseException.__getattribute__"))) && (decide (PySem.W.findIn K (.ref C) "__getattr__" = some none) && (decide (PySem.W.subIn K (.ref C) (.type "BaseException") = some true) && (PySem.W.hasDictIn K C &&
  (decide (PySem.W.findIn K (.ref C) "__class__" = some (some (.builtin "object.__class__"))) && (decide (PySem.W.specialIn K (.builtin "object.__class__") "__get__" = some (some (.builtin "getset_descriptor.__get__"))) && (decide (PySem.W.takesIn K (.builtin "object.__class__") = some true) &&
  decide (PySem.W.mroIn K C (.type "object") = some true)))))))))))
theorem xc_of {K : PySem.W.Frag} {C : Addr} {bm : List Value} {B nw ini : String} (F : ExcBaseFacts B nw ini bm) (hp : ∀ self : Value, refuseLoop self "__setattr__" bm = pure ()) (h : xcB K C bm nw = true) : XC K C := by
  unfold xcB at h
  simp only [Bool.and_eq_true, decide_eq_true_eq] at h
  obtain ⟨h1, h2, h3, h4, h5, h6, h7, h8, h9, h10, h11, h12⟩ := h
  exact ⟨⟨B, nw, ini, bm, F, h1, hp⟩, h2, h3, h4, ⟨h5, h6, h7, h8, h9, h10, h11, h12⟩⟩
def noB (K : PySem.W.Frag) (C : Addr) (f : Str) : Bool := decide (PySem.W.findIn K (.ref C) f = some none)
theorem no_of {K : PySem.W.Frag} {C : Addr} {f : Str} (h : noB K C f = true) : PySem.W.findIn K (.ref C) f = some none := of_decide_eq_true h
def btB (K : PySem.W.Frag) : Bool := [("int" : Str), ("len" : Str), ("abs" : Str), ("list" : Str), ("str" : Str), ("range" : Str), ("enumerate" : Str), ("isinstance" : Str), ("tuple" : Str), ("set" : Str), ("all" : Str), ("any" : Str), ("max" : Str), ("min" : Str), ("sorted" : Str), ("bool" : Str), ("ValueError" : Str), ("iter" : Str), ("zip" : Str)].all fun x => decide (PySem.W.nsIn K mainGlobals x = some none)
theorem bt_of {K : PySem.W.Frag} {h : Heap} {mg : Str → Option Value} (X : K.In h) (G : h.Ns mainGlobals mg) (b : btB K = true) : Bt mg ∧ mg "ValueError" = none ∧ mg "iter" = none ∧ mg "zip" = none := by
  have go : ∀ x ∈ [("int" : Str), ("len" : Str), ("abs" : Str), ("list" : Str), ("str" : Str), ("range" : Str), ("enumerate" : Str), ("isinstance" : Str), ("tuple" : Str), ("set" : Str), ("all" : Str), ("any" : Str), ("max" : Str), ("min" : Str), ("sorted" : Str), ("bool" : Str), ("ValueError" : Str), ("iter" : Str), ("zip" : Str)], mg x = none := fun x hx => PySem.W.mg_none_of X G (of_decide_eq_true (List.all_eq_true.mp b x hx))
  exact ⟨⟨go _ (by simp), go _ (by simp), go _ (by simp), go _ (by simp), go _ (by simp), go _ (by simp), go _ (by simp), go _ (by simp), go _ (by simp), go _ (by simp), go _ (by simp), go _ (by simp), go _ (by simp), go _ (by simp), go _ (by simp), go _ (by simp)⟩, go _ (by simp), go _ (by simp), go _ (by simp)⟩
/-- a look at an own class -/
def clsB (K : PySem.W.Frag) (C : Addr) (fs : List Str) : Bool := PySem.W.plainGet K C Str.empty && (PySem.W.hasDictIn K C && (PySem.W.plainOver K C && (decide (PySem.W.findIn K (.ref C) "__setattr__" = some (some (.builtin "object.__setattr__"))) && fs.all fun f => noB K C f)))
theorem cls_of {K : PySem.W.Frag} {C : Addr} {fs : List Str} (h : clsB K C fs = true) : Cls K C ∧ ∀ f ∈ fs, NoAttr K C f := by
  unfold clsB at h
  simp only [Bool.and_eq_true, decide_eq_true_eq] at h
  obtain ⟨h1, h2, h3, h4, h5⟩ := h
  exact ⟨⟨h1, h2, h3, h4⟩, fun f hf => no_of (List.all_eq_true.mp h5 f hf)⟩
def insB (K : PySem.W.Frag) (C : Addr) : Bool := decide (PySem.W.findIn K (.ref C) "__class__" = some (some (.builtin "object.__class__"))) && (decide (PySem.W.specialIn K (.builtin "object.__class__") "__get__" = some (some (.builtin "getset_descriptor.__get__"))) && (decide (PySem.W.takesIn K (.builtin "object.__class__") = some true) &&
  (decide (PySem.W.mroIn K C (.type "object") = some true) && decide (PySem.W.kitOne K (.ref C) (.ref C) = some true))))
theorem ins_of {K : PySem.W.Frag} {C : Addr} (c : Cls K C) (h : insB K C = true) : C8.InsC K C := by
  unfold insB at h
  simp only [Bool.and_eq_true, decide_eq_true_eq] at h
  obtain ⟨h1, h2, h3, h4, h5⟩ := h
  exact ⟨c, h1, h2, h3, h4, h5⟩
theorem all_mk {l : PySem.W.OpenLaw} {w : World} {K : PySem.W.Frag} {h : Heap} {mg : Str → Option Value} {fa : Addr} (X : K.In h) (G : h.Ns mainGlobals mg) (hfa : mg "law" = some (.ref fa)) {f_copied : Addr} {od_copied an_copied : Option Addr} {sl_copied : Array (Option Value)} {oc_copied kV_copied dc_copied pm_copied cd_copied ct_copied : Value} {f_bag : Addr} {od_bag an_bag : Option Addr} {sl_bag : Array (Option Value)} {oc_bag kV_bag dc_bag pm_bag cd_bag ct_bag : Value} {f_take : Addr} {od_take an_take : Option Addr} {sl_take : Array (Option Value)} {oc_take kV_take dc_take pm_take cd_take ct_take : Value} {f_of : Addr} {od_of an_of : Option Addr} {sl_of : Array (Option Value)} {oc_of kV_of dc_of pm_of cd_of ct_of : Value} {f_worth : Addr} {od_worth an_worth : Option Addr} {sl_worth : Array (Option Value)} {oc_worth kV_worth dc_worth pm_worth cd_worth ct_worth : Value} {f_names : Addr} {od_names an_names : Option Addr} {sl_names : Array (Option Value)} {oc_names kV_names dc_names pm_names cd_names ct_names : Value} {f_is_int : Addr} {od_is_int an_is_int : Option Addr} {sl_is_int : Array (Option Value)} {oc_is_int kV_is_int dc_is_int pm_is_int cd_is_int ct_is_int : Value} {f_shows : Addr} {od_shows an_shows : Option Addr} {sl_shows : Array (Option Value)} {oc_shows kV_shows dc_shows pm_shows cd_shows ct_shows : Value} {f_no_name : Addr} {od_no_name an_no_name : Option Addr} {sl_no_name : Array (Option Value)} {oc_no_name kV_no_name dc_no_name pm_no_name cd_no_name ct_no_name : Value} {f_put : Addr} {od_put an_put : Option Addr} {sl_put : Array (Option Value)} {oc_put kV_put dc_put pm_put cd_put ct_put : Value} {f_right : Addr} {od_right an_right : Option Addr} {sl_right : Array (Option Value)} {oc_right kV_right dc_right pm_right cd_right ct_right : Value} {f_law : Addr} {od_law an_law : Option Addr} {sl_law : Array (Option Value)} {oc_law kV_law dc_law pm_law cd_law ct_law : Value} {FC : Addr} {DC : Addr} {CC : Addr} {f_fI : Addr} {od_fI an_fI : Option Addr} {sl_fI : Array (Option Value)} {oc_fI kV_fI dc_fI pm_fI cd_fI ct_fI : Value} {f_fP : Addr} {od_fP an_fP : Option Addr} {sl_fP : Array (Option Value)} {oc_fP kV_fP dc_fP pm_fP cd_fP ct_fP : Value} {f_fN : Addr} {od_fN an_fN : Option Addr} {sl_fN : Array (Option Value)} {oc_fN kV_fN dc_fN pm_fN cd_fN ct_fN : Value} {f_fT : Addr} {od_fT an_fT : Option Addr} {sl_fT : Array (Option Value)} {oc_fT kV_fT dc_fT pm_fT cd_fT ct_fT : Value} {f_fU : Addr} {od_fU an_fU : Option Addr} {sl_fU : Array (Option Value)} {oc_fU kV_fU dc_fU pm_fU cd_fU ct_fU : Value} {f_fS : Addr} {od_fS an_fS : Option Addr} {sl_fS : Array (Option Value)} {oc_fS kV_fS dc_fS pm_fS cd_fS ct_fS : Value} {f_dI : Addr} {od_dI an_dI : Option Addr} {sl_dI : Array (Option Value)} {oc_dI kV_dI dc_dI pm_dI cd_dI ct_dI : Value} {f_dC : Addr} {od_dC an_dC : Option Addr} {sl_dC : Array (Option Value)} {oc_dC kV_dC dc_dC pm_dC cd_dC ct_dC : Value} {f_dG : Addr} {od_dG an_dG : Option Addr} {sl_dG : Array (Option Value)} {oc_dG kV_dG dc_dG pm_dG cd_dG ct_dG : Value} {f_dS : Addr} {od_dS an_dS : Option Addr} {sl_dS : Array (Option Value)} {oc_dS kV_dS dc_dS pm_dS cd_dS ct_dS : Value} {f_dH : Addr} {od_dH an_dH : Option Addr} {sl_dH : Array (Option Value)} {oc_dH kV_dH dc_dH pm_dH cd_dH ct_dH : Value} {f_dL : Addr} {od_dL an_dL : Option Addr} {sl_dL : Array (Option Value)} {oc_dL kV_dL dc_dL pm_dL cd_dL ct_dL : Value} {f_dT : Addr} {od_dT an_dT : Option Addr} {sl_dT : Array (Option Value)} {oc_dT kV_dT dc_dT pm_dT cd_dT ct_dT : Value} {f_cI : Addr} {od_cI an_cI : Option Addr} {sl_cI : Array (Option Value)} {oc_cI kV_cI dc_cI pm_cI cd_cI ct_cI : Value} {f_cC : Addr} {od_cC an_cC : Option Addr} {sl_cC : Array (Option Value)} {oc_cC kV_cC dc_cC pm_cC cd_cC ct_cC : Value} {f_cP : Addr} {od_cP an_cP : Option Addr} {sl_cP : Array (Option Value)} {oc_cP kV_cP dc_cP pm_cP cd_cP ct_cP : Value} {f_cA : Addr} {od_cA an_cA : Option Addr} {sl_cA : Array (Option Value)} {oc_cA kV_cA dc_cA pm_cA cd_cA ct_cA : Value} {pA : Addr} {restV : List Value} {f_cV : Addr} {od_cV an_cV : Option Addr} {sl_cV : Array (Option Value)} {oc_cV kV_cV dc_cV pm_cV cd_cV ct_cV : Value} {tM : Tok} {NN TE' : Addr} {f_nn : Addr} {od_nn an_nn : Option Addr} {sl_nn : Array (Option Value)} {oc_nn kV_nn dc_nn pm_nn cd_nn ct_nn : Value}
    (a_copied : PySem.W.nsIn K mainGlobals "copied" = some (some (.ref f_copied)))
    (l_copied : K.lookup f_copied = some ⟨oc_copied, od_copied, .func (PySem.W.fnOf "copied" "copied" (defArgs sCopied) (defBody sCopied) (defScope sCopied) .none kV_copied dc_copied pm_copied an_copied cd_copied ct_copied), sl_copied⟩)
    (c_copied : PySem.W.codeIn K cd_copied "copied" = true)
    (k_copied : PySem.W.keepIn K (.ref f_copied) = true)
    (a_bag : PySem.W.nsIn K mainGlobals "_law_bag" = some (some (.ref f_bag)))
    (l_bag : K.lookup f_bag = some ⟨oc_bag, od_bag, .func (PySem.W.fnOf "_law_bag" "_law_bag" (defArgs sBag) (defBody sBag) (defScope sBag) .none kV_bag dc_bag pm_bag an_bag cd_bag ct_bag), sl_bag⟩)
    (c_bag : PySem.W.codeIn K cd_bag "_law_bag" = true)
    (k_bag : PySem.W.keepIn K (.ref f_bag) = true)
    (a_take : PySem.W.nsIn K mainGlobals "_law_take" = some (some (.ref f_take)))
    (l_take : K.lookup f_take = some ⟨oc_take, od_take, .func (PySem.W.fnOf "_law_take" "_law_take" (defArgs sTake) (defBody sTake) (defScope sTake) .none kV_take dc_take pm_take an_take cd_take ct_take), sl_take⟩)
    (c_take : PySem.W.codeIn K cd_take "_law_take" = true)
    (k_take : PySem.W.keepIn K (.ref f_take) = true)
    (a_of : PySem.W.nsIn K mainGlobals "_law_of" = some (some (.ref f_of)))
    (l_of : K.lookup f_of = some ⟨oc_of, od_of, .func (PySem.W.fnOf "_law_of" "_law_of" (defArgs sOf) (defBody sOf) (defScope sOf) .none kV_of dc_of pm_of an_of cd_of ct_of), sl_of⟩)
    (c_of : PySem.W.codeIn K cd_of "_law_of" = true)
    (k_of : PySem.W.keepIn K (.ref f_of) = true)
    (a_worth : PySem.W.nsIn K mainGlobals "_law_worth" = some (some (.ref f_worth)))
    (l_worth : K.lookup f_worth = some ⟨oc_worth, od_worth, .func (PySem.W.fnOf "_law_worth" "_law_worth" (defArgs sWorth) (defBody sWorth) (defScope sWorth) .none kV_worth dc_worth pm_worth an_worth cd_worth ct_worth), sl_worth⟩)
    (c_worth : PySem.W.codeIn K cd_worth "_law_worth" = true)
    (k_worth : PySem.W.keepIn K (.ref f_worth) = true)
    (a_names : PySem.W.nsIn K mainGlobals "_law_names" = some (some (.ref f_names)))
    (l_names : K.lookup f_names = some ⟨oc_names, od_names, .func (PySem.W.fnOf "_law_names" "_law_names" (defArgs sNames) (defBody sNames) (defScope sNames) .none kV_names dc_names pm_names an_names cd_names ct_names), sl_names⟩)
    (c_names : PySem.W.codeIn K cd_names "_law_names" = true)
    (k_names : PySem.W.keepIn K (.ref f_names) = true)
    (a_is_int : PySem.W.nsIn K mainGlobals "_law_is_int" = some (some (.ref f_is_int)))
    (l_is_int : K.lookup f_is_int = some ⟨oc_is_int, od_is_int, .func (PySem.W.fnOf "_law_is_int" "_law_is_int" (defArgs sIsInt) (defBody sIsInt) (defScope sIsInt) .none kV_is_int dc_is_int pm_is_int an_is_int cd_is_int ct_is_int), sl_is_int⟩)
    (c_is_int : PySem.W.codeIn K cd_is_int "_law_is_int" = true)
    (k_is_int : PySem.W.keepIn K (.ref f_is_int) = true)
    (a_shows : PySem.W.nsIn K mainGlobals "_law_shows" = some (some (.ref f_shows)))
    (l_shows : K.lookup f_shows = some ⟨oc_shows, od_shows, .func (PySem.W.fnOf "_law_shows" "_law_shows" (defArgs sShows) (defBody sShows) (defScope sShows) .none kV_shows dc_shows pm_shows an_shows cd_shows ct_shows), sl_shows⟩)
    (c_shows : PySem.W.codeIn K cd_shows "_law_shows" = true)
    (k_shows : PySem.W.keepIn K (.ref f_shows) = true)
    (a_no_name : PySem.W.nsIn K mainGlobals "_law_no_name" = some (some (.ref f_no_name)))
    (l_no_name : K.lookup f_no_name = some ⟨oc_no_name, od_no_name, .func (PySem.W.fnOf "_law_no_name" "_law_no_name" (defArgs sNoNm) (defBody sNoNm) (defScope sNoNm) .none kV_no_name dc_no_name pm_no_name an_no_name cd_no_name ct_no_name), sl_no_name⟩)
    (c_no_name : PySem.W.codeIn K cd_no_name "_law_no_name" = true)
    (k_no_name : PySem.W.keepIn K (.ref f_no_name) = true)
    (a_put : PySem.W.nsIn K mainGlobals "_law_put" = some (some (.ref f_put)))
    (l_put : K.lookup f_put = some ⟨oc_put, od_put, .func (PySem.W.fnOf "_law_put" "_law_put" (defArgs sPutL) (defBody sPutL) (defScope sPutL) .none kV_put dc_put pm_put an_put cd_put ct_put), sl_put⟩)
    (c_put : PySem.W.codeIn K cd_put "_law_put" = true)
    (k_put : PySem.W.keepIn K (.ref f_put) = true)
    (a_right : PySem.W.nsIn K mainGlobals "_law_right" = some (some (.ref f_right)))
    (l_right : K.lookup f_right = some ⟨oc_right, od_right, .func (PySem.W.fnOf "_law_right" "_law_right" (defArgs sRight) (defBody sRight) (defScope sRight) .none kV_right dc_right pm_right an_right cd_right ct_right), sl_right⟩)
    (c_right : PySem.W.codeIn K cd_right "_law_right" = true)
    (k_right : PySem.W.keepIn K (.ref f_right) = true)
    (a_law : PySem.W.nsIn K mainGlobals "law" = some (some (.ref f_law)))
    (l_law : K.lookup f_law = some ⟨oc_law, od_law, .func (PySem.W.fnOf "law" "law" (defArgs sLaw) (defBody sLaw) (defScope sLaw) .none kV_law dc_law pm_law an_law cd_law ct_law), sl_law⟩)
    (c_law : PySem.W.codeIn K cd_law "law" = true)
    (k_law : PySem.W.keepIn K (.ref f_law) = true)
    (g_FC : PySem.W.nsIn K mainGlobals "Floor" = some (some (.ref FC)))
    (kc_FC : PySem.W.keepIn K (.ref FC) = true)
    (mk_FC : PySem.W.makesIn K FC = true)
    (z_FC : clsB K FC ["most_runs", "names", "cells", "sources", "effects", "log", "inmost", "batches", "turned"] = true)
    (g_DC : PySem.W.nsIn K mainGlobals "Desk" = some (some (.ref DC)))
    (kc_DC : PySem.W.keepIn K (.ref DC) = true)
    (mk_DC : PySem.W.makesIn K DC = true)
    (z_DC : clsB K DC ["_floor"] = true)
    (g_CC : PySem.W.nsIn K mainGlobals "Cell" = some (some (.ref CC)))
    (kc_CC : PySem.W.keepIn K (.ref CC) = true)
    (mk_CC : PySem.W.makesIn K CC = true)
    (z_CC : clsB K CC ["name", "_floor", "_now"] = true)
    (at_fI : PySem.W.findIn K (.ref FC) "__init__" = some (some (.ref f_fI)))
    (fn_fI : PySem.W.isFn K (.ref f_fI) = true)
    (fi_fI : PySem.W.fnIn K f_fI = true)
    (l_fI : K.lookup f_fI = some ⟨oc_fI, od_fI, .func (PySem.W.fnOf "__init__" "Floor.__init__" (defArgs sInitF) (defBody sInitF) (defScope sInitF) .none kV_fI dc_fI pm_fI an_fI cd_fI ct_fI), sl_fI⟩)
    (c_fI : PySem.W.codeIn K cd_fI "Floor.__init__" = true)
    (k_fI : PySem.W.keepIn K (.ref f_fI) = true)
    (at_fP : PySem.W.findIn K (.ref FC) "check_place" = some (some (.ref f_fP)))
    (fn_fP : PySem.W.isFn K (.ref f_fP) = true)
    (fi_fP : PySem.W.fnIn K f_fP = true)
    (l_fP : K.lookup f_fP = some ⟨oc_fP, od_fP, .func (PySem.W.fnOf "check_place" "Floor.check_place" (defArgs sPlace) (defBody sPlace) (defScope sPlace) .none kV_fP dc_fP pm_fP an_fP cd_fP ct_fP), sl_fP⟩)
    (c_fP : PySem.W.codeIn K cd_fP "Floor.check_place" = true)
    (k_fP : PySem.W.keepIn K (.ref f_fP) = true)
    (at_fN : PySem.W.findIn K (.ref FC) "note" = some (some (.ref f_fN)))
    (fn_fN : PySem.W.isFn K (.ref f_fN) = true)
    (fi_fN : PySem.W.fnIn K f_fN = true)
    (l_fN : K.lookup f_fN = some ⟨oc_fN, od_fN, .func (PySem.W.fnOf "note" "Floor.note" (defArgs sNote) (defBody sNote) (defScope sNote) .none kV_fN dc_fN pm_fN an_fN cd_fN ct_fN), sl_fN⟩)
    (c_fN : PySem.W.codeIn K cd_fN "Floor.note" = true)
    (k_fN : PySem.W.keepIn K (.ref f_fN) = true)
    (at_fT : PySem.W.findIn K (.ref FC) "take_name" = some (some (.ref f_fT)))
    (fn_fT : PySem.W.isFn K (.ref f_fT) = true)
    (fi_fT : PySem.W.fnIn K f_fT = true)
    (l_fT : K.lookup f_fT = some ⟨oc_fT, od_fT, .func (PySem.W.fnOf "take_name" "Floor.take_name" (defArgs sTakeN) (defBody sTakeN) (defScope sTakeN) .none kV_fT dc_fT pm_fT an_fT cd_fT ct_fT), sl_fT⟩)
    (c_fT : PySem.W.codeIn K cd_fT "Floor.take_name" = true)
    (k_fT : PySem.W.keepIn K (.ref f_fT) = true)
    (at_fU : PySem.W.findIn K (.ref FC) "_due" = some (some (.ref f_fU)))
    (fn_fU : PySem.W.isFn K (.ref f_fU) = true)
    (fi_fU : PySem.W.fnIn K f_fU = true)
    (l_fU : K.lookup f_fU = some ⟨oc_fU, od_fU, .func (PySem.W.fnOf "_due" "Floor._due" (defArgs sDue) (defBody sDue) (defScope sDue) .none kV_fU dc_fU pm_fU an_fU cd_fU ct_fU), sl_fU⟩)
    (c_fU : PySem.W.codeIn K cd_fU "Floor._due" = true)
    (k_fU : PySem.W.keepIn K (.ref f_fU) = true)
    (at_fS : PySem.W.findIn K (.ref FC) "settle" = some (some (.ref f_fS)))
    (fn_fS : PySem.W.isFn K (.ref f_fS) = true)
    (fi_fS : PySem.W.fnIn K f_fS = true)
    (l_fS : K.lookup f_fS = some ⟨oc_fS, od_fS, .func (PySem.W.fnOf "settle" "Floor.settle" (defArgs sSettle) (defBody sSettle) (defScope sSettle) .none kV_fS dc_fS pm_fS an_fS cd_fS ct_fS), sl_fS⟩)
    (c_fS : PySem.W.codeIn K cd_fS "Floor.settle" = true)
    (k_fS : PySem.W.keepIn K (.ref f_fS) = true)
    (at_dI : PySem.W.findIn K (.ref DC) "__init__" = some (some (.ref f_dI)))
    (fn_dI : PySem.W.isFn K (.ref f_dI) = true)
    (fi_dI : PySem.W.fnIn K f_dI = true)
    (l_dI : K.lookup f_dI = some ⟨oc_dI, od_dI, .func (PySem.W.fnOf "__init__" "Desk.__init__" (defArgs sInitD) (defBody sInitD) (defScope sInitD) .none kV_dI dc_dI pm_dI an_dI cd_dI ct_dI), sl_dI⟩)
    (c_dI : PySem.W.codeIn K cd_dI "Desk.__init__" = true)
    (k_dI : PySem.W.keepIn K (.ref f_dI) = true)
    (at_dC : PySem.W.findIn K (.ref DC) "cell" = some (some (.ref f_dC)))
    (fn_dC : PySem.W.isFn K (.ref f_dC) = true)
    (fi_dC : PySem.W.fnIn K f_dC = true)
    (l_dC : K.lookup f_dC = some ⟨oc_dC, od_dC, .func (PySem.W.fnOf "cell" "Desk.cell" (defArgs sCellD) (defBody sCellD) (defScope sCellD) .none kV_dC dc_dC pm_dC an_dC cd_dC ct_dC), sl_dC⟩)
    (c_dC : PySem.W.codeIn K cd_dC "Desk.cell" = true)
    (k_dC : PySem.W.keepIn K (.ref f_dC) = true)
    (at_dG : PySem.W.findIn K (.ref DC) "__getitem__" = some (some (.ref f_dG)))
    (fn_dG : PySem.W.isFn K (.ref f_dG) = true)
    (fi_dG : PySem.W.fnIn K f_dG = true)
    (l_dG : K.lookup f_dG = some ⟨oc_dG, od_dG, .func (PySem.W.fnOf "__getitem__" "Desk.__getitem__" (defArgs sGet) (defBody sGet) (defScope sGet) .none kV_dG dc_dG pm_dG an_dG cd_dG ct_dG), sl_dG⟩)
    (c_dG : PySem.W.codeIn K cd_dG "Desk.__getitem__" = true)
    (k_dG : PySem.W.keepIn K (.ref f_dG) = true)
    (at_dS : PySem.W.findIn K (.ref DC) "__setitem__" = some (some (.ref f_dS)))
    (fn_dS : PySem.W.isFn K (.ref f_dS) = true)
    (fi_dS : PySem.W.fnIn K f_dS = true)
    (l_dS : K.lookup f_dS = some ⟨oc_dS, od_dS, .func (PySem.W.fnOf "__setitem__" "Desk.__setitem__" (defArgs sSet) (defBody sSet) (defScope sSet) .none kV_dS dc_dS pm_dS an_dS cd_dS ct_dS), sl_dS⟩)
    (c_dS : PySem.W.codeIn K cd_dS "Desk.__setitem__" = true)
    (k_dS : PySem.W.keepIn K (.ref f_dS) = true)
    (at_dH : PySem.W.findIn K (.ref DC) "__contains__" = some (some (.ref f_dH)))
    (fn_dH : PySem.W.isFn K (.ref f_dH) = true)
    (fi_dH : PySem.W.fnIn K f_dH = true)
    (l_dH : K.lookup f_dH = some ⟨oc_dH, od_dH, .func (PySem.W.fnOf "__contains__" "Desk.__contains__" (defArgs sHas) (defBody sHas) (defScope sHas) .none kV_dH dc_dH pm_dH an_dH cd_dH ct_dH), sl_dH⟩)
    (c_dH : PySem.W.codeIn K cd_dH "Desk.__contains__" = true)
    (k_dH : PySem.W.keepIn K (.ref f_dH) = true)
    (at_dL : PySem.W.findIn K (.ref DC) "__len__" = some (some (.ref f_dL)))
    (fn_dL : PySem.W.isFn K (.ref f_dL) = true)
    (fi_dL : PySem.W.fnIn K f_dL = true)
    (l_dL : K.lookup f_dL = some ⟨oc_dL, od_dL, .func (PySem.W.fnOf "__len__" "Desk.__len__" (defArgs sLenD) (defBody sLenD) (defScope sLenD) .none kV_dL dc_dL pm_dL an_dL cd_dL ct_dL), sl_dL⟩)
    (c_dL : PySem.W.codeIn K cd_dL "Desk.__len__" = true)
    (k_dL : PySem.W.keepIn K (.ref f_dL) = true)
    (at_dT : PySem.W.findIn K (.ref DC) "__iter__" = some (some (.ref f_dT)))
    (fn_dT : PySem.W.isFn K (.ref f_dT) = true)
    (fi_dT : PySem.W.fnIn K f_dT = true)
    (l_dT : K.lookup f_dT = some ⟨oc_dT, od_dT, .func (PySem.W.fnOf "__iter__" "Desk.__iter__" (defArgs sIterD) (defBody sIterD) (defScope sIterD) .none kV_dT dc_dT pm_dT an_dT cd_dT ct_dT), sl_dT⟩)
    (c_dT : PySem.W.codeIn K cd_dT "Desk.__iter__" = true)
    (k_dT : PySem.W.keepIn K (.ref f_dT) = true)
    (at_cI : PySem.W.findIn K (.ref CC) "__init__" = some (some (.ref f_cI)))
    (fn_cI : PySem.W.isFn K (.ref f_cI) = true)
    (fi_cI : PySem.W.fnIn K f_cI = true)
    (l_cI : K.lookup f_cI = some ⟨oc_cI, od_cI, .func (PySem.W.fnOf "__init__" "Cell.__init__" (defArgs sInitC) (defBody sInitC) (defScope sInitC) .none kV_cI dc_cI pm_cI an_cI cd_cI ct_cI), sl_cI⟩)
    (c_cI : PySem.W.codeIn K cd_cI "Cell.__init__" = true)
    (k_cI : PySem.W.keepIn K (.ref f_cI) = true)
    (at_cC : PySem.W.findIn K (.ref CC) "__call__" = some (some (.ref f_cC)))
    (fn_cC : PySem.W.isFn K (.ref f_cC) = true)
    (fi_cC : PySem.W.fnIn K f_cC = true)
    (l_cC : K.lookup f_cC = some ⟨oc_cC, od_cC, .func (PySem.W.fnOf "__call__" "Cell.__call__" (defArgs sCall) (defBody sCall) (defScope sCall) .none kV_cC dc_cC pm_cC an_cC cd_cC ct_cC), sl_cC⟩)
    (c_cC : PySem.W.codeIn K cd_cC "Cell.__call__" = true)
    (k_cC : PySem.W.keepIn K (.ref f_cC) = true)
    (at_cP : PySem.W.findIn K (.ref CC) "put" = some (some (.ref f_cP)))
    (fn_cP : PySem.W.isFn K (.ref f_cP) = true)
    (fi_cP : PySem.W.fnIn K f_cP = true)
    (l_cP : K.lookup f_cP = some ⟨oc_cP, od_cP, .func (PySem.W.fnOf "put" "Cell.put" (defArgs sPut) (defBody sPut) (defScope sPut) .none kV_cP dc_cP pm_cP an_cP cd_cP ct_cP), sl_cP⟩)
    (c_cP : PySem.W.codeIn K cd_cP "Cell.put" = true)
    (k_cP : PySem.W.keepIn K (.ref f_cP) = true)
    (at_cA : PySem.W.findIn K (.ref CC) "__iadd__" = some (some (.ref f_cA)))
    (fn_cA : PySem.W.isFn K (.ref f_cA) = true)
    (fi_cA : PySem.W.fnIn K f_cA = true)
    (l_cA : K.lookup f_cA = some ⟨oc_cA, od_cA, .func (PySem.W.fnOf "__iadd__" "Cell.__iadd__" (defArgs sIadd) (defBody sIadd) (defScope sIadd) .none kV_cA dc_cA pm_cA an_cA cd_cA ct_cA), sl_cA⟩)
    (c_cA : PySem.W.codeIn K cd_cA "Cell.__iadd__" = true)
    (k_cA : PySem.W.keepIn K (.ref f_cA) = true)
    (at_pA : PySem.W.findIn K (.ref CC) "value" = some (some (.ref pA)))
    (ge_pA : PySem.W.specialIn K (.ref pA) "__get__" = some (some (.builtin "property.__get__")))
    (tk_pA : PySem.W.takesIn K (.ref pA) = some true)
    (rc_pA : PySem.W.recIn K pA "property" = some (.ref f_cV :: restV))
    (l_cV : K.lookup f_cV = some ⟨oc_cV, od_cV, .func (PySem.W.fnOf "value" "Cell.value" (defArgs sVal) (defBody sVal) (defScope sVal) .none kV_cV dc_cV pm_cV an_cV cd_cV ct_cV), sl_cV⟩)
    (c_cV : PySem.W.codeIn K cd_cV "Cell.value" = true)
    (k_cV : PySem.W.keepIn K (.ref f_cV) = true)
    (co_at : PySem.W.findIn K (.ref DC) "MOST_RUNS" = some (some (.int 100 tM)))
    (co_get : PySem.W.specialIn K (.int 100 tM) "__get__" = some none)
    (g_NN : PySem.W.nsIn K mainGlobals "NoName" = some (some (.ref NN)))
    (at_nn : PySem.W.findIn K (.ref NN) "__init__" = some (some (.ref f_nn)))
    (ty_nn : PySem.W.typeIn K (.ref f_nn) = some (.type "function"))
    (l_nn : K.lookup f_nn = some ⟨oc_nn, od_nn, .func (PySem.W.fnOf "__init__" "NoName.__init__" (defArgs sNoName) (defBody sNoName) (defScope sNoName) .none kV_nn dc_nn pm_nn an_nn cd_nn ct_nn), sl_nn⟩)
    (c_nn : PySem.W.codeIn K cd_nn "NoName.__init__" = true)
    (k_nn : PySem.W.keepIn K (.ref f_nn) = true)
    (x_NN : xcB K NN bmV "ValueError.__new__" = true)
    (n_NN : noB K NN "name" = true)
    (g_TE : PySem.W.nsIn K mainGlobals "TrackedError" = some (some (.ref TE')))
    (e_NN : PySem.W.exmOne K (.ref NN) (.ref NN) = some true)
    (e_TE : PySem.W.kitOne K (.ref NN) (.ref TE') = some true)
    (e_VE : PySem.W.kitOne K (.ref NN) (.type "ValueError") = some true)
    (z_b : btB K = true)
    (s_DC : PySem.W.noSeq K DC = true)
    (s_CC : PySem.W.selfFirst K CC = true)
    (i_CC : insB K CC = true) :
    ∃ fd : FuncData, (∀ (s : Shared) (v : Value), BindsTo s fd ⟨[v], []⟩ [("_law_script", v)]) ∧ ∀ base : Heap, K.In base → base.Ns mainGlobals mg → FnOk l.prog w K mg base CX0 10 fa fd ["_law_script"] (spLaw K) := by
  have e := hfa.symm.trans (PySem.W.mg_of X G a_law)
  cases e
  obtain ⟨B, nV, nI, nZ⟩ := bt_of X G z_b
  have F_copied := fun_mk (st := sCopied) l_copied c_copied k_copied
  have A_copied : At K mg "copied" f_copied := ⟨PySem.W.mg_of X G a_copied, k_copied⟩
  have b_copied := F_copied.binds (ps := ["value"]) fun _ _ _ _ _ _ us hl => match us, hl with | [_], _ => rfl
  have F_bag := fun_mk (st := sBag) l_bag c_bag k_bag
  have A_bag : At K mg "_law_bag" f_bag := ⟨PySem.W.mg_of X G a_bag, k_bag⟩
  have b_bag := F_bag.binds (ps := ["_law_script", "_law_at"]) fun _ _ _ _ _ _ us hl => match us, hl with | [_, _], _ => rfl
  have F_take := fun_mk (st := sTake) l_take c_take k_take
  have A_take : At K mg "_law_take" f_take := ⟨PySem.W.mg_of X G a_take, k_take⟩
  have b_take := F_take.binds (ps := ["_law_bag_here", "_law_many"]) fun _ _ _ _ _ _ us hl => match us, hl with | [_, _], _ => rfl
  have F_of := fun_mk (st := sOf) l_of c_of k_of
  have A_of : At K mg "_law_of" f_of := ⟨PySem.W.mg_of X G a_of, k_of⟩
  have b_of := F_of.binds (ps := ["_law_bag_here", "_law_some"]) fun _ _ _ _ _ _ us hl => match us, hl with | [_, _], _ => rfl
  have F_worth := fun_mk (st := sWorth) l_worth c_worth k_worth
  have A_worth : At K mg "_law_worth" f_worth := ⟨PySem.W.mg_of X G a_worth, k_worth⟩
  have b_worth := F_worth.binds (ps := ["_law_bag_here"]) fun _ _ _ _ _ _ us hl => match us, hl with | [_], _ => rfl
  have F_names := fun_mk (st := sNames) l_names c_names k_names
  have A_names : At K mg "_law_names" f_names := ⟨PySem.W.mg_of X G a_names, k_names⟩
  have b_names := F_names.binds (ps := ["_law_bag_here", "_law_many"]) fun _ _ _ _ _ _ us hl => match us, hl with | [_, _], _ => rfl
  have F_is_int := fun_mk (st := sIsInt) l_is_int c_is_int k_is_int
  have A_is_int : At K mg "_law_is_int" f_is_int := ⟨PySem.W.mg_of X G a_is_int, k_is_int⟩
  have b_is_int := F_is_int.binds (ps := ["_law_thing"]) fun _ _ _ _ _ _ us hl => match us, hl with | [_], _ => rfl
  have F_shows := fun_mk (st := sShows) l_shows c_shows k_shows
  have A_shows : At K mg "_law_shows" f_shows := ⟨PySem.W.mg_of X G a_shows, k_shows⟩
  have b_shows := F_shows.binds (ps := ["_law_desk", "_law_cells", "_law_names_here", "_law_dues"]) fun _ _ _ _ _ _ us hl => match us, hl with | [_, _, _, _], _ => rfl
  have F_no_name := fun_mk (st := sNoNm) l_no_name c_no_name k_no_name
  have A_no_name : At K mg "_law_no_name" f_no_name := ⟨PySem.W.mg_of X G a_no_name, k_no_name⟩
  have b_no_name := F_no_name.binds (ps := ["_law_desk", "_law_odd", "_law_putting"]) fun _ _ _ _ _ _ us hl => match us, hl with | [_, _, _], _ => rfl
  have F_put := fun_mk (st := sPutL) l_put c_put k_put
  have A_put : At K mg "_law_put" f_put := ⟨PySem.W.mg_of X G a_put, k_put⟩
  have b_put := F_put.binds (ps := ["_law_bag_here", "_law_desk", "_law_cells", "_law_names_here", "_law_dues"]) fun _ _ _ _ _ _ us hl => match us, hl with | [_, _, _, _, _], _ => rfl
  have F_right := fun_mk (st := sRight) l_right c_right k_right
  have A_right : At K mg "_law_right" f_right := ⟨PySem.W.mg_of X G a_right, k_right⟩
  have b_right := F_right.binds (ps := ["_law_bag_here"]) fun _ _ _ _ _ _ us hl => match us, hl with | [_], _ => rfl
  have F_law := fun_mk (st := sLaw) l_law c_law k_law
  have F_fI := fun_mk (st := sInitF) l_fI c_fI k_fI
  have b_fI := F_fI.binds (ps := ["self", "most_runs"]) fun _ _ _ _ _ _ us hl => match us, hl with | [_, _], _ => rfl
  have M_fI : Meth K FC "__init__" f_fI := ⟨at_fI, fn_fI, k_fI⟩
  have F_fP := fun_mk (st := sPlace) l_fP c_fP k_fP
  have b_fP := F_fP.binds (ps := ["self"]) fun _ _ _ _ _ _ us hl => match us, hl with | [_], _ => rfl
  have M_fP : Meth K FC "check_place" f_fP := ⟨at_fP, fn_fP, k_fP⟩
  have F_fN := fun_mk (st := sNote) l_fN c_fN k_fN
  have b_fN := F_fN.binds (ps := ["self", "name", "worth"]) fun _ _ _ _ _ _ us hl => match us, hl with | [_, _, _], _ => rfl
  have M_fN : Meth K FC "note" f_fN := ⟨at_fN, fn_fN, k_fN⟩
  have F_fT := fun_mk (st := sTakeN) l_fT c_fT k_fT
  have b_fT := F_fT.binds (ps := ["self", "name"]) fun _ _ _ _ _ _ us hl => match us, hl with | [_, _], _ => rfl
  have M_fT : Meth K FC "take_name" f_fT := ⟨at_fT, fn_fT, k_fT⟩
  have F_fU := fun_mk (st := sDue) l_fU c_fU k_fU
  have b_fU := F_fU.binds (ps := ["self"]) fun _ _ _ _ _ _ us hl => match us, hl with | [_], _ => rfl
  have M_fU : Meth K FC "_due" f_fU := ⟨at_fU, fn_fU, k_fU⟩
  have F_fS := fun_mk (st := sSettle) l_fS c_fS k_fS
  have b_fS := F_fS.binds (ps := ["self"]) fun _ _ _ _ _ _ us hl => match us, hl with | [_], _ => rfl
  have M_fS : Meth K FC "settle" f_fS := ⟨at_fS, fn_fS, k_fS⟩
  have F_dI := fun_mk (st := sInitD) l_dI c_dI k_dI
  have b_dI := F_dI.binds (ps := ["self"]) fun _ _ _ _ _ _ us hl => match us, hl with | [_], _ => rfl
  have M_dI : Meth K DC "__init__" f_dI := ⟨at_dI, fn_dI, k_dI⟩
  have F_dC := fun_mk (st := sCellD) l_dC c_dC k_dC
  have b_dC := F_dC.binds (ps := ["self", "name", "value"]) fun _ _ _ _ _ _ us hl => match us, hl with | [_, _, _], _ => rfl
  have M_dC : Meth K DC "cell" f_dC := ⟨at_dC, fn_dC, k_dC⟩
  have F_dG := fun_mk (st := sGet) l_dG c_dG k_dG
  have b_dG := F_dG.binds (ps := ["self", "at"]) fun _ _ _ _ _ _ us hl => match us, hl with | [_, _], _ => rfl
  have M_dG : Meth K DC "__getitem__" f_dG := ⟨at_dG, fn_dG, k_dG⟩
  have F_dS := fun_mk (st := sSet) l_dS c_dS k_dS
  have b_dS := F_dS.binds (ps := ["self", "at", "worth"]) fun _ _ _ _ _ _ us hl => match us, hl with | [_, _, _], _ => rfl
  have M_dS : Meth K DC "__setitem__" f_dS := ⟨at_dS, fn_dS, k_dS⟩
  have F_dH := fun_mk (st := sHas) l_dH c_dH k_dH
  have b_dH := F_dH.binds (ps := ["self", "thing"]) fun _ _ _ _ _ _ us hl => match us, hl with | [_, _], _ => rfl
  have M_dH : Meth K DC "__contains__" f_dH := ⟨at_dH, fn_dH, k_dH⟩
  have F_dL := fun_mk (st := sLenD) l_dL c_dL k_dL
  have b_dL := F_dL.binds (ps := ["self"]) fun _ _ _ _ _ _ us hl => match us, hl with | [_], _ => rfl
  have M_dL : Meth K DC "__len__" f_dL := ⟨at_dL, fn_dL, k_dL⟩
  have F_dT := fun_mk (st := sIterD) l_dT c_dT k_dT
  have b_dT := F_dT.binds (ps := ["self"]) fun _ _ _ _ _ _ us hl => match us, hl with | [_], _ => rfl
  have M_dT : Meth K DC "__iter__" f_dT := ⟨at_dT, fn_dT, k_dT⟩
  have F_cI := fun_mk (st := sInitC) l_cI c_cI k_cI
  have b_cI := F_cI.binds (ps := ["self", "floor", "name", "value"]) fun _ _ _ _ _ _ us hl => match us, hl with | [_, _, _, _], _ => rfl
  have M_cI : Meth K CC "__init__" f_cI := ⟨at_cI, fn_cI, k_cI⟩
  have F_cC := fun_mk (st := sCall) l_cC c_cC k_cC
  have b_cC := F_cC.binds (ps := ["self"]) fun _ _ _ _ _ _ us hl => match us, hl with | [_], _ => rfl
  have M_cC : Meth K CC "__call__" f_cC := ⟨at_cC, fn_cC, k_cC⟩
  have F_cP := fun_mk (st := sPut) l_cP c_cP k_cP
  have b_cP := F_cP.binds (ps := ["self", "value"]) fun _ _ _ _ _ _ us hl => match us, hl with | [_, _], _ => rfl
  have M_cP : Meth K CC "put" f_cP := ⟨at_cP, fn_cP, k_cP⟩
  have F_cA := fun_mk (st := sIadd) l_cA c_cA k_cA
  have b_cA := F_cA.binds (ps := ["self", "other"]) fun _ _ _ _ _ _ us hl => match us, hl with | [_, _], _ => rfl
  have M_cA : Meth K CC "__iadd__" f_cA := ⟨at_cA, fn_cA, k_cA⟩
  have F_cV := fun_mk (st := sVal) l_cV c_cV k_cV
  have b_cV := F_cV.binds (ps := ["self"]) fun _ _ _ _ _ _ us hl => match us, hl with | [_], _ => rfl
  have F_nn := fun_mk (st := sNoName) l_nn c_nn k_nn
  obtain ⟨clF, noF⟩ := cls_of z_FC
  obtain ⟨clD, noD⟩ := cls_of z_DC
  obtain ⟨clC, noC⟩ := cls_of z_CC
  have TF : FlT K FC := ⟨clF, noF⟩
  have TD : DkT K DC := ⟨clD, noD _ (by simp), _, co_at, ⟨_, rfl⟩, co_get, by decide +kernel⟩
  have TC : CeT K CC := ⟨clC, noC⟩
  refine ⟨PySem.W.fnOf "law" "law" (defArgs sLaw) (defBody sLaw) (defScope sLaw) .none kV_law dc_law pm_law an_law cd_law ct_law, fun s v => .of_eq rfl, fun base _ _ => ?_⟩
  have xN : XC K NN := xc_of PySem.F.excBase_ValueError PySem.F.store_ValueError.passes x_NN
  have cN : Cl l.prog w K mg base "NoName" "name" NN := clNoName F_nn F_copied B A_copied (PySem.W.mg_of X G g_NN) xN (no_of n_NN) at_nn ty_nn
  have oIF : FnOk l.prog w K mg base CX0 1 _ _ _ _ := ok_initF (FC := FC) F_fI TF
  have mP : MO l.prog w K mg base FC "check_place" 1 ["self"] (spPlace FC) _ _ := ⟨M_fP, b_fP, ok_place F_fP TF⟩
  have mN : MO l.prog w K mg base FC "note" 1 ["self", "name", "worth"] (spNote FC) _ _ := ⟨M_fN, b_fN, ok_note F_fN TF⟩
  have mT : MO l.prog w K mg base FC "take_name" 1 ["self", "name"] (spTakeN FC) _ _ := ⟨M_fT, b_fT, ok_takeN F_fT TF⟩
  have mU : MO l.prog w K mg base FC "_due" 1 ["self"] (spDue FC) _ _ := ⟨M_fU, b_fU, ok_due F_fU TF⟩
  have mS : MO l.prog w K mg base FC "settle" 2 ["self"] (spSettle FC) _ _ := ⟨M_fS, b_fS, ok_settle F_fS TF mU⟩
  have oIC : FnOk l.prog w K mg base CX0 1 _ _ _ _ := ok_initC (CC := CC) F_cI TC
  have mPut : MO l.prog w K mg base CC "put" 3 ["self", "value"] (spPut FC DC CC) _ _ := ⟨M_cP, b_cP, ok_put F_cP TC TF mP mS⟩
  have oID : FnOk l.prog w K mg base CX0 3 _ _ _ _ := ok_initD (FC := FC) (DC := DC) (CC := CC) F_dI TD ⟨mk_FC, at_fI, fn_fI, kc_FC⟩ (PySem.W.mg_of X G g_FC) oIF b_fI
  have mCell : MO l.prog w K mg base DC "cell" 3 ["self", "name", "value"] (spCellD FC DC CC) _ _ := ⟨M_dC, b_dC, ok_cellD F_dC TD TF mP mT ⟨mk_CC, at_cI, fn_cI, kc_CC⟩ (PySem.W.mg_of X G g_CC) oIC b_cI⟩
  have pV : PO l.prog w K mg base CC pA _ _ := ⟨⟨at_pA, ge_pA, tk_pA, restV, rc_pA⟩, b_cV, ok_val F_cV TC⟩
  have V0 : LawE l.prog w K mg base FC DC CC NN _ _ _ _ _ _ pA _ _ _ _ _ _ _ _ := {
    get := ⟨⟨at_dG, fn_dG⟩, fi_dG, b_dG, ok_get F_dG B B.str TD TF TC pV cN⟩
    set := ⟨⟨at_dS, fn_dS⟩, fi_dS, b_dS, ok_set F_dS B B.str TD TF TC mPut mP cN⟩
    has := ⟨⟨at_dH, fn_dH⟩, fi_dH, b_dH, ok_has F_dH B B.str TD TF⟩
    call := ⟨⟨at_cC, fn_cC⟩, fi_cC, b_cC, ok_call F_cC TC TF mN⟩
    iadd := ⟨⟨at_cA, fn_cA⟩, fi_cA, b_cA, ok_iadd F_cA TC mPut⟩
    put := mPut
    putK := fun_kb F_cP (g := fun us ws => us ++ ws) (fun a b => a.append b) (fun _ _ _ _ _ _ us ws h1 h2 => match us, ws, h1, h2 with | [_], [_], _, _ => rfl)
    val := pV
    seq := s_DC
    slf := s_CC
    TC := TC
    ic := ins_of clC i_CC
    gC := PySem.W.mg_of X G g_CC }
  have nT : NnT K mg NN TE' := ⟨xN, no_of n_NN, PySem.W.mg_of X G g_NN, PySem.W.mg_of X G g_TE, nV, e_NN, e_TE, e_VE⟩
  have dT : LD l.prog w K mg base "_law_take" 1 _ spTake _ _ := ⟨A_take, b_take, ok_take F_take B⟩
  have dO : LD l.prog w K mg base "_law_of" 2 _ (spOf K) _ _ := ⟨A_of, b_of, ok_of F_of B A_take b_take dT.o⟩
  have dW : LD l.prog w K mg base "_law_worth" 2 _ spWorth _ _ := ⟨A_worth, b_worth, ok_worth F_worth A_take b_take dT.o⟩
  have dN : LD l.prog w K mg base "_law_names" 3 _ spNames _ _ := ⟨A_names, b_names, ok_names F_names B A_take b_take dT.o A_of b_of dO.o⟩
  have dI : LD l.prog w K mg base "_law_is_int" 1 _ spIsInt _ _ := ⟨A_is_int, b_is_int, ok_isInt F_is_int B⟩
  have dS : LD l.prog w K mg base "_law_shows" 8 _ (spShows FC DC CC) _ _ := ⟨A_shows, b_shows, ok_shows F_shows B nZ V0 A_is_int b_is_int dI.o⟩
  have dM : LD l.prog w K mg base "_law_no_name" 8 _ (spNoNm FC DC CC) _ _ := ⟨A_no_name, b_no_name, ok_noNm F_no_name B V0 nT⟩
  have dP : LD l.prog w K mg base "_law_put" 8 _ (spPutL FC DC CC) _ _ := ⟨A_put, b_put, ok_putL F_put B V0 A_take b_take dT.o A_worth b_worth dW.o⟩
  have dR : LD l.prog w K mg base "_law_right" 9 _ spRight _ _ := ⟨A_right, b_right, ok_right F_right B V0 TD ⟨mk_DC, at_dI, fn_dI, kc_DC⟩ (PySem.W.mg_of X G g_DC) oID b_dI mCell ⟨⟨at_dL, fn_dL⟩, fi_dL, b_dL, ok_lenD F_dL B TD TF⟩ ⟨⟨at_dT, fn_dT⟩, fi_dT, b_dT, ok_iterD F_dT nI TD TF⟩ dT dO dW dN dS dP dM⟩
  exact ok_law F_law B ⟨A_bag, b_bag, ok_bag F_bag B⟩ dR
theorem walk {l : PySem.W.OpenLaw} {q : Program} {loose : List Str} {XP : (Str → Option Value) → Heap → Prop} {YP : World → Heap → Prop} {d : DefRec} {K : Params → PySem.W.Frag} (hn : l.most = some 63) (hdf : d.params.defaults = []) (hY : ∀ (w : World) (h : Heap), YP w h → (K w.params).In h)
    (F : ∀ (w : World) (mg : Str → Option Value) (fa : Addr) (h : Heap), (K w.params).In h → h.Ns mainGlobals mg → mg d.name = some (.ref fa) → ∃ fd : FuncData, (∀ (s : Shared) (u : Value), BindsTo s fd ⟨[u], []⟩ [("_law_script", u)]) ∧ ∀ base : Heap, (K w.params).In base → base.Ns mainGlobals mg → FnOk l.prog w (K w.params) mg base CX0 10 fa fd ["_law_script"] (spLaw (K w.params))) :
    PySem.W.WalkO q loose XP YP l.row.toRowW d [] (fun f vs => PySem.call f vs) :=
  L2.walk_of (n := 63) (k := 10) (x := "_law_script") (CX := fun _ => CX0) (sp := fun w => spLaw (K w.params)) hn (by decide) hdf ⟨rfl, by decide, by decide⟩ hY F (fun _ _ a ns hl _ hS => ⟨a, ns, rfl, hS, hl, fun _ => rfl⟩) fun _ _ _ _ _ z => z
end My

set_option Elab.async false
set_option linter.all false
set_option maxRecDepth 100000
set_option maxHeartbeats 0
open PySem PySem.W PyProof.Rows in
set_option maxRecDepth 100000 in
set_option maxHeartbeats 0 in
theorem PySem.Challenge.cw_trackedreads_k67_cells_holds : PySem.Challenge.rw_trackedreads_k67_cells.Holds := by
  w_on; o_law; k_head; (case hw => w_witness2)
  k_fill
  refine My.walk (l := PySem.Challenge.rw_trackedreads_k67_cells) rfl rfl (fun w h Y => PySem.W.kIn_of Y) ?F
  case F =>
    intro w mg fa h KX G hmg
    refine' My.all_mk KX G hmg ?a_copied ?l_copied ?c_copied ?k_copied ?a_bag ?l_bag ?c_bag ?k_bag ?a_take ?l_take ?c_take ?k_take ?a_of ?l_of ?c_of ?k_of ?a_worth ?l_worth ?c_worth ?k_worth ?a_names ?l_names ?c_names ?k_names ?a_is_int ?l_is_int ?c_is_int ?k_is_int ?a_shows ?l_shows ?c_shows ?k_shows ?a_no_name ?l_no_name ?c_no_name ?k_no_name ?a_put ?l_put ?c_put ?k_put ?a_right ?l_right ?c_right ?k_right ?a_law ?l_law ?c_law ?k_law ?g_FC ?kc_FC ?mk_FC ?z_FC ?g_DC ?kc_DC ?mk_DC ?z_DC ?g_CC ?kc_CC ?mk_CC ?z_CC ?at_fI ?fn_fI ?fi_fI ?l_fI ?c_fI ?k_fI ?at_fP ?fn_fP ?fi_fP ?l_fP ?c_fP ?k_fP ?at_fN ?fn_fN ?fi_fN ?l_fN ?c_fN ?k_fN ?at_fT ?fn_fT ?fi_fT ?l_fT ?c_fT ?k_fT ?at_fU ?fn_fU ?fi_fU ?l_fU ?c_fU ?k_fU ?at_fS ?fn_fS ?fi_fS ?l_fS ?c_fS ?k_fS ?at_dI ?fn_dI ?fi_dI ?l_dI ?c_dI ?k_dI ?at_dC ?fn_dC ?fi_dC ?l_dC ?c_dC ?k_dC ?at_dG ?fn_dG ?fi_dG ?l_dG ?c_dG ?k_dG ?at_dS ?fn_dS ?fi_dS ?l_dS ?c_dS ?k_dS ?at_dH ?fn_dH ?fi_dH ?l_dH ?c_dH ?k_dH ?at_dL ?fn_dL ?fi_dL ?l_dL ?c_dL ?k_dL ?at_dT ?fn_dT ?fi_dT ?l_dT ?c_dT ?k_dT ?at_cI ?fn_cI ?fi_cI ?l_cI ?c_cI ?k_cI ?at_cC ?fn_cC ?fi_cC ?l_cC ?c_cC ?k_cC ?at_cP ?fn_cP ?fi_cP ?l_cP ?c_cP ?k_cP ?at_cA ?fn_cA ?fi_cA ?l_cA ?c_cA ?k_cA ?at_pA ?ge_pA ?tk_pA ?rc_pA ?l_cV ?c_cV ?k_cV ?co_at ?co_get ?g_NN ?at_nn ?ty_nn ?l_nn ?c_nn ?k_nn ?x_NN ?n_NN ?g_TE ?e_NN ?e_TE ?e_VE ?z_b ?s_DC ?s_CC ?i_CC
    (case a_copied => k_is)
    (case l_copied => k_is)
    (case c_copied => k_is)
    (case k_copied => k_is)
    (case a_bag => k_is)
    (case l_bag => k_is)
    (case c_bag => k_is)
    (case k_bag => k_is)
    (case a_take => k_is)
    (case l_take => k_is)
    (case c_take => k_is)
    (case k_take => k_is)
    (case a_of => k_is)
    (case l_of => k_is)
    (case c_of => k_is)
    (case k_of => k_is)
    (case a_worth => k_is)
    (case l_worth => k_is)
    (case c_worth => k_is)
    (case k_worth => k_is)
    (case a_names => k_is)
    (case l_names => k_is)
    (case c_names => k_is)
    (case k_names => k_is)
    (case a_is_int => k_is)
    (case l_is_int => k_is)
    (case c_is_int => k_is)
    (case k_is_int => k_is)
    (case a_shows => k_is)
    (case l_shows => k_is)
    (case c_shows => k_is)
    (case k_shows => k_is)
    (case a_no_name => k_is)
    (case l_no_name => k_is)
    (case c_no_name => k_is)
    (case k_no_name => k_is)
    (case a_put => k_is)
    (case l_put => k_is)
    (case c_put => k_is)
    (case k_put => k_is)
    (case a_right => k_is)
    (case l_right => k_is)
    (case c_right => k_is)
    (case k_right => k_is)
    (case a_law => k_is)
    (case l_law => k_is)
    (case c_law => k_is)
    (case k_law => k_is)
    (case g_FC => k_is)
    (case kc_FC => k_is)
    (case mk_FC => k_is)
    (case z_FC => kernel_rfl)
    (case g_DC => k_is)
    (case kc_DC => k_is)
    (case mk_DC => k_is)
    (case z_DC => kernel_rfl)
    (case g_CC => k_is)
    (case kc_CC => k_is)
    (case mk_CC => k_is)
    (case z_CC => kernel_rfl)
    (case at_fI => k_is)
    (case fn_fI => k_is)
    (case fi_fI => k_is)
    (case l_fI => k_is)
    (case c_fI => k_is)
    (case k_fI => k_is)
    (case at_fP => k_is)
    (case fn_fP => k_is)
    (case fi_fP => k_is)
    (case l_fP => k_is)
    (case c_fP => k_is)
    (case k_fP => k_is)
    (case at_fN => k_is)
    (case fn_fN => k_is)
    (case fi_fN => k_is)
    (case l_fN => k_is)
    (case c_fN => k_is)
    (case k_fN => k_is)
    (case at_fT => k_is)
    (case fn_fT => k_is)
    (case fi_fT => k_is)
    (case l_fT => k_is)
    (case c_fT => k_is)
    (case k_fT => k_is)
    (case at_fU => k_is)
    (case fn_fU => k_is)
    (case fi_fU => k_is)
    (case l_fU => k_is)
    (case c_fU => k_is)
    (case k_fU => k_is)
    (case at_fS => k_is)
    (case fn_fS => k_is)
    (case fi_fS => k_is)
    (case l_fS => k_is)
    (case c_fS => k_is)
    (case k_fS => k_is)
    (case at_dI => k_is)
    (case fn_dI => k_is)
    (case fi_dI => k_is)
    (case l_dI => k_is)
    (case c_dI => k_is)
    (case k_dI => k_is)
    (case at_dC => k_is)
    (case fn_dC => k_is)
    (case fi_dC => k_is)
    (case l_dC => k_is)
    (case c_dC => k_is)
    (case k_dC => k_is)
    (case at_dG => k_is)
    (case fn_dG => k_is)
    (case fi_dG => k_is)
    (case l_dG => k_is)
    (case c_dG => k_is)
    (case k_dG => k_is)
    (case at_dS => k_is)
    (case fn_dS => k_is)
    (case fi_dS => k_is)
    (case l_dS => k_is)
    (case c_dS => k_is)
    (case k_dS => k_is)
    (case at_dH => k_is)
    (case fn_dH => k_is)
    (case fi_dH => k_is)
    (case l_dH => k_is)
    (case c_dH => k_is)
    (case k_dH => k_is)
    (case at_dL => k_is)
    (case fn_dL => k_is)
    (case fi_dL => k_is)
    (case l_dL => k_is)
    (case c_dL => k_is)
    (case k_dL => k_is)
    (case at_dT => k_is)
    (case fn_dT => k_is)
    (case fi_dT => k_is)
    (case l_dT => k_is)
    (case c_dT => k_is)
    (case k_dT => k_is)
    (case at_cI => k_is)
    (case fn_cI => k_is)
    (case fi_cI => k_is)
    (case l_cI => k_is)
    (case c_cI => k_is)
    (case k_cI => k_is)
    (case at_cC => k_is)
    (case fn_cC => k_is)
    (case fi_cC => k_is)
    (case l_cC => k_is)
    (case c_cC => k_is)
    (case k_cC => k_is)
    (case at_cP => k_is)
    (case fn_cP => k_is)
    (case fi_cP => k_is)
    (case l_cP => k_is)
    (case c_cP => k_is)
    (case k_cP => k_is)
    (case at_cA => k_is)
    (case fn_cA => k_is)
    (case fi_cA => k_is)
    (case l_cA => k_is)
    (case c_cA => k_is)
    (case k_cA => k_is)
    (case at_pA => k_is)
    (case ge_pA => k_is)
    (case tk_pA => k_is)
    (case rc_pA => k_is)
    (case l_cV => k_is)
    (case c_cV => k_is)
    (case k_cV => k_is)
    (case co_at => k_is)
    (case co_get => k_is)
    (case g_NN => k_is)
    (case at_nn => k_is)
    (case ty_nn => k_is)
    (case l_nn => k_is)
    (case c_nn => k_is)
    (case k_nn => k_is)
    (case x_NN => kernel_rfl)
    (case n_NN => kernel_rfl)
    (case g_TE => k_is)
    (case e_NN => kernel_rfl)
    (case e_TE => kernel_rfl)
    (case e_VE => kernel_rfl)
    (case z_b => kernel_rfl)
    (case s_DC => k_is)
    (case s_CC => k_is)
    (case i_CC => kernel_rfl)
