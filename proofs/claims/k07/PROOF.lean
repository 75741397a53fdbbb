import PyProof.Rows.All
import Wide.All
import OpenK.AllK
import Wide.FinOn
import HandS.ForMost
import HandS.OwnEq
import HandS.Property
import HandS.Defaults
import HandS.IsInst
import HandS.Codes
import HandS.Wide
import HandS.Flow
import HandS.SetFor
import HandS.Style
import PyProof.InstNe
import HandS.FStr
import HandS.Star
import HandS.Deep
import HandS.Zip
import HandS.Walk
import HandS.ClsMeth
import KE.GoesMore
import KE.GoesEnum
import HandS.Iter
import KE.KRevSl
import HandS.Records
import HandS.WideBits
import HandS.TupAny
import HandS.Rev
import HandS.Conv
import HandS.TupSets
import HandS.DictTup
import KE.KDictKeyed
import KE.KDictWalk
import KE.KDictDisplayH
import KE.KDictList
import HandS.NoneIn
import HandS.TupMul
import PySem.Challenge.RW_underwords_k07_whole_products_and_letter
set_option Elab.async false
set_option maxRecDepth 100000
set_option maxHeartbeats 8000000
namespace Ow
open PySem PySem.Spec PyProof.Rows
open PySem.W (findIn isFn InstAt looks_findIn special_fn ifBound_K truthy_K CmpBack BoolBack)
section
variable {prog : Program} {w : World} {A : Around} {E : Value → Shared → Prop} {s : Shared} {K : PySem.W.Frag} {x y C f : Addr} {ox : Obj} {od : Option Obj}
/-- object's own unequal, over the text's equal -/
theorem objNe (X : K.In s.heap) (I : InstAt s.heap x ox C od) (hs : findIn K (.ref C) "__eq__" = some (some (.ref f))) (hf : isFn K (.ref f) = true) (hu : A.units < cLine) {Q : Fin → Shared → Prop}
    (hc : wpAny (model prog w) A (call (.ref f) [.ref x, .ref y]) (fun v s' => ∃ b, v = .bool b ∧ Q (.done (.ret (.bool (!b)))) s') E s) :
    wpAny (model prog w) A (Builtin.«object.__ne__» ⟨[.ref x, .ref y], []⟩) Q E s := by
  obtain ⟨hp, g, d, tk, os⟩ := s
  unfold Builtin.«object.__ne__»
  repeat (first
    | with_reducible refine wpAny_cRoomFor hu ?_
    | (refine wpAny_bind (m := callSpecialIfBound? (.ref x) (Str.ofString "__eq__") [.ref y])
        (ifBound_K X I hs hf (wpAny_mono hc (fun r s' hr => by
          obtain ⟨b, rfl, hq⟩ := hr
          repeat (first | exact hq | exact wpAny_pure hq | exact wpAny_truthy_bool hq | (refine wpAny_bind (m := truthy (.bool _)) (wpAny_truthy_bool ?_)) | wp_step)) fun _ _ e => e)))
    | wp_step)
theorem tryNe (X : K.In s.heap) (I : InstAt s.heap x ox C od) (hn : findIn K (.ref C) "__ne__" = some (some (.builtin "object.__ne__"))) (hs : findIn K (.ref C) "__eq__" = some (some (.ref f))) (hf : isFn K (.ref f) = true)
    (hb : PySem.W.mroIn K C (.type "object") = some true) (hu : A.units + 1 < cLine) {Q : Option Value → Shared → Prop}
    (hc : wpAny (model prog w) A.in1 (call (.ref f) [.ref x, .ref y]) (fun v s' => ∃ b, v = .bool b ∧ Q (some (.bool (!b))) s') E s) :
    wpAny (model prog w) A (tryCompare (.ref x) "__ne__" (.ref y)) Q E s := by
  simp only [tryCompare]
  have hcall : wpAny (model prog w) A (call (.builtin "object.__ne__") (.ref x :: [.ref y])) (fun v s' => ∃ b, v = .bool b ∧ Q (some (.bool b)) s') E s := by
    refine wpAny_call (codeAny_call_builtin PySem.F.cmp_object.ne.plain PySem.F.cmpEntry_ne ?_)
    refine PySem.W.check_slot PySem.F.cmpKind_ne PySem.F.cmpSplit_ne ?_ (PySem.F.cmpArgs_ne _ _) ?_
    · exact I.type.andThen (PySem.W.looks_mroIn X hb)
    · refine objNe (A := A.in1) X I hs hf hu (wpAny_mono hc (fun v s' hv => ?_) fun _ _ e => e)
      obtain ⟨b, rfl, hq⟩ := hv
      exact ⟨b, rfl, ⟨_, rfl, hq⟩⟩
  refine wpAny_bind ?_
  simp only [callSpecialIfBound?, bindSpecialIfBound?]
  refine wpAny_holding (wpAny_bind (wpAny_bind (wpAny_bind (I.type.here ((looks_findIn X hn).here ?_)))))
  simp only [PySem.F.cmp_object.ne.bind]
  refine wpAny_bind (wpAny_askSetting (wpAny_ite ?_))
  have fin : wpAny (model prog w) A (call (.builtin "object.__ne__") ([.ref x] ++ [.ref y]) >>= fun v => pure (some v)) (fun r s' => ∃ b, r = some (.bool b) ∧ Q (some (.bool b)) s') E s :=
    wpAny_bind (wpAny_mono hcall (fun v s' ⟨b, e, q⟩ => wpAny_pure ⟨b, by rw [e], q⟩) fun _ _ h' => h')
  have fin2 : wpAny (model prog w) A (call (.builtin "object.__ne__") ([.ref x] ++ [.ref y]) >>= fun v => pure (some v)) (fun a s' => wpAny (model prog w) A (match a with | some Value.notImplemented => pure none | none => pure none | some r => pure (some r)) Q E s') E s :=
    wpAny_mono fin (fun r s' ⟨b, e, q⟩ => by rw [e]; exact wpAny_pure q) fun _ _ h' => h'
  split
  · exact wpAny_bind (wpAny_pure (wpAny_pure fin2))
  · exact wpAny_tryCatch (wpAny_bind (wpAny_pure (wpAny_pure fin2)))
theorem neq_own (X : K.In s.heap) (I : InstAt s.heap x ox C od) {oy : Obj} {ody : Option Obj} (J : InstAt s.heap y oy C ody) (hn : findIn K (.ref C) "__ne__" = some (some (.builtin "object.__ne__"))) (hs : findIn K (.ref C) "__eq__" = some (some (.ref f))) (hf : isFn K (.ref f) = true)
    (hb : PySem.W.mroIn K C (.type "object") = some true) (hu : A.units + 1 < cLine) {Q : Value → Shared → Prop}
    (hc : wpAny (model prog w) A.in1 (call (.ref f) [.ref x, .ref y]) (fun v s' => ∃ b, v = .bool b ∧ Q (.bool (!b)) s') E s) :
    wpAny (model prog w) A (compareOp .NotEq (.ref x) (.ref y)) Q E s := by
  unfold compareOp richCompare
  simp only [oneThing_ref]
  refine wpAny_holding ?_
  refine wpAny_bind (wpAny_cRoomFor (Nat.lt_of_succ_lt hu) ?_)
  rw [cmpInfo_NotEq]
  dsimp only
  refine wpAny_bind (I.type.here (wpAny_bind (J.type.here ?_)))
  rw [show (Value.ref C != Value.ref C) = false from by simp]
  simp only [Bool.false_eq_true, if_false]
  refine wpAny_bind (wpAny_pure ?_)
  simp only [Bool.false_eq_true, if_false]
  refine wpAny_bind (tryNe X I hn hs hf hb hu (wpAny_mono hc (fun v s' hv => ?_) fun _ _ e => e))
  obtain ⟨b, rfl, hq⟩ := hv
  exact ⟨b, rfl, wpAny_pure hq⟩
/-- bool(x) by an own __bool__ -/
theorem bool_own (X : K.In s.heap) (I : InstAt s.heap x ox C od) (hs : findIn K (.ref C) "__bool__" = some (some (.ref f))) (hf : isFn K (.ref f) = true) {Q : Value → Shared → Prop}
    (h : wpAny (model prog w) A.in1.in1 (call (.ref f) [.ref x]) (fun v s' => ∃ b, v = .bool b ∧ Q (.bool b) s') E s) : wpAny (model prog w) A (call (.type "bool") [.ref x]) Q E s := by
  refine callType_codes (T := "bool") (Bi := Builtin.«object.__init__») (Q₁ := fun r s₁ => ∃ b, r = Value.bool b ∧ Q r s₁) PySem.F.called_bool (PySem.F.typeCall_bool_1 _) PySem.F.entry_object_init ?_ ?_
  · refine codeAny_of_tree ?_
    show wpAny _ A.in1.in1 (do checkBuiltinCall "bool.__new__" ⟨[.type "bool", .ref x], []⟩; again (.builtin "bool.__new__" ⟨[.type "bool", .ref x], []⟩)) _ _ s
    refine wpAny_bind (wpAny_of_eq (PySem.F.newCall_bool_1 _) (wpAny_pure ⟨plainId_quiet (by decide +kernel) _, codeAny_builtin PySem.F.entry_bool_new ?_⟩))
    rw [Around.under_plainId (by decide +kernel) _]
    unfold Builtin.«bool.__new__»
    refine wpAny_bind (wpAny_of_eq (a := true) (by kernel_rfl) ?_)
    refine PySem.W.KFB.if_not rfl ?_
    refine wpAny_bind (wpAny_of_eq (a := true) PySem.F.conv_sub_bool ?_)
    refine PySem.W.KFB.if_not rfl ?_
    refine wpAny_bind (wpAny_of_eq (a := [.ref x]) rfl ?_)
    refine wpAny_bind ?_
    unfold truthy
    refine wpAny_bind (m := callSpecial? (.ref x) (Str.ofString "__bool__")) (special_fn X I hs (beq_iff_eq.mp hf) (wpAny_mono h (fun r s' hr => ?_) fun _ _ y => y))
    obtain ⟨b, rfl, hq⟩ := hr
    exact wpAny_pure (wpAny_pure ⟨b, rfl, hq⟩)
  · rintro obj s₁ ⟨b, rfl, hq⟩
    exact ⟨PySem.typeIs_bool _ _, PySem.F.args_object_init_2 _ _, object_init_meets PySem.F.called_bool.init.lookup PySem.F.called_bool.made (by decide) prog w A.in1 _ s₁ ⟨PySem.typeIs_bool _ _, rfl, hq⟩⟩
end
end Ow

namespace Ow
open PySem PySem.Spec PyProof.Rows L2
/-- the class at C as these rules want it -/
structure OCls (K : PySem.W.Frag) (C : Addr) : Prop where
  first : PySem.W.selfFirst K C = true
  ob : PySem.W.mroIn K C (.type "object") = some true
  ne : PySem.W.findIn K (.ref C) "__ne__" = some (some (.builtin "object.__ne__"))
  nf : PySem.W.notFirst K C (.ref C) = true
/-- a method at f under the name m -/
structure OM (K : PySem.W.Frag) (C : Addr) (m : Str) (f : Addr) : Prop where
  at_ : PySem.W.findIn K (.ref C) m = some (some (.ref f))
  fn : PySem.W.isFn K (.ref f) = true
section
variable {X : Cx} {CX : CXT} {C f : Addr} {n : Nat} {fd : FuncData} {ps : List Str} {sp : Sp} {E : XK}
theorem cback {P : Value → Shared → Prop} {z : V} {v : Value} {s' : Shared} (r : RelV z v) (h : P v s') : PySem.W.CmpBack P v s' := by
  cases z <;> first | (obtain ⟨t, e⟩ := r; subst e; exact h) | (have e := r; simp only [L2.RelV] at e; subst e; exact h)
/-- the called def, some level below -/
theorem run_in {pins : List (Addr × Obj)} {σ : L2.St} {H : Hp} {s : Shared} {A : Around} {Q : VK} {us : List Value} {ws : List V} (F : FnOk X.prog X.w X.K X.mg X.base CX n f fd ps sp) (hr : Room n A) (e0 : Env0 X.prog X.w X.K X.mg X.base A X.stack s H)
    (hb : Binds X.K fd ps []) (hx : Passes CX X E) (I : Inv X pins σ H s) (r : Vals ws us) (h : sp ws H Q E) : wpAny (model X.prog X.w) A (call (.ref f) us) (EP X pins σ Q) X.xe s := by
  have hl : us.length = ps.length := by rw [← r.length]; exact F.len _ _ _ _ h
  have hb2 := hb s us I.kIn (by simpa using hl)
  simp only [List.append_nil] at hb2
  refine wpAny_call (codeAny_mono (F.run A X.stack s H ⟨us, []⟩ us ws Q E hr e0 hb2 r h) fun r s' hq => ?_)
  cases r with
  | error e => exact hx pins σ H s e s' I hq
  | ok fl =>
    cases fl with
    | ret u => exact I.after hq
    | next => exact False.elim hq
    | brk => exact False.elim hq
    | cont => exact False.elim hq
/-- x op y of two instances of one class -/
def rBin (C : Addr) (sp : Sp) (E : XK) : R2 := fun x y H Q => ∃ a b dx fs dy gs, x = .ref a ∧ y = .ref b ∧ H a = some (.ins C dx fs) ∧ H b = some (.ins C dy gs) ∧ sp [.ref a, .ref b] H Q E
theorem op_bin {op : Operator} (oc : OCls X.K C) (om : OM X.K C (PySem.dunder op.info.2) f) (F : FnOk X.prog X.w X.K X.mg X.base CX n f fd ps sp) (hr : Room n X.A) (hb : Binds X.K fd ps []) (hx : Passes CX X E) :
    OpR X (binaryOp op) (rBin C sp E) := by
  intro pins s σ H x y v u Q I rx ry h
  obtain ⟨a, b, dx, fs, dy, gs, rfl, rfl, ha, hb', q⟩ := h
  cases rx
  cases ry
  obtain ⟨mA, J, _⟩ := ins_get I.hok ha
  obtain ⟨mB, J', _⟩ := ins_get I.hok hb'
  obtain ⟨od, J, _⟩ := J.look
  obtain ⟨od', J', _⟩ := J'.look
  obtain ⟨m, hF⟩ := I.fr
  refine PySem.W.binop_K hF I.ok.mod.kin J J'.type oc.first om.at_ om.fn ?_
  refine wpAny_mono (run_in (us := [.ref a, .ref b]) (ws := [.ref a, .ref b]) F hr I.env0 hb hx I (.cons rfl (.cons rfl .nil)) q) (fun w s' ⟨z, H', I', rz, qz⟩ => cback rz ⟨z, H', I', rz, qz⟩) fun _ _ e => e
/-- x == y -/
theorem op_eqO (oc : OCls X.K C) (om : OM X.K C "__eq__" f) (F : FnOk X.prog X.w X.K X.mg X.base CX n f fd ps sp) (hr : Room n X.A) (hb : Binds X.K fd ps []) (hx : Passes CX X E) : OpR X (compareOp .Eq) (rBin C sp E) := by
  intro pins s σ H x y v u Q I rx ry h
  obtain ⟨a, b, dx, fs, dy, gs, rfl, rfl, ha, hb', q⟩ := h
  cases rx
  cases ry
  obtain ⟨mA, J, _⟩ := ins_get I.hok ha
  obtain ⟨mB, J', _⟩ := ins_get I.hok hb'
  obtain ⟨od, J, _⟩ := J.look
  obtain ⟨od', J', _⟩ := J'.look
  obtain ⟨m, hF⟩ := I.fr
  show wpAny _ _ (richCompare .Eq _ _) _ _ _
  refine PySem.W.cmp_K (op := .Eq) (tb := .ref C) hr.units0 hF I.ok.mod.kin J J'.type oc.nf om.at_ om.fn ?_
  refine wpAny_mono (run_in (us := [.ref a, .ref b]) (ws := [.ref a, .ref b]) F hr I.env0 hb hx I (.cons rfl (.cons rfl .nil)) q) (fun w s' ⟨z, H', I', rz, qz⟩ => cback rz ⟨z, H', I', rz, qz⟩) fun _ _ e => e
/-- x != y, by an own equal that answers a bool -/
def rBinN (C : Addr) (sp : Sp) (E : XK) : R2 := fun x y H Q => ∃ a b dx fs dy gs, x = .ref a ∧ y = .ref b ∧ H a = some (.ins C dx fs) ∧ H b = some (.ins C dy gs) ∧ sp [.ref a, .ref b] H (fun z H' => ∃ k, z = .bl k ∧ Q (.bl (!k)) H') E
theorem op_neO (oc : OCls X.K C) (om : OM X.K C "__eq__" f) (F : FnOk X.prog X.w X.K X.mg X.base CX n f fd ps sp) (hr : Room (n + 1) X.A) (hb : Binds X.K fd ps []) (hx : Passes CX X E) : OpR X (compareOp .NotEq) (rBinN C sp E) := by
  intro pins s σ H x y v u Q I rx ry h
  obtain ⟨a, b, dx, fs, dy, gs, rfl, rfl, ha, hb', q⟩ := h
  cases rx
  cases ry
  obtain ⟨mA, J, _⟩ := ins_get I.hok ha
  obtain ⟨mB, J', _⟩ := ins_get I.hok hb'
  obtain ⟨od, J, _⟩ := J.look
  obtain ⟨od', J', _⟩ := J'.look
  refine neq_own I.kIn J J' oc.ne om.at_ om.fn oc.ob (hu_of hr) ?_
  refine wpAny_mono (run_in (us := [.ref a, .ref b]) (ws := [.ref a, .ref b]) F hr.in1 I.env0.in1 hb hx I (.cons rfl (.cons rfl .nil)) q) (fun w s' ⟨z, H', I', rz, k, ez, qz⟩ => ?_) fun _ _ e => e
  subst ez
  exact ⟨k, rz, .bl (!k), H', I', rfl, qz⟩
/-- -x -/
def rNegO (C : Addr) (sp : Sp) (E : XK) : V → Hp → VK → Prop := fun x H Q => ∃ a dx fs, x = .ref a ∧ H a = some (.ins C dx fs) ∧ sp [.ref a] H Q E
theorem un_negO (om : OM X.K C "__neg__" f) (F : FnOk X.prog X.w X.K X.mg X.base CX n f fd ps sp) (hr : Room n X.A) (hb : Binds X.K fd ps []) (hx : Passes CX X E) : UnR X (unaryOp .USub) (rNegO C sp E) := by
  intro pins s σ H x v Q I rx h
  obtain ⟨a, dx, fs, rfl, ha, q⟩ := h
  cases rx
  obtain ⟨mA, J, _⟩ := ins_get I.hok ha
  obtain ⟨od, J, _⟩ := J.look
  obtain ⟨m, hF⟩ := I.fr
  refine PySem.W.ksp_neg hF I.ok.mod.kin J om.at_ om.fn ?_
  exact run_in (us := [.ref a]) (ws := [.ref a]) F hr I.env0 hb hx I (.cons rfl .nil) q
/-- bool(x) by an own __bool__ -/
def rBoolO (C : Addr) (sp : Sp) (E : XK) : List V → Hp → VK → Prop := fun xs H Q => ∃ a dx fs, xs = [.ref a] ∧ H a = some (.ins C dx fs) ∧ sp [.ref a] H (fun z H' => ∃ k, z = .bl k ∧ Q (.bl k) H') E
theorem call_boolO (om : OM X.K C "__bool__" f) (F : FnOk X.prog X.w X.K X.mg X.base CX n f fd ps sp) (hr : Room (n + 2) X.A) (hb : Binds X.K fd ps []) (hx : Passes CX X E) : CallR X (.type "bool") (rBoolO C sp E) := by
  intro pins s σ H xs us Q I r h
  obtain ⟨a, dx, fs, rfl, ha, q⟩ := h
  obtain ⟨u, rfl, ru⟩ := vals1 r
  cases ru
  obtain ⟨mA, J, _⟩ := ins_get I.hok ha
  obtain ⟨od, J, _⟩ := J.look
  have hr2 : Room n X.A.in1.in1 := (show Room (n + 1) X.A.in1 from Room.in1 hr).in1
  refine bool_own I.kIn J om.at_ om.fn ?_
  refine wpAny_mono (run_in (us := [.ref a]) (ws := [.ref a]) F hr2 I.env0.in1.in1 hb hx I (.cons rfl .nil) q) (fun w s' ⟨z, H', I', rz, k, ez, qz⟩ => ?_) fun _ _ e => e
  subst ez
  exact ⟨k, rz, .bl k, H', I', rfl, qz⟩
/-- powers with a large base -/
def CPowW (i j : Int) : Prop := 0 ≤ j ∧ (Builtin.Int.intBits i : Int) * j ≤ 2 ^ 27
theorem op_powW : OpR X (binaryOp .Pow) (rI CPowW fun i j => .int (i ^ j.toNat)) := by
  intro pins s σ H x y v u Q I rx ry h
  obtain ⟨i, j, rfl, rfl, hc, q⟩ := h
  obtain ⟨t, rfl⟩ := rx
  obtain ⟨t', rfl⟩ := ry
  exact pow_int hc.1 hc.2 ⟨.int _, H, I.tok _, ⟨_, rfl⟩, q⟩
end
/-! ### a def of the module by its promise -/
/-- the def under the name x keeps the promise sp, by at most level k -/
structure Cal (P : Program) (w : World) (K : PySem.W.Frag) (mg : Str → Option Value) (base : Heap) (x : Str) (k : Nat) (sp : Sp) : Prop where
  ex : ∃ f fd ps, FnOk P w K mg base CX0 k f fd ps sp ∧ mg x = some (.ref f) ∧ PySem.W.keepIn K (.ref f) = true ∧ Binds K fd ps []
section
variable {X : Cx} {x : Str} {k : Nat} {sp : Sp} {e : Expr} {es : List Expr} {t : TA} {p pos : Pos}
theorem pe_cal (C : Cal X.prog X.w X.K X.mg X.base x k sp) (hr : Room k X.A) (hg : Gl X x) (ha : PA X (e :: es) t) (hdb : (x == ("__debug__" : Str)) = false := by decide)
    (he : starEach (e :: es) X.env = (false, eval e X.env) :: starEach es X.env := by rfl) (hpl : (backTo pos (starEach es X.env)).any (·.1) = false := by rfl) : PE X (.Call (.Name x p) (e :: es) [] pos) (tCall sp [] E0 t) := by
  obtain ⟨f, fd, ps, F, hm, hk, hb⟩ := C.ex
  exact pe_call F hr hg hm hk hb .nil pass0 ha hdb he hpl
theorem pe_cal0 (C : Cal X.prog X.w X.K X.mg X.base x k sp) (hr : Room k X.A) (hg : Gl X x) (hdb : (x == ("__debug__" : Str)) = false := by decide) : PE X (.Call (.Name x p) [] [] pos) (tCall sp [] E0 tNil) := by
  obtain ⟨f, fd, ps, F, hm, hk, hb⟩ := C.ex
  exact pe_call0 F hr hg hm hk hb .nil pass0 hdb
end
end Ow

namespace Ow
open PySem PySem.Spec PyProof.Rows L2
section
variable {X : Cx} {CX : CXT} {C f : Addr} {n : Nat} {fd : FuncData} {ps : List Str} {sp : Sp} {E : XK}
/-- str(x) by an own __str__ -/
def rStrO (C : Addr) (sp : Sp) (E : XK) : List V → Hp → VK → Prop := fun xs H Q => ∃ a dx fs, xs = [.ref a] ∧ H a = some (.ins C dx fs) ∧ sp [.ref a] H (fun z H' => ∃ y, z = .str y ∧ Q (.str y) H') E
theorem call_strO (om : OM X.K C "__str__" f) (F : FnOk X.prog X.w X.K X.mg X.base CX n f fd ps sp) (hr : Room (n + 2) X.A) (hb : Binds X.K fd ps []) (hx : Passes CX X E) : CallR X (.type "str") (rStrO C sp E) := by
  intro pins s σ H xs us Q I r h
  obtain ⟨a, dx, fs, rfl, ha, q⟩ := h
  obtain ⟨u, rfl, ru⟩ := vals1 r
  cases ru
  obtain ⟨mA, J, _⟩ := ins_get I.hok ha
  obtain ⟨od, J, _⟩ := J.look
  have hr2 : Room n X.A.in1.in1 := (show Room (n + 1) X.A.in1 from Room.in1 hr).in1
  refine PySem.W.kso_call hr2.units0 I.kIn J om.at_ om.fn ?_
  refine wpAny_mono (run_in (us := [.ref a]) (ws := [.ref a]) F hr2 I.env0.in1.in1 hb hx I (.cons rfl .nil) q) (fun w s' ⟨z, H', I', rz, y, ez, qz⟩ => ?_) fun _ _ e => e
  subst ez
  obtain ⟨t, rfl⟩ := rz
  exact ⟨.str y, H', I', ⟨t, rfl⟩, qz⟩
/-- a text of parts, by a name -/
def tJn (ts : List TE) : TE := fun σ H Q => tJs ts Str.empty σ H fun out H1 => Q (.str out) H1
theorem pe_fstr {v1 v2 : Expr} {rest : List Expr} {ts : List TE} {pos : Pos} (h : PJ X (v1 :: v2 :: rest) ts) : PE X (.JoinedStr (v1 :: v2 :: rest) pos) (tJn ts) := pe_joined h
theorem u65 {A : Around} {k : Nat} (hr : Room k A) : A.units + 65 < cLine := by
  have := hr.un
  omega
def rInT (K : PySem.W.Frag) : R2 := fun x y H Q => ∃ d ds, Dp K H x d ∧ Dp K H y (.tuple ds) ∧ SeqAt.shaped d = true ∧ SeqAt.shaped (.tuple ds) = true ∧ Q (.bl (ds.any fun z => PyData.eqv z d)) H
theorem op_inT (hu : X.A.units + 65 < cLine) : OpR X (compareOp .In) (rInT X.K) := by
  intro pins s σ H x y v u Q I rx ry h
  obtain ⟨d, ds, hd, he, sd, se, q⟩ := h
  obtain ⟨as, r1⟩ := Dp.reads I d x v hd rx
  obtain ⟨bs, r2⟩ := Dp.reads I (.tuple ds) y u he ry
  exact SeqAt.in_tuple_reads r2 r1 (SeqAt.canLay_of_shaped se) (SeqAt.canLay_of_shaped sd) (room_in_shaped (xs := ds) sd hu) ⟨.bl _, H, I, rfl, q⟩
end
end Ow

namespace Ow
open PySem PySem.Spec PyProof.Rows
open PySem.W (findIn isFn InstAt looks_findIn special_fn ifBound_K)
section
variable {prog : Program} {w : World} {A : Around} {E : Value → Shared → Prop} {s : Shared} {K : PySem.W.Frag} {x C f : Addr} {y tb : Value} {ox : Obj} {od : Option Obj}
theorem objNeV (X : K.In s.heap) (I : InstAt s.heap x ox C od) (hs : findIn K (.ref C) "__eq__" = some (some (.ref f))) (hf : isFn K (.ref f) = true) (hu : A.units < cLine) {Q : Fin → Shared → Prop}
    (hc : wpAny (model prog w) A (call (.ref f) [.ref x, y]) (fun v s' => ∃ b, v = .bool b ∧ Q (.done (.ret (.bool (!b)))) s') E s) :
    wpAny (model prog w) A (Builtin.«object.__ne__» ⟨[.ref x, y], []⟩) Q E s := by
  obtain ⟨hp, g, d, tk, os⟩ := s
  unfold Builtin.«object.__ne__»
  repeat (first
    | with_reducible refine wpAny_cRoomFor hu ?_
    | (refine wpAny_bind (m := callSpecialIfBound? (.ref x) (Str.ofString "__eq__") [y])
        (ifBound_K X I hs hf (wpAny_mono hc (fun r s' hr => by
          obtain ⟨b, rfl, hq⟩ := hr
          repeat (first | exact hq | exact wpAny_pure hq | exact wpAny_truthy_bool hq | (refine wpAny_bind (m := truthy (.bool _)) (wpAny_truthy_bool ?_)) | wp_step)) fun _ _ e => e)))
    | wp_step)
theorem tryNeV (X : K.In s.heap) (I : InstAt s.heap x ox C od) (hn : findIn K (.ref C) "__ne__" = some (some (.builtin "object.__ne__"))) (hs : findIn K (.ref C) "__eq__" = some (some (.ref f))) (hf : isFn K (.ref f) = true)
    (hb : PySem.W.mroIn K C (.type "object") = some true) (hu : A.units + 1 < cLine) {Q : Option Value → Shared → Prop}
    (hc : wpAny (model prog w) A.in1 (call (.ref f) [.ref x, y]) (fun v s' => ∃ b, v = .bool b ∧ Q (some (.bool (!b))) s') E s) :
    wpAny (model prog w) A (tryCompare (.ref x) "__ne__" y) Q E s := by
  simp only [tryCompare]
  have hcall : wpAny (model prog w) A (call (.builtin "object.__ne__") (.ref x :: [y])) (fun v s' => ∃ b, v = .bool b ∧ Q (some (.bool b)) s') E s := by
    refine wpAny_call (codeAny_call_builtin PySem.F.cmp_object.ne.plain PySem.F.cmpEntry_ne ?_)
    refine PySem.W.check_slot PySem.F.cmpKind_ne PySem.F.cmpSplit_ne ?_ (PySem.F.cmpArgs_ne _ _) ?_
    · exact I.type.andThen (PySem.W.looks_mroIn X hb)
    · refine objNeV (A := A.in1) X I hs hf hu (wpAny_mono hc (fun v s' hv => ?_) fun _ _ e => e)
      obtain ⟨b, rfl, hq⟩ := hv
      exact ⟨b, rfl, ⟨_, rfl, hq⟩⟩
  refine wpAny_bind ?_
  simp only [callSpecialIfBound?, bindSpecialIfBound?]
  refine wpAny_holding (wpAny_bind (wpAny_bind (wpAny_bind (I.type.here ((looks_findIn X hn).here ?_)))))
  simp only [PySem.F.cmp_object.ne.bind]
  refine wpAny_bind (wpAny_askSetting (wpAny_ite ?_))
  have fin : wpAny (model prog w) A (call (.builtin "object.__ne__") ([.ref x] ++ [y]) >>= fun v => pure (some v)) (fun r s' => ∃ b, r = some (.bool b) ∧ Q (some (.bool b)) s') E s :=
    wpAny_bind (wpAny_mono hcall (fun v s' ⟨b, e, q⟩ => wpAny_pure ⟨b, by rw [e], q⟩) fun _ _ h' => h')
  have fin2 : wpAny (model prog w) A (call (.builtin "object.__ne__") ([.ref x] ++ [y]) >>= fun v => pure (some v)) (fun a s' => wpAny (model prog w) A (match a with | some Value.notImplemented => pure none | none => pure none | some r => pure (some r)) Q E s') E s :=
    wpAny_mono fin (fun r s' ⟨b, e, q⟩ => by rw [e]; exact wpAny_pure q) fun _ _ h' => h'
  split
  · exact wpAny_bind (wpAny_pure (wpAny_pure fin2))
  · exact wpAny_tryCatch (wpAny_bind (wpAny_pure (wpAny_pure fin2)))
theorem neq_other {T : String} (X : K.In s.heap) (I : InstAt s.heap x ox C od) (J : PySem.W.Looks (model prog w) s.heap (typeOf y) (.type T)) (nf : PySem.W.subIn K (.type T) (.ref C) = some false) (hn : findIn K (.ref C) "__ne__" = some (some (.builtin "object.__ne__"))) (hs : findIn K (.ref C) "__eq__" = some (some (.ref f))) (hf : isFn K (.ref f) = true)
    (hb : PySem.W.mroIn K C (.type "object") = some true) (hu : A.units + 1 < cLine) {Q : Value → Shared → Prop}
    (hc : wpAny (model prog w) A.in1 (call (.ref f) [.ref x, y]) (fun v s' => ∃ b, v = .bool b ∧ Q (.bool (!b)) s') E s) :
    wpAny (model prog w) A (compareOp .NotEq (.ref x) y) Q E s := by
  unfold compareOp richCompare
  simp only [oneThing_ref]
  refine wpAny_holding ?_
  refine wpAny_bind (wpAny_cRoomFor (Nat.lt_of_succ_lt hu) ?_)
  rw [cmpInfo_NotEq]
  dsimp only
  refine wpAny_bind (I.type.here (wpAny_bind (J.here ?_)))
  rw [show (Value.ref C != Value.type T) = true from by simp]
  simp only [if_true]
  refine wpAny_bind ((PySem.W.looks_subIn X nf).here ?_)
  simp only [Bool.false_eq_true, if_false]
  refine wpAny_bind (tryNeV X I hn hs hf hb hu (wpAny_mono hc (fun v s' hv => ?_) fun _ _ e => e))
  obtain ⟨b, rfl, hq⟩ := hv
  exact ⟨b, rfl, wpAny_pure hq⟩
end
end Ow
namespace Ow
open PySem PySem.Spec PyProof.Rows L2
section
variable {X : Cx} {CX : CXT} {C f : Addr} {n : Nat} {fd : FuncData} {ps : List Str} {sp : Sp} {E : XK}
/-- x == y, y of a built-in class -/
def rBinX (K : PySem.W.Frag) (C : Addr) (sp : Sp) (E : XK) : R2 := fun x y H Q => ∃ a dx fs T, x = .ref a ∧ H a = some (.ins C dx fs) ∧ TyX K H y (.type T) ∧ PySem.W.subIn K (.type T) (.ref C) = some false ∧ sp [.ref a, y] H Q E
theorem nf_of {K : PySem.W.Frag} {T : String} (h : PySem.W.subIn K (.type T) (.ref C) = some false) : PySem.W.notFirst K C (.type T) = true := by
  unfold PySem.W.notFirst
  rw [h]
  simp
theorem op_eqX (om : OM X.K C "__eq__" f) (F : FnOk X.prog X.w X.K X.mg X.base CX n f fd ps sp) (hr : Room n X.A) (hb : Binds X.K fd ps []) (hx : Passes CX X E) : OpR X (compareOp .Eq) (rBinX X.K C sp E) := by
  intro pins s σ H x y v u Q I rx ry h
  obtain ⟨a, dx, fs, T, rfl, ha, ty, nf, q⟩ := h
  cases rx
  obtain ⟨mA, J, _⟩ := ins_get I.hok ha
  obtain ⟨od, J, _⟩ := J.look
  obtain ⟨m, hF⟩ := I.fr
  obtain ⟨Pu, Z, pu, _⟩ := kit_of I ry ty
  show wpAny _ _ (richCompare .Eq _ _) _ _ _
  refine PySem.W.cmp_K (op := .Eq) (tb := .type T) hr.units0 hF I.ok.mod.kin J (Z.ty _ _ I.kIn pu) (nf_of nf) om.at_ om.fn ?_
  refine wpAny_mono (run_in (us := [.ref a, u]) (ws := [.ref a, y]) F hr I.env0 hb hx I (.cons rfl (.cons ry .nil)) q) (fun w s' ⟨z, H', I', rz, qz⟩ => cback rz ⟨z, H', I', rz, qz⟩) fun _ _ e => e
def rBinNX (K : PySem.W.Frag) (C : Addr) (sp : Sp) (E : XK) : R2 := fun x y H Q => ∃ a dx fs T, x = .ref a ∧ H a = some (.ins C dx fs) ∧ TyX K H y (.type T) ∧ PySem.W.subIn K (.type T) (.ref C) = some false ∧ sp [.ref a, y] H (fun z H' => ∃ k, z = .bl k ∧ Q (.bl (!k)) H') E
theorem op_neX (oc : OCls X.K C) (om : OM X.K C "__eq__" f) (F : FnOk X.prog X.w X.K X.mg X.base CX n f fd ps sp) (hr : Room (n + 1) X.A) (hb : Binds X.K fd ps []) (hx : Passes CX X E) : OpR X (compareOp .NotEq) (rBinNX X.K C sp E) := by
  intro pins s σ H x y v u Q I rx ry h
  obtain ⟨a, dx, fs, T, rfl, ha, ty, nf, q⟩ := h
  cases rx
  obtain ⟨mA, J, _⟩ := ins_get I.hok ha
  obtain ⟨od, J, _⟩ := J.look
  obtain ⟨Pu, Z, pu, _⟩ := kit_of I ry ty
  refine neq_other I.kIn J (Z.ty _ _ I.kIn pu) nf oc.ne om.at_ om.fn oc.ob (hu_of hr) ?_
  refine wpAny_mono (run_in (us := [.ref a, u]) (ws := [.ref a, y]) F hr.in1 I.env0.in1 hb hx I (.cons rfl (.cons ry .nil)) q) (fun w s' ⟨z, H', I', rz, k, ez, qz⟩ => ?_) fun _ _ e => e
  subst ez
  exact ⟨k, rz, .bl (!k), H', I', rfl, qz⟩
end
end Ow

/-! enumerate of a tuple -/
namespace Ow
open PySem PySem.Spec PyProof.Rows L2
set_option maxHeartbeats 8000000 in
theorem enum1_new {v : Value} {o : Obj} {Hy : Heap → Prop} (B : Begins v o Hy) : Meets (Builtin.«enumerate.__new__» ⟨[.type "enumerate", v], []⟩) (fun _ R s => Hy s.heap ∧
    R (.ok (.ret (.ref (s.heap.push o).objs.size))) { s with heap := (s.heap.push o).push { cls := .type "enumerate", data := .fields #[.none, .bool false, .ref s.heap.objs.size, rawInt 0, .none, .none] } }) := .of_wp fun prog w A R s h => by
  obtain ⟨hp, g, d, tk, os⟩ := s
  obtain ⟨h1, h⟩ := h
  have sb := sub_enumerate
  have q1 {A' : Around} {E Q : Value → Shared → Prop} (q : Q (.ref hp.objs.size) ⟨hp.push o, g, d, tk, os⟩) : wpAny (model prog w) A' (pyIter v) Q E ⟨hp, g, d, tk, os⟩ := B.iter prog w _ _ ⟨hp, g, d, tk, os⟩ _ h1 q
  wp_walk using q1
  apply wpAny_stack_any; intro st; apply wpAny_pure
  split
  · rename_i c _ _ _ _ _; cases (c == Value.type "enumerate") <;> (wp_walk using q1; exact ⟨_, rfl, h⟩)
  · wp_walk using q1; exact ⟨_, rfl, h⟩
section
variable {prog : Program} {w : World} {A : Around} {E : Value → Shared → Prop} {s : Shared}
theorem enum1_call {v : Value} {o : Obj} {Hy : Heap → Prop} {Q : Value → Shared → Prop} (B : Begins v o Hy) (h1 : Hy s.heap)
    (h : ∀ h', IsEnum h' (s.heap.objs.size + 1) s.heap.objs.size 0 .none → h'.get? s.heap.objs.size = some o → (∀ b u, s.heap.get? b = some u → h'.get? b = some u) → Q (.ref (s.heap.objs.size + 1)) { s with heap := h' }) :
    wpAny (model prog w) A (call (.type "enumerate") [v]) Q E s := by
  refine callType_new F.called_enumerate (by decide) (F.typeCall_enumerate_1 _) (F.newCall_enumerate_1 _) (fun ob => F.args_object_init_2 ob _) F.entry_enumerate_new (enum1_new B) ⟨h1, ?_⟩
  have z1 : (s.heap.push o).objs.size = s.heap.objs.size + 1 := Heap.size_push ..
  have he : IsEnum ((s.heap.push o).push { cls := .type "enumerate", data := .fields #[.none, .bool false, .ref s.heap.objs.size, rawInt 0, .none, .none] }) (s.heap.objs.size + 1) s.heap.objs.size 0 .none := by
    have q := Heap.get?_push_size (s.heap.push o) (o := { cls := .type "enumerate", data := .fields #[.none, .bool false, .ref s.heap.objs.size, rawInt 0, .none, .none] }) rfl
    rwa [z1] at q
  show _ ∧ _
  rw [z1]
  exact ⟨⟨_, he, rfl⟩, h _ he (Heap.get?_push_of_some _ (Heap.get?_push_size _ B.free)) fun b u x => Heap.get?_push_of_some _ (Heap.get?_push_of_some _ x)⟩
end
/-- the tuple at a, each item in a new pair with its place -/
def IteT (K : PySem.W.Frag) (a : Addr) : It where
  go i H := ∃ (xs : List V) (x : V), SqT K H a xs ∧ xs[i]? = some x
  yld i H v H' := ∃ T x, v = .ref T ∧ H T = none ∧ H' = upd H T (.tup [.int (i : Nat), x]) ∧ ∀ xs, SqT K H a xs → xs[i]? = some x
  stop i H := ∃ xs : List V, SqT K H a xs ∧ xs.length ≤ i
theorem turn_enumT {P : Program} {w : World} {K : PySem.W.Frag} {elts : List Expr} {kk : Nat} {tpos : Pos} (a e it : Addr) :
    Turn P w K (.Tuple elts kk tpos) (IteT K a) [e, it] e (fun i h => (∃ old, IsEnum h e it ((i : Nat) : Int) old) ∧ h.IsTupleIter it a i ∧ e ≠ it ∧ a ≠ it ∧ a ≠ e) where
  mem := by simp
  obj := fun i h st b hb => by
    obtain ⟨⟨old, he⟩, ⟨o, ho, hc, hd⟩, _⟩ := st
    rcases (show b = e ∨ b = it by simpa using hb) with rfl | rfl
    · exact ⟨_, he, fun v q => nomatch q⟩
    · exact ⟨o, ho, fun v q => by rw [hd] at q; cases q⟩
  keep := fun i h h' st k => by
    obtain ⟨⟨old, he⟩, hi, ne⟩ := st
    exact ⟨⟨old, k e (by simp) _ he⟩, hi.at fun o q => k it (by simp) o q, ne⟩
  item := by
    intro X hP hw hK hc i pins s σ H E I hf st hg
    subst hP hw hK
    obtain ⟨⟨old, he⟩, hit, hne, nai, nae⟩ := st
    obtain ⟨xs, x, hq, hx⟩ := hg
    obtain ⟨its, rv, p, hz⟩ := I.tuple hq
    obtain ⟨u, hu, ru⟩ := rv.get hx
    have hel := Heap.lt_size he
    have hil : it < s.heap.objs.size := by
      obtain ⟨_, q, _⟩ := hit
      exact Heap.lt_size q
    have pt : s.heap.IsTuple a its.toArray := p
    have ilt : i < its.toArray.size := by
      have := (List.getElem?_eq_some_iff.mp hu).1
      simpa using this
    refine wpAny_pyNext_enum_itemD (Draws.tuple (A := X.A.in1) (show X.A.in1.handled = none from I.ok.hd hc) it a nai its.toArray) he ⟨hit, pt⟩ ilt hne (by simp [hne, Ne.symm nae]) fun y h' tk hy ho st' hT hsz hk => ?_
    obtain rfl : u = y := by
      have : its.toArray[i]? = some y := hy
      rw [show its.toArray[i]? = some u by simpa using hu] at this
      exact Option.some.inj this
    refine ⟨_, rfl, wpAny_letOwnedTupleGo_enum (s := { s with heap := h', toks := tk + 1 }) ho fun h2 he' sb => ?_⟩
    have hT2 : h2.get? s.heap.objs.size = some { cls := .type "tuple", data := .seq #[.int i tk, u] } := (sb.2 _ (Nat.ne_of_gt hel)).trans hT
    have ok : ObjOk X.prog X.w (upd H s.heap.objs.size (.tup [.int (i : Nat), x])) h2 s.heap.objs.size (.tup [.int (i : Nat), x]) := ⟨show 2 ≤ sizeLine by decide, [.int i tk, u], .cons ⟨_, rfl⟩ (.cons ru .nil), ⟨_, hT2, rfl, _, rfl⟩⟩
    have I1 : Inv X pins σ (upd H s.heap.objs.size (.tup [.int (i : Nat), x])) { s with heap := h2, toks := tk + 1 } :=
      I.turnedNew (ch := [e, it]) (fun b ob hb q => (sb.2 b fun z => hb (by simp [z])).trans (hk b ob (fun z => hb (by simp [z])) (fun z => hb (by simp [z])) q)) hf (Nat.le_refl _) ok
    refine ⟨.ref s.heap.objs.size, _, I1, rfl, ⟨_, x, rfl, I.hok.fresh (Nat.le_refl _), rfl, fun ys hy => I.tuple_inj hq hy ▸ hx⟩, ⟨⟨u, ?_⟩, st'.1.at fun o q => (sb.2 it (Ne.symm hne)).trans q, hne, nai, nae⟩, fun b hb => ?_⟩
    · rw [show ((i + 1 : Nat) : Int) = (i : Int) + 1 by omega]
      exact he'
    · have hb' : b < s.heap.objs.size := by rcases (show b = e ∨ b = it by simpa using hb) with rfl | rfl <;> assumption
      rw [upd_ne (Nat.ne_of_lt hb')]
      exact (hf b hb).1
  done := by
    intro X hP hw hK hc i pins s σ H E I hf st hg
    subst hP hw hK
    obtain ⟨⟨old, he⟩, hit, hne, nai, nae⟩ := st
    obtain ⟨xs, hq, hx⟩ := hg
    obtain ⟨its, rv, p, hz⟩ := I.tuple hq
    have fi := hf it (by simp)
    obtain ⟨f0, f1, f2, f3, f4, f5⟩ := fi
    have pt : s.heap.IsTuple a its.toArray := p
    have hl := rv.length
    have D : Draws X.prog X.w X.A.in1 it [it, a] i (fun _ _ => False) (fun j h => j = i ∧ h.IsTupleIter it a i ∧ h.IsTuple a its.toArray) :=
      { live := fun _ _ st => let ⟨o, ho, _⟩ := st.2.1; ⟨o, ho⟩
        frame := fun _ _ _ st hk => ⟨st.1, st.2.1.at fun o e => hk it (by simp) o e, st.2.2.at fun o e => hk a (by simp) o e⟩
        item := fun j s Q E hj st _ => absurd st.1 (Nat.ne_of_lt hj)
        done := fun s Q E st hE => wpAny_nextOf_tuple_end (show X.A.in1.handled = none from I.ok.hd hc) st.2.1 st.2.2 (by simp; omega) hE }
    exact wpAny_pyNext_enum_endD D he ⟨rfl, hit, pt⟩ fun h' eb => ⟨rfl, I.turned (t' := s.toks) (fun b o hb q => eb b o hb q) f0 f1 f3 f4 f5⟩
  self := fun _ _ _ _ _ st h => by
    obtain ⟨⟨_, he⟩, _⟩ := st
    exact wpAny_pyIter_enum he h
def iEnumT (K : PySem.W.Frag) (ta : TA) : TI := fun σ H R => ta σ H fun vs H1 => ∃ a xs, vs = [.ref a] ∧ SqT K H1 a xs ∧ R (IteT K a) H1
theorem pi_enumT {X : Cx} {e : Expr} {ta : TA} {p pos tpos : Pos} {elts : List Expr} {kk : Nat} (hg : Gl X "enumerate") (hm : X.mg "enumerate" = none) (ha : PA X [e] ta) (hs : starEach [e] X.env = [(false, eval e X.env)] := by rfl) :
    PI X (.Tuple elts kk tpos) (.Call (.Name "enumerate" p) [e] [] pos) (iEnumT X.K ta) := by
  refine ⟨fun pins s σ H R I h => Call_ (ld_blt I hg hm boot_enumerate (PyProof.Rows.callWith_type1 (thn (ha.run pos pins s σ H _ I h) fun us s1 ⟨vs, H1, I1, r1, a, xs, ex, hq, q⟩ => ?_) hs rfl))⟩
  subst ex
  obtain ⟨u, rfl, ru⟩ := r1.one
  cases ru
  obtain ⟨its, rv, p', hz⟩ := I1.tuple hq
  have pt : s1.heap.IsTuple a its.toArray := p'
  have al : a < s1.heap.objs.size := by
    obtain ⟨o, ho, _⟩ := pt
    exact Heap.lt_size ho
  refine enum1_call (begins_tuple a its.toArray) pt fun h' he hit hk => wpAny_pyIter_enum he ?_
  have J2 : Inv X pins σ H1 { s1 with heap := h' } := I1.kept (t' := s1.toks) hk
  refine ⟨s1.heap.objs.size + 1, [s1.heap.objs.size + 1, s1.heap.objs.size], _, _, H1, rfl, J2, turn_enumT a (s1.heap.objs.size + 1) s1.heap.objs.size, ⟨⟨.none, he⟩, ⟨_, hit, rfl, rfl⟩, Nat.succ_ne_self _, Nat.ne_of_lt al, Nat.ne_of_lt (Nat.lt_succ_of_lt al)⟩, fun b hb => ?_, q⟩
  have hle : s1.heap.objs.size ≤ b := by rcases (show b = s1.heap.objs.size + 1 ∨ b = s1.heap.objs.size by simpa using hb) with rfl | rfl <;> omega
  exact I1.fpOk hle (I1.hok.fresh hle)
end Ow

/-! t[::-1], t a tuple -/
namespace Ow
open PySem PySem.Spec PyProof.Rows L2
theorem rev_adj (n : Nat) : Builtin.Slice.sliceAdjust none none (-1) (n : Int) = ((n : Int) - 1, -1) := rfl
theorem rev_places (n : Nat) : Builtin.Slice.slicePlaces ((n : Int) - 1) (-1) (-1) = n := by
  unfold Builtin.Slice.slicePlaces
  rw [if_neg (by decide)]
  split
  · rw [show (- -1 : Int) = 1 by decide, Int.ediv_one]
    omega
  · omega
theorem rev_pick (xs : Array Value) : ((List.range xs.size).filterMap fun (k : Nat) => xs[((xs.size : Int) - 1 + (k : Int) * -1).toNat]?).toArray = xs.toList.reverse.toArray := by
  have e : ((List.range xs.size).filterMap fun (k : Nat) => xs[((xs.size : Int) - 1 + (k : Int) * -1).toNat]?) = ((List.range xs.size).map fun k => xs.size - 1 - k).filterMap (xs[·]?) := by
    rw [List.filterMap_map]
    have : ∀ l : List Nat, (∀ k ∈ l, k < xs.size) → (l.filterMap fun (k : Nat) => xs[((xs.size : Int) - 1 + (k : Int) * -1).toNat]?) = l.filterMap ((xs[·]?) ∘ fun k => xs.size - 1 - k) := by
      intro l
      induction l with
      | nil => intro _; rfl
      | cons k l ih =>
        intro h
        have hk := h k List.mem_cons_self
        rw [List.filterMap_cons, List.filterMap_cons, ih fun j m => h j (List.mem_cons_of_mem _ m)]
        have : ((xs.size : Int) - 1 + (k : Int) * -1).toNat = xs.size - 1 - k := by omega
        rw [this]
        rfl
    exact this _ fun k m => List.mem_range.mp m
  rw [e, PySem.W.krv_range, List.filterMap_reverse, PySem.W.krv_all]
section
variable {prog : Program} {w : World} {A : Around} {E : Value → Shared → Prop} {s : Shared}
theorem rev_applied {sl : Addr} {vs : Value} {n : Nat} {Q : Int × Int × Nat → Shared → Prop} (hs : s.heap.IsSliceOf sl .none .none vs) (ps : IsPart vs (some (-1))) (h : Q ((n : Int) - 1, -1, n) s) : wpAny (model prog w) A (Builtin.Slice.sliceApplied (.ref sl) (pure (n : Int))) Q E s := by
  obtain ⟨os, hos, _, hds⟩ := id hs
  unfold Builtin.Slice.sliceApplied Builtin.Slice.sliceFields
  have f0 {Q' : Value → Shared → Prop} (q : Q' .none s) : wpAny (model prog w) A (field (.ref sl) 0) Q' E s := wpAny_field hos hds (x := .none) rfl q
  have f1 {Q' : Value → Shared → Prop} (q : Q' .none s) : wpAny (model prog w) A (field (.ref sl) 1) Q' E s := wpAny_field hos hds (x := .none) rfl q
  have f2 {Q' : Value → Shared → Prop} (q : Q' vs s) : wpAny (model prog w) A (field (.ref sl) 2) Q' E s := wpAny_field hos hds (x := vs) rfl q
  refine wpAny_bind (wpAny_bind (f0 (wpAny_bind (f1 (wpAny_bind (f2 (wpAny_pure ?_)))))))
  refine wpAny_bind (HT.slicePart_ ps ?_)
  show wpAny _ _ (if ((-1 : Int) == 0) = true then _ else _) _ _ s
  rw [if_neg (show ¬ ((-1 : Int) == 0) = true by decide)]
  refine wpAny_bind (slicePart_none (wpAny_bind (slicePart_none (wpAny_bind (wpAny_pure ?_)))))
  show wpAny _ _ (match Builtin.Slice.sliceAdjust none none (-1) (n : Int) with | (lo, hi) => pure (lo, (-1 : Int), Builtin.Slice.slicePlaces lo hi (-1))) _ _ s
  rw [rev_adj]
  show wpAny _ _ (pure ((n : Int) - 1, (-1 : Int), Builtin.Slice.slicePlaces ((n : Int) - 1) (-1) (-1))) _ _ s
  rw [rev_places]
  exact wpAny_pure h
theorem get_rev {t sl : Addr} {items : Array Value} {vs : Value} {Q : Value → Shared → Prop} (ht : IsTup s.heap t items) (hs : s.heap.IsSliceOf sl .none .none vs) (ps : IsPart vs (some (-1)))
    (h : Q (.ref s.heap.objs.size) { s with heap := s.heap.push { cls := .type "tuple", data := .seq items.toList.reverse.toArray } }) (hsz : items.size ≤ sizeLine) : wpAny (model prog w) A (getItem (.ref t) (.ref sl)) Q E s := by
  have fit : sizeOk (.seq items.toList.reverse.toArray) := show items.toList.reverse.toArray.size ≤ sizeLine by simpa using hsz
  have ty : s.TypeIs (.ref sl) "slice" := hs.elim fun os q => ⟨os, q.1, q.2.1⟩
  unfold getItem
  try with_reducible refine wpAny_holding ?_
  first | refine wpAny_bind (wpAny_pure ?_) | skip
  refine wpAny_bind (wpAny_sequenceKey ht.typeIs (by decide) (wpAny_bind (wpAny_callSpecial?_slot (name := Str.ofString "__getitem__") ht.typeIs PyProof.Rows.slot_tuple_getitem (wpAny_call_entry PyProof.Rows.slot_tuple_getitem ht.typeIs entry_tuple_getitem ?_ (args_tuple_getitem _ _)))))
  show wpAny _ _ (Builtin.Tuple.tupleItemsOf (.ref t) >>= _) _ _ s
  refine wpAny_bind (tupleItemsOf_ ht (wpAny_bind (wpAny_typeOf ty ?_)))
  rw [if_pos (show (Value.type "slice" == Value.type "slice") = true by decide)]
  refine wpAny_bind (rev_applied hs ps ?_)
  have no : ¬ ((((items.size : Int) - 1) == 0 && (-1 : Int) == 1 && items.size == items.size) = true) := by
    rw [show ((-1 : Int) == 1) = false by decide, Bool.and_false, Bool.false_and]
    exact Bool.false_ne_true
  show wpAny _ _ (if ((((items.size : Int) - 1) == 0 && (-1 : Int) == 1 && items.size == items.size) = true) then _ else _) _ _ s
  rw [if_neg no, rev_pick]
  first
    | exact wpAny_bind (m := Builtin.Tuple.tupleExact _) (wpAny_newObj_type (wpAny_pure ⟨_, rfl, wpAny_pure h⟩) fit)
    | exact wpAny_bind (m := Builtin.Tuple.tupleExact _) (wpAny_newObj_type (wpAny_bind (wpAny_pure (wpAny_pure ⟨_, rfl, wpAny_pure h⟩))) fit)
end
def tRevT (K : PySem.W.Frag) (te : TE) : TE := fun σ H Q => te σ H fun x H1 => ∃ a xs, x = .ref a ∧ SqT K H1 a xs ∧ ∀ p, H1 p = none → Q (.ref p) (upd H1 p (.tup xs.reverse))
theorem pe_revT {X : Cx} {e : Expr} {te : TE} {k : Nat} {p1 p2 p3 pos : Pos} (he : PE X e te) : PE X (.Subscript e (.Slice none none (some (.UnaryOp .USub (.Constant (.int 1) k p1) p2)) p3) pos) (tRevT X.K te) := by
  refine ⟨fun pins s σ H Q I h => Subscript_ (thn (he.run pins s σ H _ I h) fun v s1 ⟨x, H1, I1, r1, a, xs, ex, hx, q⟩ => ?_)⟩
  subst ex
  cases r1
  have st : PO X (some (.UnaryOp .USub (.Constant (.int 1) k p1) p2)) (tPart (tUn (rU fun i => .int (-i)) (tC (.int 1)))) := po_some (pe_un un_neg pe_int)
  refine wpAny_Slice (thn (po_none.run pins s1 σ H1 (fun o H2 => o = none ∧ H2 = H1) I1 ⟨rfl, rfl⟩) fun vl s2 ⟨l, H2, I2, pl, z1, z2⟩ => ?_)
  subst z1 z2
  refine thn (po_none.run pins s2 σ H2 (fun o H3 => o = none ∧ H3 = H2) I2 ⟨rfl, rfl⟩) fun vu s3 ⟨u, H3, I3, pu, z3, z4⟩ => ?_
  subst z3 z4
  refine thn (st.run pins s3 σ H3 (fun o H4 => o = some (-1) ∧ H4 = H3) I3 ⟨1, rfl, -1, rfl, rfl, rfl⟩) fun vs s4 ⟨o, H4, I4, ps, z5, z6⟩ => ?_
  subst z5 z6
  have nl : vl = .none := by cases pl; rfl
  have nu : vu = .none := by cases pu; rfl
  subst nl nu
  have I5 : Inv X pins σ H4 { s4 with heap := s4.heap.push { cls := .type "slice", data := .fields #[.none, .none, vs] } } := I4.kept (t' := s4.toks) fun b ob q => Heap.get?_push_of_some _ q
  obtain ⟨its, r, ht, hz⟩ := I5.tuple hx
  have hlen := r.length
  show wpAny _ _ (subscriptTail e (.Slice none none (some (.UnaryOp .USub (.Constant (.int 1) k p1) p2)) p3) (.ref a) (.ref s4.heap.objs.size)) _ _ _
  refine tail_any (ops := [.ref a, .ref s4.heap.objs.size]) ht.typeIs (PyProof.Rows.slot_tuple_getitem.lookup) ?_ (by with_unfolding_all rfl)
  refine get_rev ht (Heap.IsSliceOf.new _ .none .none vs) ps ?_ (by rw [List.size_toArray]; omega)
  refine ⟨.ref _, _, I5.laid (t' := s4.toks) (o := .tup xs.reverse) (fun b ob q => Heap.get?_push_of_some _ q) (Nat.le_refl _) ?_, rfl, q _ (I5.hok.fresh (Nat.le_refl _))⟩
  exact ⟨by rw [List.length_reverse]; exact hz, its.reverse, r.reverse, IsTup.new _ _⟩
end Ow

namespace Ow
open PySem PySem.Spec PyProof.Rows L2
section
variable {X : Cx} {CX : CXT} {C f : Addr} {n : Nat} {fd : FuncData} {ps : List Str} {sp : Sp} {E : XK}
/-- the truth of an instance, by its own __bool__ -/
def rTruO (C : Addr) (sp : Sp) (E : XK) : V → Hp → (Bool → Hp → Prop) → Prop := fun x H Q => ∃ a dx fs, x = .ref a ∧ H a = some (.ins C dx fs) ∧ sp [.ref a] H (fun z H' => ∃ k, z = .bl k ∧ Q k H') E
theorem tru_own (om : OM X.K C "__bool__" f) (F : FnOk X.prog X.w X.K X.mg X.base CX n f fd ps sp) (hr : Room n X.A) (hb : Binds X.K fd ps []) (hx : Passes CX X E) : TruR X (rTruO C sp E) := by
  intro pins s σ H x v Q I r h
  obtain ⟨a, dx, fs, rfl, ha, q⟩ := h
  cases r
  obtain ⟨mA, J, _⟩ := ins_get I.hok ha
  obtain ⟨od, J, _⟩ := J.look
  obtain ⟨m, hF⟩ := I.fr
  refine PySem.W.truthy_K hF I.ok.mod.kin J om.at_ om.fn (wpAny_mono (run_in (us := [.ref a]) (ws := [.ref a]) F hr I.env0 hb hx I (.cons rfl .nil) q) (fun w s' ⟨z, H', I', rz, k, ez, qz⟩ => ?_) fun _ _ e => e)
  subst ez
  obtain rfl : w = .bool k := rz
  exact ⟨H', I', qz⟩
/-- len(x) by an own __len__ -/
def rLenO (C : Addr) (sp : Sp) (E : XK) : List V → Hp → VK → Prop := fun xs H Q => ∃ a dx fs, xs = [.ref a] ∧ H a = some (.ins C dx fs) ∧ sp [.ref a] H (fun z H' => ∃ k : Int, z = .int k ∧ 0 ≤ k ∧ k < 2 ^ 63 ∧ Q (.int k) H') E
theorem call_lenO (om : OM X.K C "__len__" f) (F : FnOk X.prog X.w X.K X.mg X.base CX n f fd ps sp) (hr : Room (n + 1) X.A) (hb : Binds X.K fd ps []) (hx : Passes CX X E) : CallR X (.builtin "len") (rLenO C sp E) := by
  intro pins s σ H xs us Q I r h
  obtain ⟨a, dx, fs, rfl, ha, q⟩ := h
  obtain ⟨u, rfl, ru⟩ := vals1 r
  cases ru
  obtain ⟨mA, J, _⟩ := ins_get I.hok ha
  obtain ⟨od, J, _⟩ := J.look
  obtain ⟨m, hF⟩ := I.fr
  refine PySem.W.len_K hF I.ok.mod.kin J om.at_ om.fn (wpAny_mono (run_in (us := [.ref a]) (ws := [.ref a]) F hr.in1 I.env0.in1 hb hx I (.cons rfl .nil) q) (fun w s' ⟨z, H', I', rz, k, ez, k0, k1, qz⟩ => ?_) fun _ _ e => e)
  subst ez
  obtain ⟨t, rfl⟩ := rz
  exact ⟨⟨k0, k1⟩, .int k, H', I'.tok _, ⟨_, rfl⟩, qz⟩
end
/-- enumerate of a tuple as a walk -/
theorem walk_enumT {K : PySem.W.Frag} {a : Addr} {xs : List V} : Walk (IteT K a) xs.length (fun H => SqT K H a xs) (YPair (fun i => some (.int (i : Nat))) (fun i => xs[i]?)) :=
  ⟨fun i _ hi q => ⟨xs, xs[i], q, by simp [hi]⟩, fun _ q => ⟨xs, q, Nat.le_refl _⟩, fun i _ _ _ _ q ⟨T, x, e1, e2, e3, e4⟩ => ⟨T, _, x, e1, e2, e3, rfl, e4 xs q⟩⟩
end Ow
namespace Ow
open PySem PySem.Spec PyProof.Rows L2
/-- o.f as one of several targets -/
def gFld (K : PySem.W.Frag) (to : TE) (f : Str) : TG := fun y σ H Q => to σ H fun x H1 => ∃ a C dx fs, x = .ref a ∧ H1 a = some (.ins C dx fs) ∧ Cls K C ∧ NoAttr K C f ∧ fs.length < 1000 ∧ Q σ (upd H1 a (.ins C dx (putF f y fs)))
theorem pg_fld {X : Cx} {o : Expr} {to : TE} {f : Str} {pos : Pos} (ho : PE X o to) : PG X (.Attribute o f pos) (gFld X.K to f) := by
  refine ⟨fun pins s σ H v u Q I ru h => ?_⟩
  rw [assign_Attribute]
  refine wpAny_bind (wpAny_holding (thn (ho.run pins s σ H _ I h) fun w s1 ⟨x, H1, I1, rx, a, C, dx, fs, ex, ea, c, nn, l, q⟩ => ?_))
  subst ex
  obtain rfl : w = Value.ref a := rx
  refine wpAny_bind (wpAny_standAt (wpAny_bind (wpAny_holding (setattr_ok I1 ea c nn l ru fun s3 I3 => ?_))))
  exact wpAny_release ⟨σ, _, I3, q⟩
end Ow
namespace Ow
open PySem L2
/-- the truth of the i-th slot's value, by a name -/
def tTru (K : PySem.W.Frag) (i : Nat) : TT := fun σ H Q => tVar i σ H fun x H1 => ∃ k, TruV K x H1 k ∧ Q k H1
end Ow
namespace Ow
open PySem PySem.Spec PyProof.Rows L2
/-- bool(a tuple) -/
theorem boolT_new (l : Addr) (its : Array Value) (hz : (its.size : Int) < 2 ^ 63) : Meets (Builtin.«bool.__new__» ⟨[.type "bool", .ref l], []⟩) (fun _ R s => IsTup s.heap l its ∧ R (.ok (.ret (.bool (!its.isEmpty)))) { s with toks := s.toks + 1 + 1 }) := .of_wp fun prog w A R s hs => by
  obtain ⟨ht, hs⟩ := hs
  obtain ⟨hp, g, d, tk, os⟩ := s
  have sb := PySem.F.conv_sub_bool
  repeat (any_goals (first | assumption | with_reducible refine truthy_tuple ht hz ?_ | wp_step))
  all_goals first | exact ⟨_, rfl, hs⟩ | exact hs
theorem call_boolT {X : Cx} : CallR X (.type "bool") (fun xs H Q => ∃ (a : Addr) (zs : List V), xs = [.ref a] ∧ SqT X.K H a zs ∧ Q (.bl (!zs.isEmpty)) H) := by
  intro pins s σ H xs us Q I r h
  obtain ⟨a, zs, rfl, hq, q⟩ := h
  obtain ⟨u, rfl, ru⟩ := vals1 r
  cases ru
  obtain ⟨its, rv, pt, hz⟩ := I.tuple hq
  have hl := rv.length
  have h63 := line63
  refine call_bool_1 (boolT_new a its.toArray (by simp only [List.size_toArray]; omega)) ⟨pt, rfl, .bl (!zs.isEmpty), H, I.tok _, ?_, q⟩
  rw [isEmpty_of rv]
  rfl
end Ow

namespace Gd
/-- t + p√5 above 0, by the norm -/
def Pos (t p : Int) : Prop := (5 * (p * p) < t * t ∧ 0 < t) ∨ (t * t < 5 * (p * p) ∧ 0 < p)
theorem sq_nonneg (x : Int) : 0 ≤ x * x := by
  rcases Int.le_total 0 x with h | h
  · exact Int.mul_nonneg h h
  · exact Int.mul_nonneg_of_nonpos_of_nonpos h h
theorem irr_aux : ∀ (n : Nat) (t p : Int), t.natAbs ≤ n → t * t = 5 * (p * p) → t = 0 ∧ p = 0 := by
  intro n
  induction n with
  | zero =>
    intro t p h e
    have ht : t = 0 := by omega
    subst ht
    refine ⟨rfl, ?_⟩
    have : p * p = 0 := by omega
    rcases Int.mul_eq_zero.mp this with h | h <;> exact h
  | succ n ih =>
    intro t p h e
    have h5 : t % 5 = 0 := by
      have hm : (t * t) % 5 = 0 := by omega
      rw [Int.mul_emod] at hm
      have h0 := Int.emod_nonneg t (show (5 : Int) ≠ 0 by decide)
      have h1 := Int.emod_lt_of_pos t (show (0 : Int) < 5 by decide)
      generalize t % 5 = r at *
      have : r = 0 ∨ r = 1 ∨ r = 2 ∨ r = 3 ∨ r = 4 := by omega
      rcases this with rfl | rfl | rfl | rfl | rfl <;> simp_all
    obtain ⟨k, hk⟩ : ∃ k, t = 5 * k := ⟨t / 5, by omega⟩
    subst hk
    have e2 : p * p = 5 * (k * k) := by
      have : 5 * k * (5 * k) = 25 * (k * k) := by grind
      omega
    by_cases hk0 : k = 0
    · subst hk0
      have : p * p = 0 := by omega
      rcases Int.mul_eq_zero.mp this with h | h <;> exact ⟨by omega, h⟩
    · have hp : p.natAbs ≤ n := by
        have hlt : p.natAbs < (5 * k).natAbs := by
          rcases Nat.lt_or_ge p.natAbs (5 * k).natAbs with h' | h'
          · exact h'
          · have h2 : (5 * k).natAbs * (5 * k).natAbs ≤ p.natAbs * p.natAbs := Nat.mul_le_mul h' h'
            rw [← Int.natAbs_mul, ← Int.natAbs_mul] at h2
            have e3 : 5 * k * (5 * k) = 25 * (k * k) := by grind
            rw [e3, e2] at h2
            have h3 : 0 < k * k := by
              rcases Int.lt_or_gt_of_ne hk0 with h | h
              · exact Int.mul_pos_of_neg_of_neg h h
              · exact Int.mul_pos h h
            omega
        omega
      obtain ⟨a, b⟩ := ih p k hp e2
      exact ⟨by omega, a⟩
theorem irr {t p : Int} (e : t * t = 5 * (p * p)) : t = 0 ∧ p = 0 := irr_aux _ t p (Nat.le_refl _) e
theorem sum_pos {u v : Int} (hu : 0 < u) (h : v * v < u * u) : 0 < u + v := by
  rcases Int.lt_or_le 0 (u + v) with h' | h'
  · exact h'
  · exfalso
    have h1 : u ≤ -v := by omega
    have : u * u ≤ -v * -v := Int.mul_le_mul h1 h1 (by omega) (by omega)
    have e : -v * -v = v * v := by grind
    omega
theorem mul_lt4 {a b c d : Int} (hb : 0 ≤ b) (h1 : b < a) (hd : 0 ≤ d) (h2 : d < c) : b * d < a * c := by
  have h3 : b * d ≤ b * c := Int.mul_le_mul_of_nonneg_left (by omega) hb
  have h4 : b * c < a * c := Int.mul_lt_mul_of_pos_right h1 (by omega)
  omega
theorem pos_mul {t p u q T P : Int} (hT : 2 * T = t * u + 5 * (p * q)) (hP : 2 * P = t * q + u * p) (h1 : Pos t p) (h2 : Pos u q) : Pos T P := by
  have hN : 4 * (T * T) - 20 * (P * P) = (t * t - 5 * (p * p)) * (u * u - 5 * (q * q)) := by
    have e1 : 4 * (T * T) = (2 * T) * (2 * T) := by grind
    have e2 : 20 * (P * P) = 5 * ((2 * P) * (2 * P)) := by grind
    rw [e1, e2, hT, hP]
    grind
  have p0 := sq_nonneg p
  have q0 := sq_nonneg q
  have t0 := sq_nonneg t
  have u0 := sq_nonneg u
  rcases h1 with ⟨a1, b1⟩ | ⟨a1, b1⟩ <;> rcases h2 with ⟨a2, b2⟩ | ⟨a2, b2⟩
  · refine .inl ⟨?_, ?_⟩
    · have : 0 < (t * t - 5 * (p * p)) * (u * u - 5 * (q * q)) := Int.mul_pos (by omega) (by omega)
      omega
    · have k := mul_lt4 (a := t * t) (b := 5 * (p * p)) (c := u * u) (d := 5 * (q * q)) (by omega) a1 (by omega) a2
      have := sum_pos (u := t * u) (v := 5 * (p * q)) (Int.mul_pos b1 b2) (by grind)
      omega
  · refine .inr ⟨?_, ?_⟩
    · have : (t * t - 5 * (p * p)) * (u * u - 5 * (q * q)) < 0 := Int.mul_neg_of_pos_of_neg (by omega) (by omega)
      omega
    · have k := mul_lt4 (a := t * t) (b := 5 * (p * p)) (c := 5 * (q * q)) (d := u * u) (by omega) a1 (by omega) a2
      have := sum_pos (u := t * q) (v := u * p) (Int.mul_pos b1 b2) (by grind)
      omega
  · refine .inr ⟨?_, ?_⟩
    · have : (t * t - 5 * (p * p)) * (u * u - 5 * (q * q)) < 0 := Int.mul_neg_of_neg_of_pos (by omega) (by omega)
      omega
    · have k := mul_lt4 (a := 5 * (p * p)) (b := t * t) (c := u * u) (d := 5 * (q * q)) (by omega) a1 (by omega) a2
      have := sum_pos (u := u * p) (v := t * q) (Int.mul_pos b2 b1) (by grind)
      omega
  · refine .inl ⟨?_, ?_⟩
    · have : 0 < (t * t - 5 * (p * p)) * (u * u - 5 * (q * q)) := Int.mul_pos_of_neg_of_neg (by omega) (by omega)
      omega
    · have k := mul_lt4 (a := 5 * (p * p)) (b := t * t) (c := 5 * (q * q)) (d := u * u) (by omega) a1 (by omega) a2
      have hpq : 0 < 5 * (p * q) := by
        have := Int.mul_pos b1 b2
        omega
      have := sum_pos (u := 5 * (p * q)) (v := t * u) hpq (by grind)
      omega
theorem pos_not_neg {t p : Int} (h : Pos t p) : ¬ Pos (-t) (-p) := by
  have e1 : -t * -t = t * t := by grind
  have e2 : -p * -p = p * p := by grind
  unfold Pos at *
  rw [e1, e2]
  omega
theorem pos_tri (t p : Int) : Pos t p ∨ Pos (-t) (-p) ∨ (t = 0 ∧ p = 0) := by
  have e1 : -t * -t = t * t := by grind
  have e2 : -p * -p = p * p := by grind
  unfold Pos
  rw [e1, e2]
  have p0 := sq_nonneg p
  have t0 := sq_nonneg t
  rcases Int.lt_trichotomy (t * t) (5 * (p * p)) with h | h | h
  · have : p ≠ 0 := by rintro rfl; omega
    omega
  · exact .inr (.inr (irr h))
  · have : t ≠ 0 := by rintro rfl; omega
    omega
theorem pos_zero : ¬ Pos 0 0 := by unfold Pos; omega
/-- the sign -/
noncomputable def sg (t p : Int) : Int := open Classical in if Pos t p then 1 else if Pos (-t) (-p) then -1 else 0
theorem sg_pos {t p : Int} (h : Pos t p) : sg t p = 1 := by unfold sg; rw [if_pos h]
theorem sg_neg {t p : Int} (h : Pos (-t) (-p)) : sg t p = -1 := by
  unfold sg
  rw [if_neg (fun h' => pos_not_neg h' h), if_pos h]
theorem sg_zero : sg 0 0 = 0 := by
  unfold sg
  rw [if_neg pos_zero, if_neg (by simpa using pos_zero)]
theorem sg_eq_zero {t p : Int} (h : sg t p = 0) : t = 0 ∧ p = 0 := by
  rcases pos_tri t p with h' | h' | h'
  · rw [sg_pos h'] at h; omega
  · rw [sg_neg h'] at h; omega
  · exact h'
theorem sg_cases (t p : Int) : (sg t p = 1 ∧ Pos t p) ∨ (sg t p = -1 ∧ Pos (-t) (-p)) ∨ (sg t p = 0 ∧ t = 0 ∧ p = 0) := by
  rcases pos_tri t p with h | h | ⟨rfl, rfl⟩
  · exact .inl ⟨sg_pos h, h⟩
  · exact .inr (.inl ⟨sg_neg h, h⟩)
  · exact .inr (.inr ⟨sg_zero, rfl, rfl⟩)
theorem sg_opp (t p : Int) : sg (-t) (-p) = - sg t p := by
  rcases sg_cases t p with ⟨e, h⟩ | ⟨e, h⟩ | ⟨e, rfl, rfl⟩
  · rw [e, sg_neg (by simpa using h)]
  · rw [e, sg_pos h]; rfl
  · simp [sg_zero]
theorem sg_mul {t p u q T P : Int} (hT : 2 * T = t * u + 5 * (p * q)) (hP : 2 * P = t * q + u * p) : sg T P = sg t p * sg u q := by
  rcases sg_cases t p with ⟨e, h⟩ | ⟨e, h⟩ | ⟨e, rfl, rfl⟩ <;> rcases sg_cases u q with ⟨e', h'⟩ | ⟨e', h'⟩ | ⟨e', rfl, rfl⟩
  all_goals (try rw [e]); (try rw [e'])
  · exact sg_pos (pos_mul hT hP h h')
  · exact sg_neg (pos_mul (T := -T) (P := -P) (by grind) (by grind) h h')
  · obtain rfl : T = 0 := by grind
    obtain rfl : P = 0 := by grind
    exact sg_zero
  · exact sg_neg (pos_mul (T := -T) (P := -P) (by grind) (by grind) h h')
  · exact sg_pos (pos_mul (T := T) (P := P) (by grind) (by grind) h h')
  · obtain rfl : T = 0 := by grind
    obtain rfl : P = 0 := by grind
    exact sg_zero
  · obtain rfl : T = 0 := by grind
    obtain rfl : P = 0 := by grind
    exact sg_zero
  · obtain rfl : T = 0 := by grind
    obtain rfl : P = 0 := by grind
    exact sg_zero
  · obtain rfl : T = 0 := by grind
    obtain rfl : P = 0 := by grind
    exact sg_zero
/-- the sign of whole + part s -/
noncomputable def gs (a b : Int) : Int := sg (2 * a + b) b
theorem gs_opp (a b : Int) : gs (-a) (-b) = - gs a b := by
  unfold gs
  rw [← sg_opp]
  congr 1
  omega
theorem gs_mul (a b c d : Int) : gs (a * c + b * d) (a * d + b * c + b * d) = gs a b * gs c d := by
  unfold gs
  exact sg_mul (by grind) (by grind)
theorem gs_zero {a b : Int} (h : gs a b = 0) : a = 0 ∧ b = 0 := by
  have := sg_eq_zero h
  omega
theorem gs_00 : gs 0 0 = 0 := sg_zero
theorem gs_val (a b : Int) : gs a b = 1 ∨ gs a b = -1 ∨ gs a b = 0 := by
  rcases sg_cases (2 * a + b) b with ⟨e, _⟩ | ⟨e, _⟩ | ⟨e, _⟩
  · exact .inl e
  · exact .inr (.inl e)
  · exact .inr (.inr e)
theorem gs_sq (a b : Int) : gs (a * a + b * b) (a * b + b * a + b * b) = if a = 0 ∧ b = 0 then 0 else 1 := by
  rw [gs_mul]
  split
  · rename_i h
    rw [h.1, h.2, gs_00]; rfl
  · rename_i h
    rcases gs_val a b with e | e | e
    · rw [e]; rfl
    · rw [e]; rfl
    · exact absurd (gs_zero e) h
/-- the four ways of the program's sense_of -/
theorem gs_0 {a b : Int} (h1 : 2 * a + b = 0) (h2 : b = 0) : gs a b = 0 := by
  obtain rfl : b = 0 := h2
  obtain rfl : a = 0 := by omega
  exact gs_00
theorem gs_ge {a b : Int} (h : ¬ (2 * a + b = 0 ∧ b = 0)) (h1 : 0 ≤ 2 * a + b) (h2 : 0 ≤ b) : gs a b = 1 := by
  rcases sg_cases (2 * a + b) b with ⟨e, _⟩ | ⟨e, x⟩ | ⟨e, x⟩
  · exact e
  · unfold Pos at x; omega
  · exact absurd x h
theorem gs_le {a b : Int} (h : ¬ (2 * a + b = 0 ∧ b = 0)) (h1 : 2 * a + b ≤ 0) (h2 : b ≤ 0) : gs a b = -1 := by
  rcases sg_cases (2 * a + b) b with ⟨e, x⟩ | ⟨e, x⟩ | ⟨e, x⟩
  · unfold Pos at x; omega
  · exact e
  · exact absurd x h
theorem gs_mix {a b : Int} (h : ¬ (2 * a + b = 0 ∧ b = 0)) (h1 : ¬ (0 ≤ 2 * a + b ∧ 0 ≤ b)) (h2 : ¬ (2 * a + b ≤ 0 ∧ b ≤ 0)) :
    gs a b = if (decide ((2 * a + b) * (2 * a + b) > 5 * b * b) == decide (2 * a + b > 0)) = true then 1 else -1 := by
  have e5 : 5 * b * b = 5 * (b * b) := Int.mul_assoc _ _ _
  rw [e5]
  have hn : (2 * a + b) * (2 * a + b) ≠ 5 * (b * b) := fun q => h (irr q)
  have ee : -(2 * a + b) * -(2 * a + b) = (2 * a + b) * (2 * a + b) := by grind
  have eb : -b * -b = b * b := by grind
  rcases sg_cases (2 * a + b) b with ⟨e, x⟩ | ⟨e, x⟩ | ⟨e, x⟩
  · unfold gs
    rw [e]
    unfold Pos at x
    rw [if_pos]
    by_cases hg : 2 * a + b > 0 <;> by_cases hh : (2 * a + b) * (2 * a + b) > 5 * (b * b) <;> simp [hg, hh] <;> omega
  · unfold gs
    rw [e]
    unfold Pos at x
    rw [ee, eb] at x
    rw [if_neg]
    by_cases hg : 2 * a + b > 0 <;> by_cases hh : (2 * a + b) * (2 * a + b) > 5 * (b * b) <;> simp [hg, hh] <;> omega
  · exact absurd x h
/-- the law's own, by a root r of 5 b b -/
theorem sq_le {x y : Int} (h0 : 0 ≤ x) (h : x ≤ y) : x * x ≤ y * y := Int.mul_le_mul h h h0 (by omega)
theorem gs_root_pos {a b r : Int} (hb : 0 < b) (h0 : 0 ≤ r) (h1 : r * r ≤ 5 * b * b) (h2 : 5 * b * b < (r + 1) * (r + 1)) : gs a b = if 2 * a + b ≥ 0 - r then 1 else -1 := by
  rw [Int.mul_assoc] at h1 h2
  have hn : (2 * a + b) * (2 * a + b) ≠ 5 * (b * b) := fun q => by have := (irr q).2; omega
  have ee : -(2 * a + b) * -(2 * a + b) = (2 * a + b) * (2 * a + b) := by grind
  split
  · rename_i h
    unfold gs
    refine sg_pos ?_
    unfold Pos
    by_cases hp : 0 < 2 * a + b
    · rcases Int.lt_or_gt_of_ne hn with h' | h'
      · exact .inr ⟨h', hb⟩
      · exact .inl ⟨h', hp⟩
    · have := sq_le (x := -(2 * a + b)) (y := r) (by omega) (by omega)
      rw [ee] at this
      exact .inr ⟨by omega, hb⟩
  · rename_i h
    unfold gs
    refine sg_neg (.inl ⟨?_, by omega⟩)
    have := sq_le (x := r + 1) (y := -(2 * a + b)) (by omega) (by omega)
    have eb : -b * -b = b * b := by grind
    rw [eb]
    omega
theorem gs_root_neg {a b r : Int} (hb : b < 0) (h0 : 0 ≤ r) (h1 : r * r ≤ 5 * b * b) (h2 : 5 * b * b < (r + 1) * (r + 1)) : gs a b = if 2 * a + b > r then 1 else -1 := by
  rw [Int.mul_assoc] at h1 h2
  have hn : (2 * a + b) * (2 * a + b) ≠ 5 * (b * b) := fun q => by have := (irr q).2; omega
  have ee : -(2 * a + b) * -(2 * a + b) = (2 * a + b) * (2 * a + b) := by grind
  have eb : -b * -b = b * b := by grind
  split
  · rename_i h
    unfold gs
    have := sq_le (x := r + 1) (y := (2 * a + b)) (by omega) (by omega)
    exact sg_pos (.inl ⟨by omega, by omega⟩)
  · rename_i h
    unfold gs
    refine sg_neg ?_
    unfold Pos
    rw [ee, eb]
    by_cases hp : 0 < 2 * a + b
    · have := sq_le (x := (2 * a + b)) (y := r) (by omega) (by omega)
      exact .inr ⟨by omega, by omega⟩
    · rcases Int.lt_or_gt_of_ne hn with h' | h'
      · exact .inr ⟨h', by omega⟩
      · refine .inl ⟨h', ?_⟩
        have : 2 * a + b ≠ 0 := fun q => by rw [q] at h'; have := sq_nonneg b; omega
        omega
theorem gs_part0 (a : Int) : gs a 0 = (if 0 < a then 1 else 0) - (if a < 0 then 1 else 0) := by
  rcases Int.lt_trichotomy 0 a with h | h | h
  · rw [gs_ge (by omega) (by omega) (by omega), if_pos h, if_neg (by omega)]; rfl
  · subst h; rw [gs_00]; rfl
  · rw [gs_le (by omega) (by omega) (by omega), if_neg (by omega), if_pos h]; rfl
theorem norm_mul (a b c d : Int) : (a * c + b * d) * (a * c + b * d) + (a * c + b * d) * (a * d + b * c + b * d) - (a * d + b * c + b * d) * (a * d + b * c + b * d)
    = (a * a + a * b - b * b) * (c * c + c * d - d * d) := by grind
/-- the same by tests, for the walk -/
def gsI (a b : Int) : Int := if 2 * a + b = 0 ∧ b = 0 then 0 else if 0 ≤ 2 * a + b ∧ 0 ≤ b then 1 else if 2 * a + b ≤ 0 ∧ b ≤ 0 then -1
  else if (decide ((2 * a + b) * (2 * a + b) > 5 * b * b) == decide (2 * a + b > 0)) = true then 1 else -1
theorem gsI_eq (a b : Int) : gsI a b = gs a b := by
  unfold gsI
  split
  · rename_i h; exact (gs_0 h.1 h.2).symm
  · rename_i h
    split
    · rename_i h1; exact (gs_ge h h1.1 h1.2).symm
    · rename_i h1
      split
      · rename_i h2; exact (gs_le h h2.1 h2.2).symm
      · rename_i h2; exact (gs_mix h h1 h2).symm
end Gd
namespace Gd
theorem gsI_self (a b : Int) : gsI (a - a) (b - b) = 0 := by
  rw [Int.sub_self, Int.sub_self]; rfl
theorem cnt3 (a b c d : Int) : ([decide (0 < gsI (c - a) (d - b)), decide (0 < gsI (a - c) (b - d)), decide (a = c) && decide (b = d)].count true) = 1 := by
  have e : gsI (a - c) (b - d) = - gsI (c - a) (d - b) := by
    rw [gsI_eq, gsI_eq, ← gs_opp]
    congr 1 <;> omega
  rw [e, gsI_eq]
  rcases gs_val (c - a) (d - b) with h | h | h
  · have : ¬ (a = c ∧ b = d) := by
      rintro ⟨rfl, rfl⟩
      rw [Int.sub_self, Int.sub_self, gs_00] at h
      omega
    rw [h, ← Bool.decide_and, decide_eq_false this]
    decide
  · have : ¬ (a = c ∧ b = d) := by
      rintro ⟨rfl, rfl⟩
      rw [Int.sub_self, Int.sub_self, gs_00] at h
      omega
    rw [h, ← Bool.decide_and, decide_eq_false this]
    decide
  · have z := gs_zero h
    have : (a = c ∧ b = d) := by omega
    rw [h, ← Bool.decide_and, decide_eq_true this]
    decide
theorem less_sq (a b c d e f : Int) : decide (0 < gsI (c * (e * e + f * f) + d * (e * f + f * e + f * f) - (a * (e * e + f * f) + b * (e * f + f * e + f * f)))
    (c * (e * f + f * e + f * f) + d * (e * e + f * f) + d * (e * f + f * e + f * f) - (a * (e * f + f * e + f * f) + b * (e * e + f * f) + b * (e * f + f * e + f * f))))
    = (decide (0 < gsI (c - a) (d - b)) && (decide (e ≠ 0) || decide (f ≠ 0))) := by
  rw [gsI_eq, gsI_eq]
  have h := gs_mul (c - a) (d - b) (e * e + f * f) (e * f + f * e + f * f)
  rw [gs_sq] at h
  rw [show c * (e * e + f * f) + d * (e * f + f * e + f * f) - (a * (e * e + f * f) + b * (e * f + f * e + f * f)) = (c - a) * (e * e + f * f) + (d - b) * (e * f + f * e + f * f) by grind,
    show c * (e * f + f * e + f * f) + d * (e * e + f * f) + d * (e * f + f * e + f * f) - (a * (e * f + f * e + f * f) + b * (e * e + f * f) + b * (e * f + f * e + f * f)) = (c - a) * (e * f + f * e + f * f) + (d - b) * (e * e + f * f) + (d - b) * (e * f + f * e + f * f) by grind, h]
  by_cases z : e = 0 ∧ f = 0
  · rw [if_pos z, z.1, z.2]
    simp
  · rw [if_neg z, Int.mul_one]
    have : (decide (e ≠ 0) || decide (f ≠ 0)) = true := by
      by_cases z1 : e = 0 <;> by_cases z2 : f = 0 <;> simp_all
    rw [this, Bool.and_true]
theorem sense_mul (a b c d : Int) : gsI (a * c + b * d) (a * d + b * c + b * d) = gsI a b * gsI c d := by
  rw [gsI_eq, gsI_eq, gsI_eq, gs_mul]
end Gd

namespace Sk
open PySem L2 Ow
def top (i : Nat) : Stmt := PySem.Challenge.pw_underwords_k07_whole_products_and_letter.main.body.getD i (.Pass ⟨0, 0, 0, 0⟩)
abbrev s_is_within : Stmt := top 2
theorem sc_is_within : FnScope ["value", "least", "most"] ["value", "least", "most"] (defScope s_is_within) := ⟨rfl, rfl, rfl, by decide +kernel, rfl, by decide +kernel, by decide +kernel⟩
abbrev s_init : Stmt := inClass (top 13) 0
theorem sc_init : FnScope ["self", "letters", "bonds"] ["self", "letters", "bonds"] (defScope s_init) := ⟨rfl, rfl, rfl, by decide +kernel, rfl, by decide +kernel, by decide +kernel⟩
abbrev s_rows : Stmt := inClass (top 13) 1
theorem sc_rows : FnScope ["cls", "places"] ["cls", "places"] (defScope s_rows) := ⟨rfl, rfl, rfl, by decide +kernel, rfl, by decide +kernel, by decide +kernel⟩
abbrev s_signed : Stmt := inClass (top 13) 2
theorem sc_signed : FnScope ["cls", "places"] ["cls", "places"] (defScope s_signed) := ⟨rfl, rfl, rfl, by decide +kernel, rfl, by decide +kernel, by decide +kernel⟩
abbrev s_polygon : Stmt := inClass (top 13) 3
theorem sc_polygon : FnScope ["cls", "bond"] ["cls", "bond"] (defScope s_polygon) := ⟨rfl, rfl, rfl, by decide +kernel, rfl, by decide +kernel, by decide +kernel⟩
abbrev s_twenty : Stmt := inClass (top 13) 4
theorem sc_twenty : FnScope ["cls"] ["cls"] (defScope s_twenty) := ⟨rfl, rfl, rfl, by decide +kernel, rfl, by decide +kernel, by decide +kernel⟩
abbrev s_letters : Stmt := inClass (top 13) 6
theorem sc_letters : FnScope ["self"] ["self"] (defScope s_letters) := ⟨rfl, rfl, rfl, by decide +kernel, rfl, by decide +kernel, by decide +kernel⟩
abbrev s_bonds : Stmt := inClass (top 13) 7
theorem sc_bonds : FnScope ["self"] ["self"] (defScope s_bonds) := ⟨rfl, rfl, rfl, by decide +kernel, rfl, by decide +kernel, by decide +kernel⟩
abbrev s_bond_of : Stmt := inClass (top 13) 8
theorem sc_bond_of : FnScope ["self", "one", "other", "told", "low", "high", "bond"] ["self", "one", "other"] (defScope s_bond_of) := ⟨rfl, rfl, rfl, by decide +kernel, rfl, by decide +kernel, by decide +kernel⟩
abbrev s_neighbours : Stmt := top 14
theorem sc_neighbours : FnScope ["first", "letters", "letter"] ["first", "letters"] (defScope s_neighbours) := ⟨rfl, rfl, rfl, by decide +kernel, rfl, by decide +kernel, by decide +kernel⟩
abbrev s_are_bonds : Stmt := top 15
theorem sc_are_bonds : FnScope ["letters", "value", "triple", "pairs", "low", "high", "_", "one", "other"] ["letters", "value"] (defScope s_are_bonds) := ⟨rfl, rfl, rfl, by decide +kernel, rfl, by decide +kernel, by decide +kernel⟩
abbrev s_is_triple : Stmt := top 16
theorem sc_is_triple : FnScope ["letters", "value", "low", "high", "bond"] ["letters", "value"] (defScope s_is_triple) := ⟨rfl, rfl, rfl, by decide +kernel, rfl, by decide +kernel, by decide +kernel⟩
abbrev s_is_letter : Stmt := top 19
theorem sc_is_letter : FnScope ["system", "value"] ["system", "value"] (defScope s_is_letter) := ⟨rfl, rfl, rfl, by decide +kernel, rfl, by decide +kernel, by decide +kernel⟩
abbrev s_is_word : Stmt := top 20
theorem sc_is_word : FnScope ["system", "value", "letter"] ["system", "value"] (defScope s_is_word) := ⟨rfl, rfl, rfl, by decide +kernel, rfl, by decide +kernel, by decide +kernel⟩
abbrev s_check_system : Stmt := top 21
theorem sc_check_system : FnScope ["system"] ["system"] (defScope s_check_system) := ⟨rfl, rfl, rfl, by decide +kernel, rfl, by decide +kernel, by decide +kernel⟩
abbrev s_check_word : Stmt := top 22
theorem sc_check_word : FnScope ["system", "word"] ["system", "word"] (defScope s_check_word) := ⟨rfl, rfl, rfl, by decide +kernel, rfl, by decide +kernel, by decide +kernel⟩
abbrev s_check_words : Stmt := top 23
theorem sc_check_words : FnScope ["system", "words", "word"] ["system", "words"] (defScope s_check_words) := ⟨rfl, rfl, rfl, by decide +kernel, rfl, by decide +kernel, by decide +kernel⟩
abbrev s_sense_of : Stmt := top 25
theorem sc_sense_of : FnScope ["whole", "part", "twice", "is_twice_heavier"] ["whole", "part"] (defScope s_sense_of) := ⟨rfl, rfl, rfl, by decide +kernel, rfl, by decide +kernel, by decide +kernel⟩
abbrev s_factor : Stmt := top 28
theorem sc_factor : FnScope ["system", "one", "other", "low_high", "high_low"] ["system", "one", "other"] (defScope s_factor) := ⟨rfl, rfl, rfl, by decide +kernel, rfl, by decide +kernel, by decide +kernel⟩
abbrev s_other_letters : Stmt := top 29
theorem sc_other_letters : FnScope ["system", "letter", "other"] ["system", "letter"] (defScope s_other_letters) := ⟨rfl, rfl, rfl, by decide +kernel, rfl, by decide +kernel, by decide +kernel⟩
abbrev s_triples_from : Stmt := top 30
theorem sc_triples_from : FnScope ["system", "letter", "other"] ["system", "letter"] (defScope s_triples_from) := ⟨rfl, rfl, rfl, by decide +kernel, rfl, by decide +kernel, by decide +kernel⟩
abbrev s_without_zeros : Stmt := top 31
theorem sc_without_zeros : FnScope ["pairs", "other", "whole", "part"] ["pairs"] (defScope s_without_zeros) := ⟨rfl, rfl, rfl, by decide +kernel, rfl, by decide +kernel, by decide +kernel⟩
abbrev s_is_below : Stmt := top 32
theorem sc_is_below : FnScope ["number", "whole", "part"] ["number"] (defScope s_is_below) := ⟨rfl, rfl, rfl, by decide +kernel, rfl, by decide +kernel, by decide +kernel⟩
abbrev s_links_of : Stmt := top 34
theorem sc_links_of : FnScope ["system", "letter"] ["system"] (defScope s_links_of) := ⟨rfl, rfl, rfl, by decide +kernel, rfl, by decide +kernel, by decide +kernel⟩
abbrev s_first_state : Stmt := top 35
theorem sc_first_state : FnScope ["links", "_"] ["links"] (defScope s_first_state) := ⟨rfl, rfl, rfl, by decide +kernel, rfl, by decide +kernel, by decide +kernel⟩
abbrev s_put_ahead : Stmt := top 36
theorem sc_put_ahead : FnScope ["links", "state", "letter", "whole", "part", "numbers", "other", "more", "golden", "a", "b"] ["links", "state", "letter"] (defScope s_put_ahead) := ⟨rfl, rfl, rfl, by decide +kernel, rfl, by decide +kernel, by decide +kernel⟩
abbrev s_word_ahead : Stmt := top 37
theorem sc_word_ahead : FnScope ["links", "state", "word", "letter"] ["links", "state", "word"] (defScope s_word_ahead) := ⟨rfl, rfl, rfl, by decide +kernel, rfl, by decide +kernel, by decide +kernel⟩
abbrev s_state_of : Stmt := top 38
theorem sc_state_of : FnScope ["links", "word"] ["links", "word"] (defScope s_state_of) := ⟨rfl, rfl, rfl, by decide +kernel, rfl, by decide +kernel, by decide +kernel⟩
abbrev s_left_of : Stmt := top 39
theorem sc_left_of : FnScope ["state", "letter", "number"] ["state"] (defScope s_left_of) := ⟨rfl, rfl, rfl, by decide +kernel, rfl, by decide +kernel, by decide +kernel⟩
abbrev s_normal_of : Stmt := top 40
theorem sc_normal_of : FnScope ["links", "state", "word", "lefts"] ["links", "state"] (defScope s_normal_of) := ⟨rfl, rfl, rfl, by decide +kernel, rfl, by decide +kernel, by decide +kernel⟩
abbrev s_normal_word : Stmt := top 41
theorem sc_normal_word : FnScope ["links", "word"] ["links", "word"] (defScope s_normal_word) := ⟨rfl, rfl, rfl, by decide +kernel, rfl, by decide +kernel, by decide +kernel⟩
abbrev s_next_level_by : Stmt := top 42
theorem sc_next_level_by : FnScope ["links", "level", "letters", "found", "state", "letter", "longer", "least", "rest"] ["links", "level", "letters"] (defScope s_next_level_by) := ⟨rfl, rfl, rfl, by decide +kernel, rfl, by decide +kernel, by decide +kernel⟩
abbrev s_words_by : Stmt := top 43
theorem sc_words_by : FnScope ["links", "letters", "most", "level", "found"] ["links", "letters", "most"] (defScope s_words_by) := ⟨rfl, rfl, rfl, by decide +kernel, rfl, by decide +kernel, by decide +kernel⟩
abbrev s_normal : Stmt := top 47
theorem sc_normal : FnScope ["system", "word"] ["system", "word"] (defScope s_normal) := ⟨rfl, rfl, rfl, by decide +kernel, rfl, by decide +kernel, by decide +kernel⟩
abbrev s_length : Stmt := top 48
theorem sc_length : FnScope ["system", "word"] ["system", "word"] (defScope s_length) := ⟨rfl, rfl, rfl, by decide +kernel, rfl, by decide +kernel, by decide +kernel⟩
abbrev s_product : Stmt := top 49
theorem sc_product : FnScope ["system", "one", "other", "made"] ["system", "one", "other"] (defScope s_product) := ⟨rfl, rfl, rfl, by decide +kernel, rfl, by decide +kernel, by decide +kernel⟩
abbrev s_inverse : Stmt := top 50
theorem sc_inverse : FnScope ["system", "word"] ["system", "word"] (defScope s_inverse) := ⟨rfl, rfl, rfl, by decide +kernel, rfl, by decide +kernel, by decide +kernel⟩
abbrev s_left_letters : Stmt := top 51
theorem sc_left_letters : FnScope ["system", "word"] ["system", "word"] (defScope s_left_letters) := ⟨rfl, rfl, rfl, by decide +kernel, rfl, by decide +kernel, by decide +kernel⟩
abbrev s_right_letters : Stmt := top 52
theorem sc_right_letters : FnScope ["system", "word"] ["system", "word"] (defScope s_right_letters) := ⟨rfl, rfl, rfl, by decide +kernel, rfl, by decide +kernel, by decide +kernel⟩
abbrev s_members : Stmt := top 53
theorem sc_members : FnScope ["system", "found"] ["system"] (defScope s_members) := ⟨rfl, rfl, rfl, by decide +kernel, rfl, by decide +kernel, by decide +kernel⟩
abbrev s_l_vat : Stmt := top 55
theorem sc_l_vat : FnScope ["_law_script", "_law_spot", "_law_cell", "_law_great", "_law_start"] ["_law_script", "_law_spot"] (defScope s_l_vat) := ⟨rfl, rfl, rfl, by decide +kernel, rfl, by decide +kernel, by decide +kernel⟩
abbrev s_l_tap : Stmt := top 56
theorem sc_l_tap : FnScope ["_law_vat_here", "_law_total", "_law_found", "_law_one", "_law_two"] ["_law_vat_here", "_law_total"] (defScope s_l_tap) := ⟨rfl, rfl, rfl, by decide +kernel, rfl, by decide +kernel, by decide +kernel⟩
abbrev s_l_taste : Stmt := top 57
theorem sc_l_taste : FnScope ["_law_vat_here", "_law_items"] ["_law_vat_here", "_law_items"] (defScope s_l_taste) := ⟨rfl, rfl, rfl, by decide +kernel, rfl, by decide +kernel, by decide +kernel⟩
abbrev s_l_added : Stmt := top 58
theorem sc_l_added : FnScope ["_law_one", "_law_other"] ["_law_one", "_law_other"] (defScope s_l_added) := ⟨rfl, rfl, rfl, by decide +kernel, rfl, by decide +kernel, by decide +kernel⟩
abbrev s_l_times : Stmt := top 59
theorem sc_l_times : FnScope ["_law_one", "_law_other", "_law_both"] ["_law_one", "_law_other"] (defScope s_l_times) := ⟨rfl, rfl, rfl, by decide +kernel, rfl, by decide +kernel, by decide +kernel⟩
abbrev s_l_is_low : Stmt := top 60
theorem sc_l_is_low : FnScope ["_law_row", "_law_whole", "_law_part", "_law_twice"] ["_law_row"] (defScope s_l_is_low) := ⟨rfl, rfl, rfl, by decide +kernel, rfl, by decide +kernel, by decide +kernel⟩
abbrev s_l_factors : Stmt := top 61
theorem sc_l_factors : FnScope ["_law_letters", "_law_bonds", "_law_found", "_law_one", "_law_other", "_law_bond"] ["_law_letters", "_law_bonds"] (defScope s_l_factors) := ⟨rfl, rfl, rfl, by decide +kernel, rfl, by decide +kernel, by decide +kernel⟩
abbrev s_l_led : Stmt := top 62
theorem sc_l_led : FnScope ["_law_factors_here", "_law_letter", "_law_row", "_law_found", "_law_at", "_law_factor"] ["_law_factors_here", "_law_letter", "_law_row"] (defScope s_l_led) := ⟨rfl, rfl, rfl, by decide +kernel, rfl, by decide +kernel, by decide +kernel⟩
abbrev s_l_first : Stmt := top 63
theorem sc_l_first : FnScope ["_law_factors_here", "_law_to", "_law_at"] ["_law_factors_here"] (defScope s_l_first) := ⟨rfl, rfl, rfl, by decide +kernel, rfl, by decide +kernel, by decide +kernel⟩
abbrev s_l_behind : Stmt := top 64
theorem sc_l_behind : FnScope ["_law_factors_here", "_law_state_here", "_law_letter", "_law_row"] ["_law_factors_here", "_law_state_here", "_law_letter"] (defScope s_l_behind) := ⟨rfl, rfl, rfl, by decide +kernel, rfl, by decide +kernel, by decide +kernel⟩
abbrev s_l_ahead : Stmt := top 65
theorem sc_l_ahead : FnScope ["_law_factors_here", "_law_state_here", "_law_letter", "_law_found", "_law_at", "_law_row", "_law_factor", "_law_whole", "_law_part", "_law_one", "_law_two"] ["_law_factors_here", "_law_state_here", "_law_letter"] (defScope s_l_ahead) := ⟨rfl, rfl, rfl, by decide +kernel, rfl, by decide +kernel, by decide +kernel⟩
abbrev s_l_state : Stmt := top 66
theorem sc_l_state : FnScope ["_law_factors_here", "_law_word_here", "_law_found", "_law_letter"] ["_law_factors_here", "_law_word_here"] (defScope s_l_state) := ⟨rfl, rfl, rfl, by decide +kernel, rfl, by decide +kernel, by decide +kernel⟩
abbrev s_l_lefts : Stmt := top 67
theorem sc_l_lefts : FnScope ["_law_state_here", "_law_letter", "_law_row"] ["_law_state_here"] (defScope s_l_lefts) := ⟨rfl, rfl, rfl, by decide +kernel, rfl, by decide +kernel, by decide +kernel⟩
abbrev s_l_normal : Stmt := top 68
theorem sc_l_normal : FnScope ["_law_factors_here", "_law_state_here", "_law_found", "_law_left"] ["_law_factors_here", "_law_state_here"] (defScope s_l_normal) := ⟨rfl, rfl, rfl, by decide +kernel, rfl, by decide +kernel, by decide +kernel⟩
abbrev s_l_told_systems : Stmt := top 69
theorem sc_l_told_systems : FnScope ["_law_found"] [] (defScope s_l_told_systems) := ⟨rfl, rfl, rfl, by decide +kernel, rfl, by decide +kernel, by decide +kernel⟩
abbrev s_l_system : Stmt := top 70
theorem sc_l_system : FnScope ["_law_vat_here", "_law_letters", "_law_found", "_law_one", "_law_other", "_law_bond"] ["_law_vat_here"] (defScope s_l_system) := ⟨rfl, rfl, rfl, by decide +kernel, rfl, by decide +kernel, by decide +kernel⟩
abbrev s_l_word : Stmt := top 71
theorem sc_l_word : FnScope ["_law_vat_here", "_law_letters", "_law_most", "_law_turn"] ["_law_vat_here", "_law_letters", "_law_most"] (defScope s_l_word) := ⟨rfl, rfl, rfl, by decide +kernel, rfl, by decide +kernel, by decide +kernel⟩
abbrev s_l_made : Stmt := top 72
theorem sc_l_made : FnScope ["_law_factors_here", "_law_word_here"] ["_law_factors_here", "_law_word_here"] (defScope s_l_made) := ⟨rfl, rfl, rfl, by decide +kernel, rfl, by decide +kernel, by decide +kernel⟩
abbrev s_l_letters_right : Stmt := top 73
theorem sc_l_letters_right : FnScope ["_law_system_here", "_law_factors_here", "_law_word_here", "_law_due", "_law_size", "_law_letter", "_law_step"] ["_law_system_here", "_law_factors_here", "_law_word_here"] (defScope s_l_letters_right) := ⟨rfl, rfl, rfl, by decide +kernel, rfl, by decide +kernel, by decide +kernel⟩
abbrev s_l_right : Stmt := top 74
theorem sc_l_right : FnScope ["_law_vat_here", "_law_letters", "_law_bonds", "_law_system_here", "_law_factors_here", "_law_one", "_law_other", "_law_third", "_law_most", "_law_told", "_law_later", "_law_back", "_law_size"] ["_law_vat_here"] (defScope s_l_right) := ⟨rfl, rfl, rfl, by decide +kernel, rfl, by decide +kernel, by decide +kernel⟩
abbrev s_law : Stmt := top 75
theorem sc_law : FnScope ["_law_script", "_law_spot", "_law_vat_here", "_law_turn", "_law_system_here", "_law_every", "_law_some", "_law_word_here", "_law_four"] ["_law_script"] (defScope s_law) := ⟨rfl, rfl, rfl, by decide +kernel, rfl, by decide +kernel, by decide +kernel⟩
def MDef (K : PySem.W.Frag) (mg : Str → Option Value) (x : Str) (st : Stmt) : Prop := ∃ f fd, Fun K x x st f fd ∧ mg x = some (.ref f)
def GM (K : PySem.W.Frag) (C : Addr) (m qual : Str) (st : Stmt) : Prop := ∃ f fd, Fun K m qual st f fd ∧ OM K C m f
def GP (K : PySem.W.Frag) (C : Addr) (m qual : Str) (st : Stmt) : Prop := ∃ p g fd, PropOf K C m p g ∧ Fun K m qual st g fd
/-- a built-in class that has nothing to do with C -/
structure TyO (K : PySem.W.Frag) (C : Addr) (T : String) : Prop where
  sub : PySem.W.subIn K (.type T) (.ref C) = some false
  kit : PySem.W.kitOne K (.type T) (.ref C) = some false
def CG (K : PySem.W.Frag) (C : Addr) (m qual : Str) (st : Stmt) : Prop := ∃ p g fd, ClX.CMet K C (.type "type") m p g ∧ Fun K m qual st g fd
/-! data: rows of ints, rows of these -/
theorem upd_upd {H : Hp} {p : Addr} {a b : HO} : upd (upd H p a) p b = upd H p b := by
  funext q
  unfold upd
  by_cases h : q = p
  · rw [if_pos h, if_pos h]
  · rw [if_neg h, if_neg h, if_neg h]
theorem same_new {H : Hp} {p : Addr} {o : HO} (n : H p = none) : Same H (upd H p o) := fun q u e => by rw [upd_ne (ne_of_none e n)]; exact e
theorem sqT_same {K : PySem.W.Frag} {H H' : Hp} {a : Addr} {xs : List V} (s : Same H H') (h : SqT K H a xs) : SqT K H' a xs := SqT.ext h s
/-- a tuple of ints -/
def TI (K : PySem.W.Frag) (H : Hp) (v : V) (ns : List Int) : Prop := ∃ a, v = .ref a ∧ SqT K H a (ns.map V.int)
theorem TI.same {K : PySem.W.Frag} {H H' : Hp} {v : V} {ns : List Int} (h : TI K H v ns) (s : Same H H') : TI K H' v ns := h.elim fun a ⟨e, q⟩ => ⟨a, e, sqT_same s q⟩
def TIs (K : PySem.W.Frag) (H : Hp) : List V → List (List Int) → Prop
  | [], [] => True
  | x :: xs, n :: ns => TI K H x n ∧ TIs K H xs ns
  | _, _ => False
theorem TIs.same {K : PySem.W.Frag} {H H' : Hp} (s : Same H H') : ∀ {xs : List V} {ns : List (List Int)}, TIs K H xs ns → TIs K H' xs ns
  | [], [], _ => trivial
  | _ :: _, _ :: _, h => ⟨h.1.same s, TIs.same s h.2⟩
theorem TIs.len {K : PySem.W.Frag} {H : Hp} : ∀ {xs : List V} {ns : List (List Int)}, TIs K H xs ns → xs.length = ns.length
  | [], [], _ => rfl
  | _ :: _, _ :: _, h => congrArg Nat.succ (TIs.len h.2)
theorem TIs.get {K : PySem.W.Frag} {H : Hp} : ∀ {xs : List V} {ns : List (List Int)} {i : Nat} {x : V}, TIs K H xs ns → xs[i]? = some x → ∃ n, ns[i]? = some n ∧ TI K H x n
  | x :: xs, n :: ns, 0, y, h, e => ⟨n, rfl, (show x = y by simpa using e) ▸ h.1⟩
  | x :: xs, n :: ns, i + 1, y, h, e => (TIs.get (xs := xs) (ns := ns) (i := i) h.2 (by simpa using e)).elim fun m z => ⟨m, by simpa using z.1, z.2⟩
  | [], [], i, y, _, e => by simp at e
theorem TIs.snoc {K : PySem.W.Frag} {H : Hp} : ∀ {xs : List V} {ns : List (List Int)} {x : V} {n : List Int}, TIs K H xs ns → TI K H x n → TIs K H (xs ++ [x]) (ns ++ [n])
  | [], [], _, _, _, h => ⟨h, trivial⟩
  | _ :: _, _ :: _, _, _, h, k => ⟨h.1, TIs.snoc h.2 k⟩
/-- a tuple of tuples of ints -/
def BsAt (K : PySem.W.Frag) (H : Hp) (v : V) (bs : List (List Int)) : Prop := ∃ a xs, v = .ref a ∧ SqT K H a xs ∧ TIs K H xs bs
theorem BsAt.same {K : PySem.W.Frag} {H H' : Hp} {v : V} {bs : List (List Int)} (h : BsAt K H v bs) (s : Same H H') : BsAt K H' v bs := h.elim fun a ⟨xs, e, q, t⟩ => ⟨a, xs, e, sqT_same s q, t.same s⟩
/-- the two golds of a bond, each as its two whole numbers -/
def facT (b : Int) : List (List Int) := if b = 0 then [[2, 0], [2, 0]] else if b = 3 then [[1, 0], [1, 0]] else if b = 4 then [[1, 0], [2, 0]] else if b = 5 then [[0, 1], [0, 1]] else if b = 6 then [[1, 0], [3, 0]] else [[0, 0], [0, 0]]
structure Txt (K : PySem.W.Frag) (mg : Str → Option Value) (C : Addr) : Prop where
  cl : Cls K C
  ic : C8.InsC K C
  mgSystem : mg "System" = some (.ref C)
  nL : NoAttr K C "_letters"
  nB : NoAttr K C "_bonds"
  mkS : ∃ f fd e, Mk K C f ∧ FunD K "__init__" "System.__init__" (defArgs s_init) (defBody s_init) (defScope s_init) [.ref e] [] f fd ∧ ∀ H, SqT K H e []
  gB : ∃ a, mg "BONDS" = some (.ref a) ∧ ∀ H, SqT K H a [.int 0, .int 2, .int 3, .int 4, .int 5, .int 6]
  gF : ∃ d es n, mg "FACTORS" = some (.ref d) ∧ K.lookup d = some ⟨.type "dict", none, .dict es n, #[]⟩ ∧ IntKeys es ∧ ∀ b : Int, (b = 0 ∨ b = 2 ∨ b = 3 ∨ b = 4 ∨ b = 5 ∨ b = 6) → ∃ a, findBy Value.isInt es b = some (.ref a) ∧ ∀ H, BsAt K H (.ref a) (facT b)
  crd : ClX.CRead K C (.type "type")
  cRows : CG K C "rows" "System.rows" s_rows
  pL : GP K C "letters" "System.letters" s_letters
  mBond : GM K C "bond_of" "System.bond_of" s_bond_of
  cSigned : CG K C "signed" "System.signed" s_signed
  cPolygon : CG K C "polygon" "System.polygon" s_polygon
  cTwenty : CG K C "twenty" "System.twenty" s_twenty
  g_MAX_LETTERS : ∃ u, mg "MAX_LETTERS" = some u ∧ RelV (.int 4) u
  g_LONGEST_WORD : ∃ u, mg "LONGEST_WORD" = some u ∧ RelV (.int 40) u
  g_MAX_WORD : ∃ u, mg "MAX_WORD" = some u ∧ RelV (.int 40) u
  g_MAX_MEMBERS : ∃ u, mg "MAX_MEMBERS" = some u ∧ RelV (.int 120) u
  d_is_within : MDef K mg "is_within" s_is_within
  d_neighbours : MDef K mg "neighbours" s_neighbours
  d_are_bonds : MDef K mg "are_bonds" s_are_bonds
  d_is_triple : MDef K mg "is_triple" s_is_triple
  d_is_letter : MDef K mg "is_letter" s_is_letter
  d_is_word : MDef K mg "is_word" s_is_word
  d_check_system : MDef K mg "check_system" s_check_system
  d_check_word : MDef K mg "check_word" s_check_word
  d_check_words : MDef K mg "check_words" s_check_words
  d_sense_of : MDef K mg "sense_of" s_sense_of
  d_factor : MDef K mg "factor" s_factor
  d_other_letters : MDef K mg "other_letters" s_other_letters
  d_triples_from : MDef K mg "triples_from" s_triples_from
  d_without_zeros : MDef K mg "without_zeros" s_without_zeros
  d_is_below : MDef K mg "is_below" s_is_below
  d_links_of : MDef K mg "links_of" s_links_of
  d_first_state : MDef K mg "first_state" s_first_state
  d_put_ahead : MDef K mg "put_ahead" s_put_ahead
  d_word_ahead : MDef K mg "word_ahead" s_word_ahead
  d_state_of : MDef K mg "state_of" s_state_of
  d_left_of : MDef K mg "left_of" s_left_of
  d_normal_of : MDef K mg "normal_of" s_normal_of
  d_normal_word : MDef K mg "normal_word" s_normal_word
  d_next_level_by : MDef K mg "next_level_by" s_next_level_by
  d_words_by : MDef K mg "words_by" s_words_by
  d_normal : MDef K mg "normal" s_normal
  d_length : MDef K mg "length" s_length
  d_product : MDef K mg "product" s_product
  d_inverse : MDef K mg "inverse" s_inverse
  d_left_letters : MDef K mg "left_letters" s_left_letters
  d_right_letters : MDef K mg "right_letters" s_right_letters
  d_members : MDef K mg "members" s_members
  d_l_vat : MDef K mg "_law_vat" s_l_vat
  d_l_tap : MDef K mg "_law_tap" s_l_tap
  d_l_taste : MDef K mg "_law_taste" s_l_taste
  d_l_added : MDef K mg "_law_added" s_l_added
  d_l_times : MDef K mg "_law_times" s_l_times
  d_l_is_low : MDef K mg "_law_is_low" s_l_is_low
  d_l_factors : MDef K mg "_law_factors" s_l_factors
  d_l_led : MDef K mg "_law_led" s_l_led
  d_l_first : MDef K mg "_law_first" s_l_first
  d_l_behind : MDef K mg "_law_behind" s_l_behind
  d_l_ahead : MDef K mg "_law_ahead" s_l_ahead
  d_l_state : MDef K mg "_law_state" s_l_state
  d_l_lefts : MDef K mg "_law_lefts" s_l_lefts
  d_l_normal : MDef K mg "_law_normal" s_l_normal
  d_l_told_systems : MDef K mg "_law_told_systems" s_l_told_systems
  d_l_system : MDef K mg "_law_system" s_l_system
  d_l_word : MDef K mg "_law_word" s_l_word
  d_l_made : MDef K mg "_law_made" s_l_made
  d_l_letters_right : MDef K mg "_law_letters_right" s_l_letters_right
  d_l_right : MDef K mg "_law_right" s_l_right
  b_list : mg "list" = none
  b_sorted : mg "sorted" = none
  b_isinstance : mg "isinstance" = none
  b_int : mg "int" = none
  b_bool : mg "bool" = none
  b_tuple : mg "tuple" = none
  b_len : mg "len" = none
  b_abs : mg "abs" = none
  b_max : mg "max" = none
  b_min : mg "min" = none
  b_sum : mg "sum" = none
  b_all : mg "all" = none
  b_zip : mg "zip" = none
  b_range : mg "range" = none
  b_enumerate : mg "enumerate" = none
theorem MDef.cal {P : Program} {w : World} {K : PySem.W.Frag} {mg : Str → Option Value} {base : Heap} {x : Str} {st : Stmt} {k : Nat} {ps : List Str} {sp : Sp} (D : MDef K mg x st)
    (F : ∀ f fd, Fun K x x st f fd → FnOk P w K mg base CX0 k f fd ps sp)
    (h : ∀ (kV doc pm : Value) (an : Option Addr) (cdv ct : Value) (us : List Value), us.length = ps.length → bindArgs (PySem.W.fnOf x x (defArgs st) (defBody st) (defScope st) .none kV doc pm an cdv ct) ⟨us, []⟩ = pure (ps.zip us)) : Cal P w K mg base x k sp := by
  obtain ⟨f, fd, D, m⟩ := D
  exact ⟨⟨f, fd, ps, F f fd D, m, D.kp, D.binds h⟩⟩

def dT (ns : List Int) : PyData := .tuple (ns.map PyData.int)
def dB (bs : List (List Int)) : PyData := .tuple (bs.map dT)
theorem dInts {K : PySem.W.Frag} {H : Hp} : ∀ ns : List Int, DpAll K H (ns.map V.int) (ns.map PyData.int)
  | [] => .nil
  | n :: ns => .cons (.int n) (dInts ns)
theorem TI.dp {K : PySem.W.Frag} {H : Hp} {v : V} {ns : List Int} (h : TI K H v ns) : Dp K H v (dT ns) := by
  obtain ⟨a, rfl, q⟩ := h
  exact .tup q (dInts ns)
theorem TIs.dp {K : PySem.W.Frag} {H : Hp} : ∀ {xs : List V} {ns : List (List Int)}, TIs K H xs ns → DpAll K H xs (ns.map dT)
  | [], [], _ => .nil
  | _ :: _, _ :: _, h => .cons h.1.dp (TIs.dp h.2)
theorem BsAt.dp {K : PySem.W.Frag} {H : Hp} {v : V} {bs : List (List Int)} (h : BsAt K H v bs) : Dp K H v (dB bs) := by
  obtain ⟨a, xs, rfl, q, t⟩ := h
  exact .tup q t.dp
theorem lay_ints : ∀ ns : List Int, PyData.canLayAll0 (ns.map PyData.int) = true
  | [] => by simp [PyData.canLayAll0]
  | n :: ns => by simp [PyData.canLayAll0, PyData.canLay0, lay_ints ns]
theorem lay_dT (ns : List Int) : (dT ns).canLay0 = true := by simp [dT, PyData.canLay0, lay_ints]
theorem lay_dTs : ∀ bs : List (List Int), PyData.canLayAll0 (bs.map dT) = true
  | [] => by simp [PyData.canLayAll0]
  | n :: ns => by simp [PyData.canLayAll0, lay_dT, lay_dTs ns]
theorem lay_dB (bs : List (List Int)) : (dB bs).canLay0 = true := by simp [dB, PyData.canLay0, lay_dTs]
theorem dep_ints : ∀ ns : List Int, PyData.depthAll (ns.map PyData.int) ≤ 1
  | [] => by simp [PyData.depthAll]
  | n :: ns => by have := dep_ints ns; simp [PyData.depthAll, PyData.depth]; omega
theorem dep_dT (ns : List Int) : (dT ns).depth ≤ 2 := by have := dep_ints ns; simp [dT, PyData.depth]; omega
theorem dep_dTs : ∀ bs : List (List Int), PyData.depthAll (bs.map dT) ≤ 3
  | [] => by simp [PyData.depthAll]
  | n :: ns => by have := dep_dTs ns; have := dep_dT n; simp [PyData.depthAll]; omega
theorem dep_dB (bs : List (List Int)) : (dB bs).depth ≤ 4 := by have := dep_dTs bs; simp [dB, PyData.depth]; omega
theorem sh_dT (ns : List Int) : SeqAt.shaped (dT ns) = true := by
  unfold SeqAt.shaped
  rw [lay_dT, decide_eq_true (Nat.le_trans (dep_dT ns) (by decide))]
  rfl
theorem sh_dB (bs : List (List Int)) : SeqAt.shaped (dB bs) = true := by
  unfold SeqAt.shaped
  rw [lay_dB, decide_eq_true (Nat.le_trans (dep_dB bs) (by decide))]
  rfl
/-! systems, in numbers -/
def trOk (n : Int) (t : List Int) : Prop := ∃ l h b, t = [l, h, b] ∧ 0 ≤ l ∧ l < h ∧ h < n ∧ (b = 0 ∨ b = 3 ∨ b = 4 ∨ b = 5 ∨ b = 6)
structure Valid (n : Int) (bs : List (List Int)) : Prop where
  lo : 1 ≤ n
  hi : n ≤ 4
  tr : ∀ t ∈ bs, trOk n t
  as : (bs.map (·.take 2)).Pairwise (fun p q => HT.lexLt p q = true)
  few : bs.length ≤ 20
def sf (n : Int) (bv : V) : List (Str × V) := putF "_bonds" bv (putF "_letters" (.int n) [])
theorem lb_ : ¬ (("_letters" : Str) = "_bonds") := by decide +kernel
theorem sf_l (n : Int) (bv : V) : (sf n bv).lookup ("_letters" : Str) = some (.int n) := by
  unfold sf
  rw [lookup_putF, if_neg lb_, lookup_putF, if_pos rfl]
theorem sf_b (n : Int) (bv : V) : (sf n bv).lookup ("_bonds" : Str) = some bv := by
  unfold sf
  rw [lookup_putF, if_pos rfl]
theorem sf_no (n : Int) (bv : V) {m : Str} (h1 : ¬ m = "_bonds") (h2 : ¬ m = "_letters") : (sf n bv).lookup m = none := by
  unfold sf
  rw [lookup_putF, if_neg h1, lookup_putF, if_neg h2]
  rfl
def SysAt (K : PySem.W.Frag) (C : Addr) (H : Hp) (p : Addr) (n : Int) (bv : V) (bs : List (List Int)) : Prop := (∃ dx, H p = some (.ins C dx (sf n bv))) ∧ BsAt K H bv bs
theorem SysAt.same {K : PySem.W.Frag} {C : Addr} {H H' : Hp} {p : Addr} {n : Int} {bv : V} {bs : List (List Int)} (g : SysAt K C H p n bv bs) (s : Same H H') : SysAt K C H' p n bv bs := ⟨g.1.elim fun dx h => ⟨dx, s _ _ h⟩, g.2.same s⟩
/-! promises -/
def spWithin : Sp := fun vs H Q _ => ∃ i lo hi : Int, vs = [.int i, .int lo, .int hi] ∧ Q (.bl (decide (lo ≤ i) && decide (i ≤ hi))) H
def spTriple (K : PySem.W.Frag) : Sp := fun vs H Q _ => ∃ (n : Int) (v : V) (t : List Int), vs = [.int n, v] ∧ TI K H v t ∧ trOk n t ∧ Q (.bl true) H
def spBonds (K : PySem.W.Frag) : Sp := fun vs H Q _ => ∃ (n : Int) (v : V) (bs : List (List Int)), vs = [.int n, v] ∧ BsAt K H v bs ∧ Valid n bs ∧ ∀ H' : Hp, Same H H' → Q (.bl true) H'
def spInit (K : PySem.W.Frag) (C : Addr) : Sp := fun vs H Q _ => ∃ (p dx : Addr) (n : Int) (bv : V) (bs : List (List Int)), vs = [.ref p, .int n, bv] ∧ BsAt K H bv bs ∧ Valid n bs ∧ H p = some (.ins C dx []) ∧
  ∀ H' : Hp, Same H H' → Q .non (upd H' p (.ins C dx (sf n bv)))
section
variable {P : Program} {w : World} {K : PySem.W.Frag} {mg : Str → Option Value} {base : Heap} {C : Addr}
theorem cal_is_within (T : Txt K mg C) : Cal P w K mg base "is_within" 1 spWithin := by
  refine T.d_is_within.cal (ps := ["value", "least", "most"]) (fun f fd D => ?_) (fun _ _ _ _ _ _ us hl => match us, hl with | [_, _, _], _ => rfl)
  refine D.ok sc_is_within (fun vs H Q E h => ?_) (fun cdv A outer s H vs Q E hr h => ?_)
  · obtain ⟨i, lo, hi, rfl, _⟩ := h
    rfl
  · obtain ⟨i, lo, hi, rfl, q⟩ := h
    refine ⟨_, (pss_one (ps_ret (pe_and (pe_callB call_isi (by rfl) T.b_isinstance (by decide +kernel) (pa_cons (pv 0) (pa_cons (pe_bltn (v := .ty "int") (by rfl) T.b_int (by decide +kernel) rfl) pa_nil))) (pe_and (pe_not (pe_callB call_isi (by rfl) T.b_isinstance (by decide +kernel) (pa_cons (pv 0) (pa_cons (pe_bltn (v := .ty "bool") (by rfl) T.b_bool (by decide +kernel) rfl) pa_nil)))) (pe_one (pe_chain op_le op_le (pv 1) (pv 0) (pv 2))))))), ?_⟩
    refine ⟨_, rfl, _, _, _, _, true, rfl, .ty "int", .base (.int i), kit_ty (by decide +kernel), _, rfl, iteT ?_⟩
    refine ⟨_, rfl, _, _, _, _, false, rfl, .ty "bool", .base (.int i), kit_ty (by decide +kernel), _, rfl, _, rfl, iteT ?_⟩
    refine ⟨_, rfl, _, rfl, _, _, rfl, rfl, _, rfl, ?_⟩
    by_cases h1 : lo ≤ i
    · rw [decide_eq_true h1] at *
      refine iteT ?_
      exact ⟨_, rfl, _, _, rfl, rfl, q⟩
    · rw [decide_eq_false h1] at *
      exact iteF q
theorem pe_bonds {X : Cx} {x : Str} {pos : Pos} {a : Addr} (hg : Gl X x) (hx : X.mg x = some (.ref a)) (hd : (x == ("__debug__" : Str)) = false := by decide) : PE X (.Name x pos) (tC (.ref a)) := pe_glob (v := .ref a) hg hx rfl hd
/-- within, told -/
theorem win {H : Hp} {Q : VK} {i lo hi : Int} (h1 : lo ≤ i) (h2 : i ≤ hi) (q : Q (.bl true) H) : ∃ a b c : Int, ([V.int i, V.int lo, V.int hi] : List V) = [.int a, .int b, .int c] ∧ Q (.bl (decide (b ≤ a) && decide (a ≤ c))) H :=
  ⟨_, _, _, rfl, by rw [decide_eq_true h1, decide_eq_true h2]; exact q⟩
/-- the type of a tuple that is read -/
theorem tup_ty {H : Hp} {a : Addr} {xs : List V} (h : SqT K H a xs) : TyX K H (.ref a) (.type "tuple") := by
  rcases h with (h | ⟨o, h⟩) | ⟨o, its, n, hk, hc, _⟩
  · exact .base (.tup h)
  · exact .fTuple h
  · exact .kTuple hk hc
theorem iteNT' {A B : Prop} {c : Bool} (e : c = true) (h : B) : if (!c) = true then A else B := by rw [e]; exact iteF h
theorem iteNT {A B : Prop} {c : Bool} (e : c = true) (h : B) : if (!c) = true then A else B := by rw [e]; exact iteF h
theorem cal_is_triple (T : Txt K mg C) : Cal P w K mg base "is_triple" 2 (spTriple K) := by
  refine T.d_is_triple.cal (ps := ["letters", "value"]) (fun f fd D => ?_) (fun _ _ _ _ _ _ us hl => match us, hl with | [_, _], _ => rfl)
  refine D.ok sc_is_triple (fun vs H Q E h => ?_) (fun cdv A outer s H vs Q E hr h => ?_)
  · obtain ⟨n, v, t, rfl, _⟩ := h
    rfl
  · obtain ⟨n, v, t, rfl, ⟨a, rfl, ht⟩, ⟨l, h, b, rfl, h0, h1, h2, h3⟩, q⟩ := h
    obtain ⟨aB, gB, sB⟩ := T.gB
    refine ⟨_, (pss_cons (ps_if (PW.pt (pw_or (pt_not (pt_val (pe_callB call_isi (by rfl) T.b_isinstance (by decide +kernel) (pa_cons (pv 1) (pa_cons (pe_bltn (v := .ty "tuple") (by rfl) T.b_tuple (by decide +kernel) rfl) pa_nil))))) (pw_or1 (pt_cmpR op_ne (pe_callB call_len_seq (by rfl) T.b_len (by decide +kernel) (pa_cons (pv 1) pa_nil)) pe_int (nomark _))))) (pss_one (ps_ret pe_bl)) pss_nil)
      (pss_cons (ps_asg (pv 1) (pg_tup (by rfl) (pgs_cons (pg_name (i := 2) sc_is_triple.nd rfl (Or.inl rfl)) (pgs_cons (pg_name (i := 3) sc_is_triple.nd rfl (Or.inl rfl)) (pgs_cons (pg_name (i := 4) sc_is_triple.nd rfl (Or.inl rfl)) pgs_nil)))))
      (pss_cons (ps_if (PW.pt (pw_or (pt_not (pt_val (pe_cal (cal_is_within T) (hr.mono (by decide)) (by rfl) (pa_cons (pv 2) (pa_cons pe_int (pa_cons (pe_op op_sub (pv 0) pe_int) pa_nil)))))) (pw_or1 (pt_not (pt_val (pe_cal (cal_is_within T) (hr.mono (by decide)) (by rfl) (pa_cons (pv 3) (pa_cons (pe_op op_add (pv 2) pe_int) (pa_cons (pe_op op_sub (pv 0) pe_int) pa_nil))))))))) (pss_one (ps_ret pe_bl)) pss_nil)
      (pss_one (ps_ret (pe_and (pe_cal (cal_is_within T) (hr.mono (by decide)) (by rfl) (pa_cons (pv 4) (pa_cons pe_int (pa_cons pe_int pa_nil)))) (pe_and (pe_cmpR op_ne (pv 4) pe_int (nomark _)) (pe_one (pe_cmpR op_in_seq (pv 4) (pe_bonds (by rfl) gB) (by rfl)))))))))), ?_⟩
    refine ⟨_, rfl, _, _, .type "tuple", _, true, rfl, .ty "tuple", tup_ty ht, kit_ty (by decide +kernel), _, rfl, iteF ?_⟩
    refine ⟨_, rfl, _, _, rfl, .inr ht, rfl, _, rfl, iteNS rfl ?_⟩
    refine ⟨_, rfl, _, _, rfl, ht, rfl, _, _, rfl, _, _, rfl, _, _, rfl, rfl, ?_⟩
    refine ⟨_, rfl, _, rfl, _, _, rfl, rfl, _, _, _, rfl, _, rfl, iteNT' (by rw [decide_eq_true h0, decide_eq_true (show l ≤ n - 1 by omega)]; rfl) ?_⟩
    refine ⟨_, rfl, _, rfl, _, _, rfl, rfl, _, rfl, _, _, rfl, rfl, _, _, _, rfl, _, rfl, iteNT' (by rw [decide_eq_true (show l + 1 ≤ h by omega), decide_eq_true (show h ≤ n - 1 by omega)]; rfl) ?_⟩
    have b6 : 0 ≤ b ∧ b ≤ 6 := by omega
    refine ⟨_, rfl, _, _, _, rfl, _, rfl, ite2 (fun _ => ?_) (fun z => absurd (show (decide (0 ≤ b) && decide (b ≤ 6)) = true by rw [decide_eq_true b6.1, decide_eq_true b6.2]; rfl) z)⟩
    refine ⟨_, rfl, rfl, _, rfl, ite2 (fun _ => ?_) (fun z => absurd (show (!decide (V.int b = V.int 2)) = true by rw [decide_eq_false (fun e => by have := V.int.inj e; omega)]; rfl) z)⟩
    refine ⟨_, rfl, _, _, rfl, .inr (sB H), rfl, rfl, ?_⟩
    have e : inV (.int b) [.int 0, .int 2, .int 3, .int 4, .int 5, .int 6] = true := by
      rcases h3 with rfl | rfl | rfl | rfl | rfl <;> rfl
    show Q (.bl (inV (.int b) [.int 0, .int 2, .int 3, .int 4, .int 5, .int 6])) H
    rw [e]
    exact q
end
end Sk

namespace Sk
open PySem L2 Ow
/-- all but the list at D as it was -/
def Off (D : Addr) (H H' : Hp) : Prop := ∀ q o, q ≠ D → H q = some o → H' q = some o
theorem Off.sqT {K : PySem.W.Frag} {D a : Addr} {H H' : Hp} {xs acc : List V} (o : Off D H H') (hD : H D = some (.lst acc)) (h : SqT K H a xs) : SqT K H' a xs := by
  have ne : ∀ u, H a = some u → u ≠ .lst acc → a ≠ D := fun u e d z => d (by rw [z, hD] at e; exact (Option.some.inj e).symm)
  rcases h with (h | ⟨u, h⟩) | h
  · exact .inl (.inl (o a _ (ne _ h (fun z => nomatch z)) h))
  · exact .inl (.inr ⟨u, o a _ (ne _ h (fun z => nomatch z)) h⟩)
  · exact .inr h
theorem Off.ti {K : PySem.W.Frag} {D : Addr} {H H' : Hp} {acc : List V} {v : V} {ns : List Int} (o : Off D H H') (hD : H D = some (.lst acc)) (h : TI K H v ns) : TI K H' v ns := h.elim fun a ⟨e, q⟩ => ⟨a, e, o.sqT hD q⟩
theorem Off.tis {K : PySem.W.Frag} {D : Addr} {H H' : Hp} {acc : List V} (o : Off D H H') (hD : H D = some (.lst acc)) : ∀ {xs : List V} {ns : List (List Int)}, TIs K H xs ns → TIs K H' xs ns
  | [], [], _ => trivial
  | _ :: _, _ :: _, h => ⟨o.ti hD h.1, o.tis hD h.2⟩
theorem Off.bs {K : PySem.W.Frag} {D : Addr} {H H' : Hp} {acc : List V} {v : V} {bs : List (List Int)} (o : Off D H H') (hD : H D = some (.lst acc)) (h : BsAt K H v bs) : BsAt K H' v bs := h.elim fun a ⟨xs, e, q, t⟩ => ⟨a, xs, e, o.sqT hD q, o.tis hD t⟩
theorem off_upd {D : Addr} {H : Hp} {u : HO} : Off D H (upd H D u) := fun q o n e => by rw [upd_ne n]; exact e
/-- a fresh list's address: what stood stands, through stores to it -/
theorem same_off {H0 H H' : Hp} {D : Addr} (n : H0 D = none) (s : Same H0 H) (o : Off D H H') : Same H0 H' := fun q u e => o q u (ne_of_none e n) (s q u e)
theorem take_snoc {α : Type} {xs : List α} {i : Nat} {x : α} (h : xs[i]? = some x) : xs.take (i + 1) = xs.take i ++ [x] := by
  obtain ⟨hl, e⟩ := List.getElem?_eq_some_iff.mp h
  rw [List.take_add_one, h]
  rfl
section
variable {P : Program} {w : World} {K : PySem.W.Frag} {mg : Str → Option Value} {base : Heap} {C : Addr}
theorem cal_are_bonds (T : Txt K mg C) : Cal P w K mg base "are_bonds" 3 (spBonds K) := by
  refine T.d_are_bonds.cal (ps := ["letters", "value"]) (fun f fd D => ?_) (fun _ _ _ _ _ _ us hl => match us, hl with | [_, _], _ => rfl)
  refine D.ok sc_are_bonds (fun vs H Q E h => ?_) (fun cdv A outer s H vs Q E hr h => ?_)
  · obtain ⟨n, v, bs, rfl, _⟩ := h
    rfl
  · obtain ⟨n, v, bs, rfl, ⟨a, xs, rfl, ha, hx⟩, va, k⟩ := h
    have hlen := hx.len
    have few := va.few
    refine ⟨_, (pss_cons (ps_if (PW.pt (pw_or (pt_not (pt_val (pe_callB call_isi (by rfl) T.b_isinstance (by decide +kernel) (pa_cons (pv 1) (pa_cons (pe_bltn (v := .ty "tuple") (by rfl) T.b_tuple (by decide +kernel) rfl) pa_nil))))) (pw_or1 (pt_not (pt_val (pe_callB (cr_all rfl) (by rfl) T.b_all (by decide +kernel) (pa_cons (pe_lc (own := [("triple", 2)]) (g := gName 2) (tt := tYes) rfl sc_are_bonds.nd (pi_tup (pv 1)) (blkOk_by (own := [("triple", 2)]) (N := ["letters", "value", "triple", "pairs", "low", "high", "_", "one", "other"]) (sc := defScope s_are_bonds) (by decide +kernel)) (fun _ _ _ _ _ => (pg_name (i := 2) sc_are_bonds.nd rfl (Or.inl rfl))) (fun _ _ _ _ _ => pts_nil) (fun _ _ _ _ _ => (pe_cal (cal_is_triple T) (hr.mono (by decide)) (by rfl) (pa_cons (pv 0) (pa_cons (pv 2) pa_nil))))) pa_nil))))))) (pss_one (ps_ret pe_bl)) pss_nil)
      (pss_cons (ps_setLc (i := 3) (own := [("low", 4), ("high", 5), ("_", 6)]) (g := gTup K 3 (gCons (gName 4) (gCons (gName 5) (gCons (gName 6) (gNil))))) (tt := tYes) rfl sc_are_bonds.nd rfl rfl (sw_true rfl rfl rfl (by decide +kernel)) (pi_tup (pv 1)) (blkOk_by (own := [("low", 4), ("high", 5), ("_", 6)]) (N := ["letters", "value", "triple", "pairs", "low", "high", "_", "one", "other"]) (sc := defScope s_are_bonds) (by decide +kernel)) (fun _ _ _ _ _ => (pg_tup (by rfl) (pgs_cons (pg_name (i := 4) sc_are_bonds.nd rfl (Or.inl rfl)) (pgs_cons (pg_name (i := 5) sc_are_bonds.nd rfl (Or.inl rfl)) (pgs_cons (pg_name (i := 6) sc_are_bonds.nd rfl (Or.inl rfl)) pgs_nil))))) (fun _ _ _ _ _ => pts_nil) (fun _ _ _ _ _ => (pe_tup (pa_cons (pv 4) (pa_cons (pv 5) pa_nil)))))
      (pss_one (ps_ret (pe_callB (cr_all rfl) (by rfl) T.b_all (by decide +kernel) (pa_cons (pe_lc (own := [("one", 7), ("other", 8)]) (g := gTup K 2 (gCons (gName 7) (gCons (gName 8) (gNil)))) (tt := tYes) rfl sc_are_bonds.nd (RZ.pi_zipA (by rfl) T.b_zip (pa_cons (pv 3) (pa_cons (pe_slice sl_list (pv 3) (po_some pe_int) po_none) pa_nil))) (blkOk_by (own := [("one", 7), ("other", 8)]) (N := ["letters", "value", "triple", "pairs", "low", "high", "_", "one", "other"]) (sc := defScope s_are_bonds) (by decide +kernel)) (fun _ _ _ _ _ => (pg_tup (by rfl) (pgs_cons (pg_name (i := 7) sc_are_bonds.nd rfl (Or.inl rfl)) (pgs_cons (pg_name (i := 8) sc_are_bonds.nd rfl (Or.inl rfl)) pgs_nil)))) (fun _ _ _ _ _ => pts_nil) (fun _ _ _ _ _ => (pe_cmpR (show OpR _ _ (rLtT K) from (op_ltT hr.units0)) (pv 7) (pv 8) (nomark _)))) pa_nil)))))), ?_⟩
    refine ⟨_, rfl, _, _, .type "tuple", _, true, rfl, .ty "tuple", tup_ty ha, kit_ty (by decide +kernel), _, rfl, iteF ?_⟩
    refine ⟨_, rfl, a, rfl, ⟨_, ha⟩, fun D nD => lc_tup (K := K) (a := a) (xs := xs) (fun i H' => Same H H' ∧ H' D = some (.lst ((List.replicate i true).map V.bl))) ⟨same_new nD, upd_same⟩ (fun i H' _ h => sqT_same h.1 ha) ?_ ?_⟩
    · rintro i x H2 hi ⟨s2, hD⟩
      obtain ⟨t, ht, tx⟩ := hx.get hi
      have ilt := (List.getElem?_eq_some_iff.mp hi).1
      refine ⟨rfl, _, rfl, _, rfl, n, x, t, rfl, tx.same s2, va.tr t (List.mem_of_getElem? ht), _, hD, ?_, same_off nD s2 off_upd, ?_⟩
      · rw [List.length_map, List.length_replicate]
        exact small1000 (by omega)
      · rw [upd_same, List.replicate_succ', List.map_append]
        rfl
    · rintro H2 ⟨s2, hD⟩
      refine ⟨_, _, rfl, .of hD, _, rfl, iteNT' (by simp) ?_⟩
      -- pairs
      refine ⟨_, rfl, a, rfl, ⟨_, sqT_same s2 ha⟩, fun D2 nD2 => lc_tup (K := K) (a := a) (xs := xs) (fun i H' => Same H2 H' ∧ ∃ ys, H' D2 = some (.lst ys) ∧ TIs K H' ys ((bs.take i).map (·.take 2))) ⟨same_new nD2, [], upd_same, by simp [TIs]⟩ (fun i H' _ h => sqT_same (s2.trans h.1) ha) ?_ ?_⟩
      · rintro i x H3 hi ⟨s3, ys, hD2, hy⟩
        obtain ⟨t, ht, tx⟩ := hx.get hi
        have ilt := (List.getElem?_eq_some_iff.mp hi).1
        obtain ⟨b, rfl, hb⟩ := tx.same (s2.trans s3)
        obtain ⟨l, h, d, rfl, _⟩ := va.tr t (List.mem_of_getElem? ht)
        refine ⟨_, _, rfl, hb, rfl, _, _, rfl, _, _, rfl, _, _, rfl, rfl, rfl, _, rfl, _, rfl, show 2 ≤ sizeLine by decide, fun p np => ?_⟩
        have hD3 : (upd H3 p (.tup [.int l, .int h])) D2 = some (.lst ys) := same_new np _ _ hD2
        refine ⟨_, hD3, ?_, same_off nD2 (s3.trans (same_new np)) off_upd, _, upd_same, ?_⟩
        · have := hy.len
          rw [List.length_map, List.length_take] at this
          exact small1000 (by omega)
        · rw [take_snoc ht, List.map_append]
          exact (off_upd.tis hD3 (hy.same (same_new np))).snoc (off_upd.ti hD3 ⟨p, rfl, .of upd_same⟩)
      · rintro H3 ⟨s3, ys, hD2, hy⟩
        rw [hlen, List.take_length] at hy
        have yl := hy.len
        rw [List.length_map] at yl
        refine ⟨_, rfl, _, rfl, _, rfl, _, _, rfl, .of hD2, fun p np => ?_⟩
        have cut : cutV ys (some 1) none = ys.drop 1 := by
          show (ys.drop (HT.sIx ys.length 0 (some ((1 : Nat) : Int)))).take (ys.length - HT.sIx ys.length 0 (some ((1 : Nat) : Int))) = ys.drop 1
          rw [HT.sIx_nat]
          rcases ys with _ | ⟨y, ys⟩
          · rfl
          · rw [Nat.min_eq_left (by simp)]
            simp
        have hz := walk_zip (K := K) (a := D2) (b := p) (xs := ys) (ys := ys.drop 1) (n := ys.length - 1) (by rw [List.length_drop]; omega)
        rw [cut]
        have hD4 : (upd H3 p (.lst (ys.drop 1))) D2 = some (.lst ys) := same_new np _ _ hD2
        refine ⟨_, _, _, _, rfl, .inl ⟨.of hD4, .of upd_same, fun D3 nD3 => lc_it hz (fun i H' => Same (upd H3 p (.lst (ys.drop 1))) H' ∧ H' D3 = some (.lst ((List.replicate i true).map V.bl))) ⟨same_new nD3, upd_same⟩ (fun i H' _ h => ⟨.of (h.1 _ _ hD4), .of (h.1 _ _ upd_same)⟩) ?_ ?_⟩⟩
        · rintro i x H4 H5 hi ⟨s4, hD5⟩ ⟨q, x1, x2, rfl, nq, rfl, e1, e2⟩
          have e2' : ys[i + 1]? = some x2 := by
            have e2b : (List.drop 1 ys)[i]? = some x2 := e2
            rw [List.getElem?_drop] at e2b
            rw [Nat.add_comm]
            exact e2b
          obtain ⟨t1, g1, y1⟩ := hy.get e1
          obtain ⟨t2, g2, y2⟩ := hy.get e2'
          have s5 : Same H3 (upd H4 q (.tup [x1, x2])) := (same_new np).trans (s4.trans (same_new nq))
          obtain ⟨a1, rfl, z1⟩ := y1.same s5
          obtain ⟨a2, rfl, z2⟩ := y2.same s5
          have lt : HT.lexLt t1 t2 = true := by
            obtain ⟨l1, e1⟩ := List.getElem?_eq_some_iff.mp g1
            obtain ⟨l2, e2⟩ := List.getElem?_eq_some_iff.mp g2
            have := List.pairwise_iff_getElem.mp va.as i (i + 1) l1 l2 (by omega)
            rw [e1, e2] at this
            exact this
          refine ⟨_, _, rfl, .of upd_same, rfl, _, _, rfl, _, _, rfl, rfl, rfl, _, rfl, _, rfl, _, _, _, _, rfl, rfl, z1, z2, ?_⟩
          rw [lt]
          have hD6 := same_new (o := .tup [.ref a1, .ref a2]) nq _ _ hD5
          refine ⟨_, hD6, ?_, same_off nD3 (s4.trans (same_new nq)) off_upd, ?_⟩
          · rw [List.length_map, List.length_replicate]
            exact small1000 (by omega)
          · rw [upd_same, List.replicate_succ', List.map_append]
            rfl
        · rintro H4 ⟨s4, hD5⟩
          refine ⟨_, _, rfl, .of hD5, ?_⟩
          have e : (List.replicate (ys.length - 1) true).all id = true := by simp
          rw [e]
          exact k _ (s2.trans (s3.trans ((same_new np).trans s4)))
end
end Sk

namespace Sk
open PySem L2 Ow
/-! the bond of two letters, in numbers -/
def isPr (i j : Int) (t : List Int) : Bool := (t.take 2 == [i, j]) || (t.take 2 == [j, i])
def bondOf (bs : List (List Int)) (i j : Int) : Int := match bs.filter (isPr i j) with
  | [] => 2
  | t :: _ => t.getD 2 0
theorem eqv2 (a b c d : Int) : PyData.eqv (dT [a, b]) (dT [c, d]) = (([a, b] : List Int) == [c, d]) := by
  simp [dT, PyData.eqv, PyData.eqvAll]
section
variable {P : Program} {w : World} {K : PySem.W.Frag} {mg : Str → Option Value} {base : Heap} {C : Addr}
theorem ok_init (T : Txt K mg C) {f e : Addr} {fd : FuncData} (D : FunD K "__init__" "System.__init__" (defArgs s_init) (defBody s_init) (defScope s_init) [.ref e] [] f fd) : FnOk P w K mg base CX0 4 f fd ["self", "letters", "bonds"] (spInit K C) := by
  refine D.ok sc_init (fun vs H Q E h => ?_) (fun cdv A outer s H vs Q E hr h => ?_)
  · obtain ⟨p, dx, n, bv, bs, rfl, _⟩ := h
    rfl
  · obtain ⟨p, dx, n, bv, bs, rfl, hb, va, hp, q⟩ := h
    refine ⟨_, (pss_cons (ps_if (pt_not (pt_val (pe_cal (cal_is_within T) (hr.mono (by decide)) (by rfl) (pa_cons (pv 1) (pa_cons pe_int (pa_cons (C8.pe_gc (v := .int 4) (by rfl) T.g_MAX_LETTERS) pa_nil)))))) (pss_one ps_never) pss_nil)
      (pss_cons (ps_if (pt_not (pt_val (pe_cal (cal_are_bonds T) (hr.mono (by decide)) (by rfl) (pa_cons (pv 1) (pa_cons (pv 2) pa_nil))))) (pss_one ps_never) pss_nil)
      (pss_cons (ps_fld (pv 0) (pv 1) rfl)
      (pss_one (ps_fld (pv 0) (pv 2) rfl))))), ?_⟩
    refine ⟨_, rfl, _, _, _, rfl, _, rfl, iteNT' (by rw [decide_eq_true va.lo, decide_eq_true va.hi]; rfl) ?_⟩
    refine ⟨_, rfl, _, rfl, n, bv, bs, rfl, hb, va, fun H1 s1 => ⟨_, rfl, iteF ?_⟩⟩
    refine ⟨_, rfl, _, rfl, p, C, dx, [], rfl, s1 _ _ hp, T.cl, T.nL, (by decide), _, rfl, _, rfl, p, C, dx, _, rfl, upd_same, T.cl, T.nB, (show 1 < 1000 by decide), ?_⟩
    show Q .non (upd (upd H1 p _) p _)
    rw [upd_upd]
    exact q _ s1
/-- a new system -/
def NewS (K : PySem.W.Frag) (C : Addr) (H : Hp) (Q : VK) (n : Int) (bv : V) (bs : List (List Int)) : Prop := ∀ (r : Addr) (H' : Hp), Same H H' → H r = none → SysAt K C H' r n bv bs → Q (.ref r) H'
def tSys (K : PySem.W.Frag) (C : Addr) (t : TA) : TE := fun σ H Q => t σ H fun vs H1 => ∃ n bv bs, (vs = [.int n, bv] ∨ (vs = [.int n] ∧ bs = [] ∧ ∃ e, bv = .ref e)) ∧ (vs = [.int n, bv] → BsAt K H1 bv bs) ∧ Valid n bs ∧ ∀ bv, NewS K C H1 Q n bv bs
section
variable {X : Cx} {k : Nat} {e : Expr} {es : List Expr} {ta : TE} {t : TA} {p pos : Pos}
theorem run_sys {pins : List (Addr × Obj)} {σ : L2.St} {H1 : Hp} {s1 : Shared} {Q : VK} {us : List Value} {vs : List V} (T : Txt X.K X.mg C) (hr : Room 5 X.A) (I1 : Inv X pins σ H1 s1) (r : Vals vs us) {f fd e0} (M : Mk X.K C f) (D : FunD X.K "__init__" "System.__init__" (defArgs s_init) (defBody s_init) (defScope s_init) [.ref e0] [] f fd) (sE : ∀ H, SqT X.K H e0 [])
    (h : ∃ n bv bs, (vs = [.int n, bv] ∨ (vs = [.int n] ∧ bs = [] ∧ ∃ e, bv = .ref e)) ∧ (vs = [.int n, bv] → BsAt X.K H1 bv bs) ∧ Valid n bs ∧ ∀ bv, NewS X.K C H1 Q n bv bs) : wpAny (model X.prog X.w) X.A (call (.ref C) us) (EP X pins σ Q) X.xe s1 := by
  obtain ⟨n, bv, bs, hvs, hb, va, q⟩ := h
  have b2 : ∃ ds, Vals (([.ref e0] : List V).drop 1) ds ∧ Binds X.K fd ["self", "letters", "bonds"] ds := by
    refine D.binds1 3 1 (by simp) rfl fun T kV doc pm an cdv ct us its hl hi => ?_
    match us, hl, its, hi with
    | [_, _, _], _, [_], _ => exact ⟨_, rfl, rfl⟩
  have b1 : ∃ ds, Vals (([.ref e0] : List V).drop 0) ds ∧ Binds X.K fd ["self", "letters", "bonds"] ds := by
    refine D.binds1 2 0 (by simp) rfl fun T kV doc pm an cdv ct us its hl hi => ?_
    match us, hl, its, hi with
    | [_, _], _, [_], _ => exact ⟨_, rfl, rfl⟩
  obtain ⟨d2, v2, b2⟩ := b2
  obtain ⟨d1, v1, b1⟩ := b1
  have fin : ∀ bv, BsAt X.K H1 bv bs → ∀ x dx, H1 x = none → H1 dx = none → dx ≠ x → spInit X.K C [.ref x, .int n, bv] (upd (upd H1 dx (.own x)) x (.ins C dx [])) (fun v H2 => v = .non ∧ Q (.ref x) H2) E0 := fun bv hb x dx nx ndx ne => by
    have s0 : Same H1 (upd (upd H1 dx (.own x)) x (.ins C dx [])) := fun c o e => by
      rw [upd_ne (ne_of_none e nx), upd_ne (ne_of_none e ndx)]
      exact e
    refine ⟨x, dx, n, bv, bs, rfl, hb.same s0, va, upd_same, fun H' s' => ⟨rfl, ?_⟩⟩
    have sx : Same H1 (upd H' x (.ins C dx (sf n bv))) := fun c o e => by
      rw [upd_ne (ne_of_none e nx)]
      exact s' _ _ (s0 _ _ e)
    exact q bv x _ sx nx ⟨⟨dx, upd_same⟩, hb.same sx⟩
  rcases hvs with rfl | ⟨rfl, rfl, _⟩
  · exact run_make M (ok_init T D) hr b2 v2 pass0 I1 r (fin bv (hb rfl))
  · exact run_make M (ok_init T D) hr b1 v1 pass0 I1 r (fin (.ref e0) ⟨e0, [], rfl, sE _, trivial⟩)
theorem pe_sys (T : Txt X.K X.mg C) (hr : Room 5 X.A) (hg : Gl X "System") (ha : PA X (e :: es) t)
    (he : starEach (e :: es) X.env = (false, eval e X.env) :: starEach es X.env := by rfl) (hpl : (backTo pos (starEach es X.env)).any (·.1) = false := by rfl) : PE X (.Call (.Name "System" p) (e :: es) [] pos) (tSys X.K C t) := by
  obtain ⟨f, fd, e0, M, D, sE⟩ := T.mkS
  refine ⟨fun pins s σ H Q I h => ?_⟩
  refine wpAny_Call_Name_kw (ld_glob I hg T.mgSystem ?_ (by decide))
  refine PySem.W.callWith_K (h₀ := X.base) I.ok.mod.kin M.kp (thn (ha.run pos pins s σ H _ I h) fun us s1 ⟨vs, H1, I1, r, q⟩ => ⟨I1.kIn, run_sys T hr I1 r M D sE q⟩) he hpl
end
def spL (K : PySem.W.Frag) (C : Addr) : Sp := fun vs H Q _ => ∃ (p : Addr) (n : Int) (bv : V) (bs : List (List Int)), vs = [.ref p] ∧ SysAt K C H p n bv bs ∧ Q (.int n) H
def spB (K : PySem.W.Frag) (C : Addr) : Sp := fun vs H Q _ => ∃ (p : Addr) (n : Int) (bv : V) (bs : List (List Int)), vs = [.ref p] ∧ SysAt K C H p n bv bs ∧ Q bv H
def spBondOf (K : PySem.W.Frag) (C : Addr) : Sp := fun vs H Q _ => ∃ (p : Addr) (n : Int) (bv : V) (bs : List (List Int)) (i j : Int), vs = [.ref p, .int i, .int j] ∧ SysAt K C H p n bv bs ∧ Valid n bs ∧ 0 ≤ i ∧ i < n ∧ 0 ≤ j ∧ j < n ∧ i ≠ j ∧
  ∀ H' : Hp, Same H H' → Q (.int (bondOf bs i j)) H'
theorem ok_letters (T : Txt K mg C) {f : Addr} {fd : FuncData} (D : Fun K "letters" "System.letters" s_letters f fd) : FnOk P w K mg base CX0 1 f fd ["self"] (spL K C) := by
  refine D.ok sc_letters (fun vs H Q E h => ?_) (fun cdv A outer s H vs Q E hr h => ?_)
  · obtain ⟨p, n, bv, bs, rfl, _⟩ := h
    rfl
  · obtain ⟨p, n, bv, bs, rfl, ⟨⟨dx, g⟩, hb⟩, q⟩ := h
    exact ⟨_, (pss_one (ps_ret (pe_fld (pv 0) rfl))), _, rfl, _, _, _, _, _, rfl, g, T.cl, T.nL, sf_l _ _, q⟩
theorem ok_bond_of (T : Txt K mg C) {f : Addr} {fd : FuncData} (D : Fun K "bond_of" "System.bond_of" s_bond_of f fd) : FnOk P w K mg base CX0 2 f fd ["self", "one", "other"] (spBondOf K C) := by
  refine D.ok sc_bond_of (fun vs H Q E h => ?_) (fun cdv A outer s H vs Q E hr h => ?_)
  · obtain ⟨p, n, bv, bs, i, j, rfl, _⟩ := h
    rfl
  · obtain ⟨p, n, bv, bs, i, j, rfl, ⟨⟨dx, g⟩, hb⟩, va, i0, i1, j0, j1, ne, k⟩ := h
    refine ⟨_, (pss_cons (ps_if (pt_not (pt_val (pe_cal (cal_is_within T) (hr.mono (by decide)) (by rfl) (pa_cons (pv 1) (pa_cons pe_int (pa_cons (pe_op op_sub (pe_fld (pv 0) rfl) pe_int) pa_nil)))))) (pss_one ps_never) pss_nil)
      (pss_cons (ps_if (pt_not (pt_val (pe_cal (cal_is_within T) (hr.mono (by decide)) (by rfl) (pa_cons (pv 2) (pa_cons pe_int (pa_cons (pe_op op_sub (pe_fld (pv 0) rfl) pe_int) pa_nil)))))) (pss_one ps_never) pss_nil)
      (pss_cons (ps_if (pt_cmpR op_eq (pv 1) (pv 2) (nomark _)) (pss_one ps_never) pss_nil)
      (pss_cons (ps_setLc (i := 3) (own := [("low", 4), ("high", 5), ("bond", 6)]) (g := gTup K 3 (gCons (gName 4) (gCons (gName 5) (gCons (gName 6) (gNil))))) rfl sc_bond_of.nd rfl rfl (sw_true rfl rfl rfl (by decide +kernel)) (pi_tup (pe_fld (pv 0) rfl)) (blkOk_by (own := [("low", 4), ("high", 5), ("bond", 6)]) (N := ["self", "one", "other", "told", "low", "high", "bond"]) (sc := defScope s_bond_of) (by decide +kernel)) (fun _ _ _ _ _ => (pg_tup (by rfl) (pgs_cons (pg_name (i := 4) sc_bond_of.nd rfl (Or.inl rfl)) (pgs_cons (pg_name (i := 5) sc_bond_of.nd rfl (Or.inl rfl)) (pgs_cons (pg_name (i := 6) sc_bond_of.nd rfl (Or.inl rfl)) pgs_nil))))) (fun _ _ _ _ _ => (pts_one (pt_cmpR (show OpR _ _ (rInT K) from (op_inT (u65 hr))) (pe_tup (pa_cons (pv 4) (pa_cons (pv 5) pa_nil))) (pe_tup (pa_cons (pe_tup (pa_cons (pv 1) (pa_cons (pv 2) pa_nil))) (pa_cons (pe_tup (pa_cons (pv 2) (pa_cons (pv 1) pa_nil))) pa_nil))) (by rfl)))) (fun _ _ _ _ _ => (pv 6)))
      (pss_one (ps_ret (pe_ifExp (pt_truth (pv 3) (by intro _; rfl)) (pe_ix ix_list (pv 3) pe_int (fun _ _ => rfl)) pe_int))))))), ?_⟩
    refine ⟨_, rfl, _, rfl, _, _, _, _, _, rfl, g, T.cl, T.nL, sf_l _ _, _, _, rfl, rfl, _, _, _, rfl, _, rfl, iteNT' (by rw [decide_eq_true i0, decide_eq_true (show i ≤ n - 1 by omega)]; rfl) ?_⟩
    refine ⟨_, rfl, _, rfl, _, _, _, _, _, rfl, g, T.cl, T.nL, sf_l _ _, _, _, rfl, rfl, _, _, _, rfl, _, rfl, iteNT' (by rw [decide_eq_true j0, decide_eq_true (show j ≤ n - 1 by omega)]; rfl) ?_⟩
    refine ⟨_, rfl, _, rfl, rfl, _, rfl, ite2 (fun h => absurd (V.int.inj (of_decide_eq_true h)) ne) (fun _ => ?_)⟩
    obtain ⟨a, xs, rfl, ha, hx⟩ := hb
    have hlen := hx.len
    have few := va.few
    refine ⟨_, rfl, _, _, _, _, _, rfl, g, T.cl, T.nB, sf_b _ _, a, rfl, ⟨_, ha⟩, fun D nD => lc_tup (K := K) (a := a) (xs := xs) (fun m H' => Same H H' ∧ H' D = some (.lst (((bs.take m).filter (isPr i j)).map fun t => V.int (t.getD 2 0)))) ⟨same_new nD, upd_same⟩ (fun m H' _ h => sqT_same h.1 ha) ?_ ?_⟩
    · rintro m x H2 hm ⟨s2, hD⟩
      obtain ⟨t, ht, tx⟩ := hx.get hm
      have ilt := (List.getElem?_eq_some_iff.mp hm).1
      obtain ⟨b, rfl, hb⟩ := tx.same s2
      obtain ⟨l, h, d, rfl, _⟩ := va.tr t (List.mem_of_getElem? ht)
      refine ⟨_, _, rfl, hb, rfl, _, _, rfl, _, _, rfl, _, _, rfl, rfl, rfl, ?_⟩
      refine ⟨_, rfl, _, rfl, show 2 ≤ sizeLine by decide, fun p1 n1 => ?_⟩
      refine ⟨_, rfl, _, rfl, show 2 ≤ sizeLine by decide, fun p2 n2 => ?_⟩
      refine ⟨_, rfl, _, rfl, show 2 ≤ sizeLine by decide, fun p3 n3 => ?_⟩
      refine ⟨show 2 ≤ sizeLine by decide, fun p4 n4 => ?_⟩
      have S4 : Same H2 (upd (upd (upd (upd H2 p1 (.tup [.int l, .int h])) p2 (.tup [.int i, .int j])) p3 (.tup [.int j, .int i])) p4 (.tup [.ref p2, .ref p3])) := (same_new n1).trans ((same_new n2).trans ((same_new n3).trans (same_new n4)))
      have g1 : (upd (upd (upd (upd H2 p1 (.tup [.int l, .int h])) p2 (.tup [.int i, .int j])) p3 (.tup [.int j, .int i])) p4 (.tup [.ref p2, .ref p3])) p1 = some (.tup [.int l, .int h]) := same_new n4 _ _ (same_new n3 _ _ (same_new n2 _ _ upd_same))
      have g2 : (upd (upd (upd (upd H2 p1 (.tup [.int l, .int h])) p2 (.tup [.int i, .int j])) p3 (.tup [.int j, .int i])) p4 (.tup [.ref p2, .ref p3])) p2 = some (.tup [.int i, .int j]) := same_new n4 _ _ (same_new n3 _ _ upd_same)
      have g3 : (upd (upd (upd (upd H2 p1 (.tup [.int l, .int h])) p2 (.tup [.int i, .int j])) p3 (.tup [.int j, .int i])) p4 (.tup [.ref p2, .ref p3])) p3 = some (.tup [.int j, .int i]) := same_new n4 _ _ upd_same
      have g4 : (upd (upd (upd (upd H2 p1 (.tup [.int l, .int h])) p2 (.tup [.int i, .int j])) p3 (.tup [.int j, .int i])) p4 (.tup [.ref p2, .ref p3])) p4 = some (.tup [.ref p2, .ref p3]) := upd_same
      generalize (upd (upd (upd (upd H2 p1 (.tup [.int l, .int h])) p2 (.tup [.int i, .int j])) p3 (.tup [.int j, .int i])) p4 (.tup [.ref p2, .ref p3])) = H4 at S4 g1 g2 g3 g4
      have dz : ∀ {q : Addr} {u v : Int}, H4 q = some (.tup [.int u, .int v]) → Dp K H4 (.ref q) (dT [u, v]) := fun {q u v} g => TI.dp (ns := [u, v]) ⟨q, rfl, .of g⟩
      refine ⟨dT [l, h], [dT [i, j], dT [j, i]], dz g1, .tup (.of g4) (.cons (dz g2) (.cons (dz g3) .nil)), sh_dT _, sh_dB [[i, j], [j, i]], _, rfl, ?_⟩
      have hD4 := S4 _ _ hD
      have et : ([dT [i, j], dT [j, i]].any fun z => PyData.eqv z (dT [l, h])) = isPr i j [l, h, d] := by
        simp only [List.any_cons, List.any_nil, Bool.or_false, eqv2]
        unfold isPr
        rw [show ([l, h, d] : List Int).take 2 = [l, h] from rfl]
        congr 1 <;> exact Bool.beq_comm
      rw [et]
      refine ite2 (fun hp => ?_) (fun hp => ?_)
      · refine ⟨_, rfl, _, hD4, ?_, same_off nD (s2.trans S4) off_upd, ?_⟩
        · rw [List.length_map]
          have := List.length_filter_le (isPr i j) (bs.take m)
          rw [List.length_take] at this
          exact small1000 (by omega)
        · rw [upd_same, take_snoc ht, List.filter_append, List.map_append, List.filter_cons_of_pos hp]
          rfl
      · refine ⟨s2.trans S4, ?_⟩
        rw [take_snoc ht, List.filter_append, List.filter_cons_of_neg hp, List.filter_nil, List.append_nil]
        exact hD4
    · rintro H2 ⟨s2, hD⟩
      rw [hlen, List.take_length] at hD
      refine ⟨_, rfl, _, .inl ⟨_, .of hD, rfl⟩, ?_⟩
      have kk := k _ s2
      unfold bondOf at kk
      cases hf : bs.filter (isPr i j) with
      | nil =>
        rw [hf] at kk
        exact iteF kk
      | cons t ts =>
        rw [hf] at kk hD
        refine iteT ?_
        exact ⟨_, rfl, _, _, _, _, rfl, rfl, .of hD, at_of (j := 0) rfl rfl, kk⟩
end
end Sk

namespace Sk
open PySem L2 Ow
theorem szl {n : Nat} (h : n ≤ 1000) : n ≤ sizeLine := Nat.le_trans h (by decide)
abbrev Dat := Int × List (List Int)
def okB (d : Dat) : Bool := decide (1 ≤ d.1) && decide (d.1 ≤ 4) && d.2.all (fun t => match t with
  | [l, h, b] => decide (0 ≤ l) && decide (l < h) && decide (h < d.1) && (decide (b = 0) || decide (b = 3) || decide (b = 4) || decide (b = 5) || decide (b = 6))
  | _ => false) && decide ((d.2.map (·.take 2)).Pairwise (fun p q => HT.lexLt p q = true)) && decide (d.2.length ≤ 20)
theorem okB_valid {d : Dat} (h : okB d = true) : Valid d.1 d.2 := by
  unfold okB at h
  simp only [Bool.and_eq_true, decide_eq_true_eq, List.all_eq_true] at h
  obtain ⟨⟨⟨⟨h1, h2⟩, h3⟩, h4⟩, h5⟩ := h
  refine ⟨h1, h2, fun t ht => ?_, h4, h5⟩
  have := h3 t ht
  split at this
  · rename_i l hh b
    simp only [Bool.and_eq_true, Bool.or_eq_true, decide_eq_true_eq] at this
    exact ⟨l, hh, b, rfl, by omega, by omega, by omega, by omega⟩
  · cases this
def tSysL (K : PySem.W.Frag) (i : Nat) (C : Addr) (t : TA) : TE := fun σ H Q => σ[i]? = some (some (.ref C)) ∧ tSys K C t σ H Q
section
variable {X : Cx} {k i : Nat} {C : Addr} {e o : Expr} {es : List Expr} {ta : TE} {t : TA} {p pos apos : Pos} {x : Str}
theorem pe_cls (T : Txt X.K X.mg C) (hr : Room 5 X.A) (hN : X.N[i]? = some x) (hv : Vis X.env.scope x) (ha : PA X (e :: es) t)
    (hdb : (x == ("__debug__" : Str)) = false := by decide) (hcd : (x == ("__classdict__" : Str)) = false := by decide)
    (he : starEach (e :: es) X.env = (false, eval e X.env) :: starEach es X.env := by rfl) (hpl : (backTo pos (starEach es X.env)).any (·.1) = false := by rfl) : PE X (.Call (.Name x p) (e :: es) [] pos) (tSysL X.K i C t) := by
  obtain ⟨f, fd, e0, M, D, sE⟩ := T.mkS
  refine ⟨fun pins s σ H Q I h => ?_⟩
  obtain ⟨hs, ht⟩ := h
  refine wpAny_Call_Name_kw (thn ((pe_var (pos := p) hN hv hdb hcd).run pins s σ H (fun v H1 => v = .ref C ∧ H1 = H) I ⟨.ref C, hs, rfl, rfl⟩) fun u s1 ⟨v, H1, I1, r1, q1⟩ => ?_)
  obtain ⟨rfl, rfl⟩ := q1
  cases r1
  refine PySem.W.callWith_K (h₀ := X.base) I.ok.mod.kin M.kp (thn (ha.run pos pins s1 σ _ _ I1 ht) fun us s2 ⟨vs, H2, I2, r, q⟩ => ⟨I2.kIn, run_sys T hr I2 r M D sE q⟩) he hpl
def nb (a b : Int) : List (List Int) := (List.range (b - 1 - a).toNat).map fun i : Nat => [a + (i : Int), a + (i : Int) + 1, 3]
def rowsD (p : Int) : Dat := (p - 1, nb 0 (p - 1))
def NewD (K : PySem.W.Frag) (C : Addr) (H : Hp) (Q : VK) (d : Dat) : Prop := ∀ (r : Addr) (bv : V) (H' : Hp), Same H H' → H r = none → SysAt K C H' r d.1 bv d.2 → Q (.ref r) H'
def spC (K : PySem.W.Frag) (C : Addr) (dom : Int → Prop) (d : Int → Dat) : Sp := fun vs H Q _ => ∃ i, vs = [.ref C, .int i] ∧ dom i ∧ NewD K C H Q (d i)
def spNb (K : PySem.W.Frag) : Sp := fun vs H Q _ => ∃ a b, vs = [.int a, .int b] ∧ a ≤ 9 ∧ b ≤ 9 ∧ 0 ≤ a ∧ 0 ≤ b ∧ ∀ (v : V) (H' : Hp), Same H H' → BsAt K H' v (nb a b) → Q v H'
theorem NewD.sys {K : PySem.W.Frag} {H H1 : Hp} {Q : VK} {d : Dat} {n : Int} {bs : List (List Int)} (q : NewD K C H Q d) (s : Same H H1) (e : d = (n, bs)) : ∀ bv, NewS K C H1 Q n bv bs := fun bv r H' s' n0 a => q r bv H' (s.trans s') (s.free n0) (by rw [e]; exact a)
end
section
variable {P : Program} {w : World} {K : PySem.W.Frag} {mg : Str → Option Value} {base : Heap} {C : Addr}
theorem cal_neighbours (T : Txt K mg C) : Cal P w K mg base "neighbours" 1 (spNb K) := by
  refine T.d_neighbours.cal (ps := ["first", "letters"]) (fun f fd D => ?_) (fun _ _ _ _ _ _ us hl => match us, hl with | [_, _], _ => rfl)
  refine D.ok sc_neighbours (fun vs H Q E h => ?_) (fun cdv A outer s H vs Q E hr h => ?_)
  · obtain ⟨a, b, rfl, _⟩ := h
    rfl
  · obtain ⟨a, b, rfl, a9, b9, a0, b0, k⟩ := h
    refine ⟨_, (pss_one (ps_ret (pe_callTy call_tuple_of (by rfl) T.b_tuple (by decide +kernel) (pa_cons (pe_lc (own := [("letter", 2)]) (g := gName 2) (tt := tYes) rfl sc_neighbours.nd (pi_range2 (by rfl) T.b_range (pa_cons (pv 0) (pa_cons (pe_op op_sub (pv 1) pe_int) pa_nil))) (blkOk_by (own := [("letter", 2)]) (N := ["first", "letters", "letter"]) (sc := defScope s_neighbours) (by decide +kernel)) (fun _ _ _ _ _ => (pg_name (i := 2) sc_neighbours.nd rfl (Or.inl rfl))) (fun _ _ _ _ _ => pts_nil) (fun _ _ _ _ _ => (pe_tup (pa_cons (pv 2) (pa_cons (pe_op op_add (pv 2) pe_int) (pa_cons pe_int pa_nil)))))) pa_nil)))), ?_⟩
    refine ⟨_, rfl, _, rfl, _, _, rfl, rfl, _, _, rfl, ⟨by omega, by omega, by omega, by omega⟩, fun D nD => lc_range (lo := a) (n := (b - 1 - a).toNat) (fun i H' => ∃ xs, Same H H' ∧ H' D = some (.lst xs) ∧ TIs K H' xs ((List.range i).map fun i : Nat => [a + (i : Int), a + (i : Int) + 1, 3])) ⟨[], same_new nD, upd_same, trivial⟩ ?_ ?_⟩
    · rintro i H2 hi ⟨xs, s2, hD, hx⟩
      refine ⟨rfl, ?_⟩
      refine ⟨_, rfl, _, rfl, _, _, rfl, rfl, show 3 ≤ sizeLine by decide, fun q nq => ?_⟩
      have hl := hx.len
      rw [List.length_map, List.length_range] at hl
      have hD3 := same_new (o := .tup [.int (a + i), .int (a + i + 1), .int 3]) nq _ _ hD
      refine ⟨_, hD3, small1000 (by omega), _, same_off nD (s2.trans (same_new nq)) off_upd, upd_same, ?_⟩
      rw [List.range_succ, List.map_append]
      exact (off_upd.tis hD3 (hx.same (same_new nq))).snoc (off_upd.ti hD3 ⟨q, rfl, .of upd_same⟩)
    · rintro H2 ⟨xs, s2, hD, hx⟩
      refine ⟨_, xs, rfl, .inl ⟨.of hD, fun q nq => ?_⟩⟩
      exact k _ _ (s2.trans (same_new nq)) ⟨q, xs, rfl, .of upd_same, hx.same (same_new nq)⟩
theorem ok_rows (T : Txt K mg C) {f : Addr} {fd : FuncData} (D : Fun K "rows" "System.rows" s_rows f fd) : FnOk P w K mg base CX0 6 f fd ["cls", "places"] (spC K C (fun p => 2 ≤ p ∧ p ≤ 5) rowsD) := by
  refine D.ok sc_rows (fun vs H Q E h => ?_) (fun cdv A outer s H vs Q E hr h => ?_)
  · obtain ⟨i, rfl, _⟩ := h
    rfl
  · obtain ⟨i, rfl, ⟨h2, h5⟩, q⟩ := h
    refine ⟨_, (pss_cons (ps_if (pt_not (pt_val (pe_cal (cal_is_within T) (hr.mono (by decide)) (by rfl) (pa_cons (pv 1) (pa_cons pe_int (pa_cons (pe_op op_add (C8.pe_gc (v := .int 4) (by rfl) T.g_MAX_LETTERS) pe_int) pa_nil)))))) (pss_one ps_never) pss_nil)
      (pss_one (ps_ret (pe_cls (i := 0) T (hr.mono (by decide)) rfl (Or.inl rfl) (pa_cons (pe_op op_sub (pv 1) pe_int) (pa_cons (pe_cal (cal_neighbours T) (hr.mono (by decide)) (by rfl) (pa_cons pe_int (pa_cons (pe_op op_sub (pv 1) pe_int) pa_nil))) pa_nil)))))), ?_⟩
    refine ⟨_, rfl, _, _, rfl, rfl, _, _, _, rfl, _, rfl, iteNT' (by rw [decide_eq_true h2, decide_eq_true (show i ≤ 4 + 1 by omega)]; rfl) ?_⟩
    refine ⟨rfl, _, rfl, _, _, rfl, rfl, _, rfl, _, _, rfl, rfl, _, _, rfl, by omega, by omega, by omega, by omega, fun v H1 s1 hb => ?_⟩
    refine ⟨_, v, nb 0 (i - 1), .inl rfl, fun _ => hb, okB_valid (d := rowsD i) ?_, q.sys s1 rfl⟩
    have : i = 2 ∨ i = 3 ∨ i = 4 ∨ i = 5 := by omega
    rcases this with rfl | rfl | rfl | rfl <;> decide
theorem unraw {CX : CXT} {n : Nat} {g : Addr} {fd : FuncData} {ps : List Str} {sp : Sp} (F : FnOk P w K mg base CX n g fd ps sp) (hb : Binds K fd ps []) : FnR P w K mg base CX n g sp := (F.raw hb .nil).imp fun vs H Q E h => by rw [List.append_nil]; exact h
section
variable {X : Cx} {o e : Expr} {ta : TE} {t : TA} {apos pos : Pos}
theorem pe_cRows {pl : Sem Bool} (T : Txt X.K X.mg C) (hr : Room 6 X.A) (he : PE X o ta) (ha : PA X [e] t)
    (hst : starEach [e] X.env = (false, eval e X.env) :: starEach [] X.env := by rfl)
    (ht : eval (.Call (.Attribute o "rows" apos) [e] [] pos) X.env = (do
      let ov ← eval o X.env
      standAt apos.atName
      let (f, first) ← holding [ov] (getMethod ov "rows" pl)
      callWith pos f first (backTo pos (starEach [e] X.env)) (backToKw pos (keywordEach [] X.env))) := by rfl) :
    PE X (.Call (.Attribute o "rows" apos) [e] [] pos) (ClX.tCMeth C (spC X.K C (fun p => 2 ≤ p ∧ p ≤ 5) rowsD) E0 ta t) := by
  obtain ⟨_, _, _, c, D⟩ := T.cRows
  exact ClX.pe_cmeth he T.crd c (unraw (ok_rows T D) (D.binds fun _ _ _ _ _ _ us hl => match us, hl with | [_, _], _ => rfl)) hr pass0 ha hst rfl ht
end
section
variable {X : Cx} {e : Expr} {es : List Expr} {ta : TE} {t : TA} {apos pos : Pos}
theorem pe_sletters (T : Txt X.K X.mg C) (hr : Room 2 X.A) (he : PE X e ta) (hab : attributeBase e "letters" X.env (eval e X.env) = eval e X.env := by rfl) : PE X (.Attribute e "letters" pos) (tProp C (spL X.K C) [] E0 ta) := by
  obtain ⟨_, _, _, hp, D⟩ := T.pL
  exact pe_prop he T.cl hp (ok_letters T D) hr (D.binds fun _ _ _ _ _ _ us hl => match us, hl with | [_], _ => rfl) .nil pass0 hab
theorem pe_bond_of {pl : Sem Bool} {o : Expr} (T : Txt X.K X.mg C) (hr : Room 2 X.A) (he : PE X o ta) (ha : PA X (e :: es) t)
    (hst : starEach (e :: es) X.env = (false, eval e X.env) :: starEach es X.env := by rfl) (hpl : (backTo pos (starEach es X.env)).any (·.1) = false := by rfl)
    (ht : eval (.Call (.Attribute o "bond_of" apos) (e :: es) [] pos) X.env = (do
      let ov ← eval o X.env
      standAt apos.atName
      let (f, first) ← holding [ov] (getMethod ov "bond_of" pl)
      callWith pos f first (backTo pos (starEach (e :: es) X.env)) (backToKw pos (keywordEach [] X.env))) := by rfl) :
    PE X (.Call (.Attribute o "bond_of" apos) (e :: es) [] pos) (tMeth C "bond_of" (spBondOf X.K C) [] E0 ta t) := by
  obtain ⟨_, _, D, m⟩ := T.mBond
  exact pe_meth he T.cl ⟨m.at_, m.fn, D.kp⟩ (ok_bond_of T D) hr (D.binds fun _ _ _ _ _ _ us hl => match us, hl with | [_, _, _], _ => rfl) .nil pass0 ha hst hpl ht
end
end
end Sk

namespace Sk
open PySem L2 Ow
/-- a def of the module by its raw promise -/
structure CalR (P : Program) (w : World) (K : PySem.W.Frag) (mg : Str → Option Value) (base : Heap) (x : Str) (k : Nat) (sp : Sp) : Prop where
  ex : ∃ f, FnR P w K mg base CX0 k f sp ∧ mg x = some (.ref f) ∧ PySem.W.keepIn K (.ref f) = true
theorem pe_calR {X : Cx} {x : Str} {k : Nat} {sp : Sp} {e : Expr} {es : List Expr} {t : TA} {p pos : Pos} (C : CalR X.prog X.w X.K X.mg X.base x k sp) (hr : Room k X.A) (hg : Gl X x) (ha : PA X (e :: es) t) (hdb : (x == ("__debug__" : Str)) = false := by decide)
    (he : starEach (e :: es) X.env = (false, eval e X.env) :: starEach es X.env := by rfl) (hpl : (backTo pos (starEach es X.env)).any (·.1) = false := by rfl) : PE X (.Call (.Name x p) (e :: es) [] pos) (tCall sp [] E0 t) := by
  obtain ⟨f, F, hm, hk⟩ := C.ex
  refine ⟨fun pins s σ H Q I h => ?_⟩
  refine wpAny_Call_Name_kw (ld_glob I hg hm ?_ hdb)
  refine PySem.W.callWith_K (h₀ := X.base) I.ok.mod.kin hk (thn (ha.run pos pins s σ H _ I h) fun us s1 ⟨vs, H1, I1, r, q⟩ => ⟨I1.kIn, wpAny_call (run_fnR F hr pass0 I1 r ?_)⟩) he hpl
  have q' : sp (vs ++ []) H1 Q E0 := q
  rw [List.append_nil] at q'
  exact q'
def Wd (n : Int) (ws : List Int) : Prop := (∀ x ∈ ws, 0 ≤ x ∧ x < n) ∧ ws.length ≤ 40
def spLetter (K : PySem.W.Frag) (C : Addr) : Sp := fun vs H Q _ => ∃ (p : Addr) (n : Int) (bv : V) (bs : List (List Int)) (i : Int), vs = [.ref p, .int i] ∧ SysAt K C H p n bv bs ∧ Q (.bl (decide (0 ≤ i) && decide (i ≤ n - 1))) H
def spWord (K : PySem.W.Frag) (C : Addr) : Sp := fun vs H Q _ => ∃ (p : Addr) (n : Int) (bv : V) (bs : List (List Int)) (v : V) (ws : List Int), vs = [.ref p, v] ∧ SysAt K C H p n bv bs ∧ TI K H v ws ∧ Wd n ws ∧ ∀ H', Same H H' → Q (.bl true) H'
def spCSys (K : PySem.W.Frag) (C : Addr) : Sp := fun vs H Q _ => ∃ (p : Addr) (n : Int) (bv : V) (bs : List (List Int)), vs = [.ref p] ∧ SysAt K C H p n bv bs ∧ Q .non H
def spCWord (K : PySem.W.Frag) (C : Addr) : Sp := fun vs H Q _ => ∃ (p : Addr) (n : Int) (bv : V) (bs : List (List Int)) (v : V) (ws : List Int), vs = [.ref p, v] ∧ SysAt K C H p n bv bs ∧ TI K H v ws ∧ Wd n ws ∧ ∀ H', Same H H' → Q .non H'
def TWs (K : PySem.W.Frag) (H : Hp) (n : Int) (vs : List V) : Prop := ∀ v ∈ vs, ∃ ws, TI K H v ws ∧ Wd n ws
def spCWords (K : PySem.W.Frag) (C : Addr) : Sp := fun vs H Q _ => ∃ (p : Addr) (n : Int) (bv : V) (bs : List (List Int)) (us : List V), vs = .ref p :: us ∧ us.length ≤ 1000 ∧ SysAt K C H p n bv bs ∧ TWs K H n us ∧ ∀ H', Same H H' → Q .non H'
section
variable {P : Program} {w : World} {K : PySem.W.Frag} {mg : Str → Option Value} {base : Heap} {C : Addr}
theorem cal_is_letter (T : Txt K mg C) : Cal P w K mg base "is_letter" 3 (spLetter K C) := by
  refine T.d_is_letter.cal (ps := ["system", "value"]) (fun f fd D => ?_) (fun _ _ _ _ _ _ us hl => match us, hl with | [_, _], _ => rfl)
  refine D.ok sc_is_letter (fun vs H Q E h => ?_) (fun cdv A outer s H vs Q E hr h => ?_)
  · obtain ⟨p, n, bv, bs, i, rfl, _⟩ := h
    rfl
  · obtain ⟨p, n, bv, bs, i, rfl, y, k⟩ := h
    obtain ⟨dx, g⟩ := id y.1
    refine ⟨_, (pss_one (ps_ret (pe_cal (cal_is_within T) (hr.mono (by decide)) (by rfl) (pa_cons (pv 1) (pa_cons pe_int (pa_cons (pe_op op_sub (pe_sletters T (hr.mono (by decide)) (pv 0)) pe_int) pa_nil)))))), ?_⟩
    exact ⟨_, rfl, _, rfl, p, dx, _, rfl, g, p, n, bv, bs, rfl, y, _, _, rfl, rfl, _, _, _, rfl, k⟩
theorem cal_is_word (T : Txt K mg C) : Cal P w K mg base "is_word" 4 (spWord K C) := by
  refine T.d_is_word.cal (ps := ["system", "value"]) (fun f fd D => ?_) (fun _ _ _ _ _ _ us hl => match us, hl with | [_, _], _ => rfl)
  refine D.ok sc_is_word (fun vs H Q E h => ?_) (fun cdv A outer s H vs Q E hr h => ?_)
  · obtain ⟨p, n, bv, bs, v, ws, rfl, _⟩ := h
    rfl
  · obtain ⟨p, n, bv, bs, v, ws, rfl, y, ⟨a, rfl, ha⟩, hw, k⟩ := h
    have h40 := hw.2
    have ll : (ws.map V.int).length = ws.length := List.length_map _
    refine ⟨_, (pss_cons (ps_if (PW.pt (pw_or (pt_not (pt_val (pe_callB call_isi (by rfl) T.b_isinstance (by decide +kernel) (pa_cons (pv 1) (pa_cons (pe_bltn (v := .ty "tuple") (by rfl) T.b_tuple (by decide +kernel) rfl) pa_nil))))) (pw_or1 (pt_cmpR op_gt (pe_callB call_len_seq (by rfl) T.b_len (by decide +kernel) (pa_cons (pv 1) pa_nil)) (C8.pe_gc (v := .int 40) (by rfl) T.g_LONGEST_WORD) (nomark _))))) (pss_one (ps_ret pe_bl)) pss_nil)
      (pss_one (ps_ret (pe_callB (cr_all rfl) (by rfl) T.b_all (by decide +kernel) (pa_cons (pe_lc (own := [("letter", 2)]) (g := gName 2) (tt := tYes) rfl sc_is_word.nd (pi_tup (pv 1)) (blkOk_by (own := [("letter", 2)]) (N := ["system", "value", "letter"]) (sc := defScope s_is_word) (by decide +kernel)) (fun _ _ _ _ _ => (pg_name (i := 2) sc_is_word.nd rfl (Or.inl rfl))) (fun _ _ _ _ _ => pts_nil) (fun _ _ _ _ _ => (pe_cal (cal_is_letter T) (hr.mono (by decide)) (by rfl) (pa_cons (pv 0) (pa_cons (pv 2) pa_nil))))) pa_nil))))), ?_⟩
    refine ⟨_, rfl, _, _, _, _, true, rfl, .ty "tuple", tup_ty ha, kit_ty (by decide +kernel), _, rfl, iteF ?_⟩
    refine ⟨_, rfl, _, _, rfl, .inr ha, _, _, rfl, rfl, _, rfl, ite2 (fun z => absurd (of_decide_eq_true z) (by rw [ll]; omega)) (fun _ => ?_)⟩
    refine ⟨_, rfl, a, rfl, ⟨_, ha⟩, fun D nD => lc_tup (K := K) (a := a) (xs := ws.map V.int) (fun i H' => Same H H' ∧ H' D = some (.lst ((List.replicate i true).map V.bl))) ⟨same_new nD, upd_same⟩ (fun i H' _ h => sqT_same h.1 ha) ?_ ?_⟩
    · rintro i x H2 hi ⟨s2, hD⟩
      have ilt := (List.getElem?_eq_some_iff.mp hi).1
      rw [ll] at ilt
      rw [List.getElem?_map, List.getElem?_eq_getElem ilt] at hi
      obtain rfl : V.int ws[i] = x := Option.some.inj hi
      have hb := hw.1 _ (List.getElem_mem ilt)
      refine ⟨rfl, _, rfl, _, rfl, p, n, bv, bs, _, rfl, y.same s2, _, hD, ?_, same_off nD s2 off_upd, ?_⟩
      · rw [List.length_map, List.length_replicate]
        exact small1000 (by omega)
      · rw [upd_same, decide_eq_true hb.1, decide_eq_true (show ws[i] ≤ n - 1 by omega), List.replicate_succ', List.map_append]
        rfl
    · rintro H2 ⟨s2, hD⟩
      refine ⟨_, _, rfl, .of hD, ?_⟩
      rw [show (List.replicate (ws.map V.int).length true).all id = true by simp]
      exact k _ s2
theorem cal_check_system (T : Txt K mg C) : Cal P w K mg base "check_system" 1 (spCSys K C) := by
  refine T.d_check_system.cal (ps := ["system"]) (fun f fd D => ?_) (fun _ _ _ _ _ _ us hl => match us, hl with | [_], _ => rfl)
  refine D.ok sc_check_system (fun vs H Q E h => ?_) (fun cdv A outer s H vs Q E hr h => ?_)
  · obtain ⟨p, n, bv, bs, rfl, _⟩ := h
    rfl
  · obtain ⟨p, n, bv, bs, rfl, y, k⟩ := h
    obtain ⟨dx, g⟩ := id y.1
    refine ⟨_, (pss_one (ps_if (pt_not (pt_val (pe_callB call_isi (by rfl) T.b_isinstance (by decide +kernel) (pa_cons (pv 0) (pa_cons (pe_glob (v := .ref C) (by rfl) T.mgSystem rfl) pa_nil))))) (pss_one ps_never) pss_nil)), ?_⟩
    exact ⟨_, rfl, _, _, _, _, true, rfl, .own C, .base (.ins g T.cl T.ic.ha T.ic.hn T.ic.htk T.ic.hm), T.ic.me, _, rfl, iteF k⟩
theorem cal_check_word (T : Txt K mg C) : Cal P w K mg base "check_word" 5 (spCWord K C) := by
  refine T.d_check_word.cal (ps := ["system", "word"]) (fun f fd D => ?_) (fun _ _ _ _ _ _ us hl => match us, hl with | [_, _], _ => rfl)
  refine D.ok sc_check_word (fun vs H Q E h => ?_) (fun cdv A outer s H vs Q E hr h => ?_)
  · obtain ⟨p, n, bv, bs, v, ws, rfl, _⟩ := h
    rfl
  · obtain ⟨p, n, bv, bs, v, ws, rfl, y, t, hw, k⟩ := h
    refine ⟨_, (pss_one (ps_if (pt_not (pt_val (pe_cal (cal_is_word T) (hr.mono (by decide)) (by rfl) (pa_cons (pv 0) (pa_cons (pv 1) pa_nil))))) (pss_one ps_never) pss_nil)), ?_⟩
    exact ⟨_, rfl, _, rfl, p, n, bv, bs, v, ws, rfl, y, t, hw, fun H1 s1 => ⟨_, rfl, iteF (k _ s1)⟩⟩
theorem cal_check_words (T : Txt K mg C) : CalR P w K mg base "check_words" 6 (spCWords K C) := by
  obtain ⟨f, fd, D, hm⟩ := T.d_check_words
  obtain ⟨oc, od, kV, doc, pm, an, cdv, ct, osl, rfl, lk, hcd⟩ := D.ex
  have F := StX.fn_star (P := P) (w := w) (K := K) (mg := mg) (base := base) (k := 5) (ps := ["system"]) (pv := "words") (CX := CX0) (sp := fun vs H Q _ => ∃ (p t : Addr) (n : Int) (bv : V) (bs : List (List Int)) (us : List V), vs = [.ref p, .ref t] ∧ us.length ≤ 1000 ∧ SqT K H t us ∧ SysAt K C H p n bv bs ∧ TWs K H n us ∧ ∀ H', Same H H' → Q .non H')
    lk hcd sc_check_words StX.cxUp_none (fun us rest hl => match us, rest, hl with | [_], [], _ => rfl | [_], _ :: _, _ => rfl) (fun A outer s H vs Q E hr h => ?_)
  · refine ⟨⟨f, fun A outer s H us vs Q E hr e0 r h => F A outer s H us vs Q E hr e0 r ?_, hm, D.kp⟩⟩
    obtain ⟨p, n, bv, bs, us, rfl, hl, y, t, k⟩ := h
    refine ⟨[.ref p], us, rfl, rfl, szl hl, fun q nq => ?_⟩
    have sn := same_new (o := .tup us) nq
    exact ⟨p, q, n, bv, bs, us, rfl, hl, .of upd_same, y.same sn, fun v hv => (t v hv).elim fun ws z => ⟨ws, z.1.same sn, z.2⟩, fun H' s' => k _ (sn.trans s')⟩
  · obtain ⟨p, t, n, bv, bs, us, rfl, hl, ht, y, tw, k⟩ := h
    refine ⟨_, PSs.nox (show PSs (cxOf CX0 P w K mg base _ "check_words" (defScope s_check_words) f cdv A outer s H E).nox (defBody s_check_words) _ from (pss_cons (ps_expr (pe_cal (cal_check_system T) (hr.mono (by decide)) (by rfl) (pa_cons (pv 0) pa_nil)))
      (pss_one (ps_for PassesOwn.never rfl (pi_tup (pv 1)) (pg_name (i := 2) sc_check_words.nd rfl (Or.inl rfl)) (pss_one (ps_expr (pe_cal (cal_check_word T) (hr.mono (by decide)) (by rfl) (pa_cons (pv 0) (pa_cons (pv 2) pa_nil))))))))), ?_⟩
    refine ⟨_, rfl, p, n, bv, bs, rfl, y, ?_⟩
    refine ⟨_, rfl, t, rfl, ⟨_, ht⟩, for_tup (K := K) (a := t) (xs := us) (fun i σ H' => Same H H' ∧ ∃ v2, σ = [some (.ref p), some (.ref t), v2]) ⟨.refl _, none, rfl⟩ (fun i σ H' _ h => sqT_same h.1 ht) ?_ ?_⟩
    · rintro i x σ H2 hx ⟨s2, v2, rfl⟩
      obtain ⟨ws, hws, wd⟩ := tw x (List.mem_of_getElem? hx)
      exact ⟨_, rfl, _, rfl, p, n, bv, bs, x, ws, rfl, y.same s2, hws.same s2, wd, fun H3 s3 => ⟨s2.trans s3, _, rfl⟩⟩
    · rintro σ H2 ⟨s2, v2, rfl⟩
      exact k _ s2
end
end Sk

namespace Sk
open PySem PySem.Spec PyProof.Rows L2 Ow
/-! a dict of the written part by whole numbers -/
def rKI (d : Addr) (es : Array DictEntry) : R2 := fun x y H Q => ∃ (k : Int) (u0 : Value) (v0 : V), x = .ref d ∧ y = .int k ∧ findBy Value.isInt es k = some u0 ∧ RelV v0 u0 ∧ Q v0 H
theorem ix_kint {X : Cx} {d : Addr} {es : Array DictEntry} {n : Nat} (hl : X.K.lookup d = some ⟨.type "dict", none, .dict es n, #[]⟩) (hk : IntKeys es) : IxR X (rKI d es) := by
  intro value slice pins s σ H x y v u Q I rx ry h hs
  obtain ⟨k, u0, v0, rfl, rfl, e, r, q⟩ := h
  cases rx
  obtain ⟨t, rfl⟩ := ry
  have hm : s.heap.IntMap d (fun k => findBy Value.isInt es k) := ⟨_, es, n, I.kIn _ _ hl, rfl, rfl, hk, fun _ => rfl⟩
  exact tail_any hm.typeIs slot_dict_getitem.lookup (wpAny_getItem_intMap hm e ⟨v0, H, I.tok _, r, q⟩) hs
end Sk
namespace Sk
open PySem L2 Ow
/-! lists of values, each by what it reads -/
def A2 {α : Type} (R : V → α → Prop) : List V → List α → Prop
  | [], [] => True
  | x :: xs, a :: as => R x a ∧ A2 R xs as
  | _, _ => False
theorem A2.imp {α : Type} {R S : V → α → Prop} (h : ∀ x a, R x a → S x a) : ∀ {xs : List V} {as : List α}, A2 R xs as → A2 S xs as
  | [], [], _ => trivial
  | _ :: _, _ :: _, z => ⟨h _ _ z.1, A2.imp h z.2⟩
theorem A2.len {α : Type} {R : V → α → Prop} : ∀ {xs : List V} {as : List α}, A2 R xs as → xs.length = as.length
  | [], [], _ => rfl
  | _ :: _, _ :: _, h => congrArg Nat.succ (A2.len h.2)
theorem A2.get {α : Type} {R : V → α → Prop} : ∀ {xs : List V} {as : List α} {i : Nat} {x : V}, A2 R xs as → xs[i]? = some x → ∃ a, as[i]? = some a ∧ R x a
  | x :: xs, n :: ns, 0, y, h, e => ⟨n, rfl, (show x = y by simpa using e) ▸ h.1⟩
  | x :: xs, n :: ns, i + 1, y, h, e => (A2.get (xs := xs) (as := ns) (i := i) h.2 (by simpa using e)).elim fun m z => ⟨m, by simpa using z.1, z.2⟩
  | [], [], i, y, _, e => by simp at e
theorem A2.at_ {α : Type} {R : V → α → Prop} : ∀ {xs : List V} {as : List α} {i : Nat} {a : α}, A2 R xs as → as[i]? = some a → ∃ x, xs[i]? = some x ∧ R x a
  | x :: xs, n :: ns, 0, y, h, e => ⟨x, rfl, (show n = y by simpa using e) ▸ h.1⟩
  | x :: xs, n :: ns, i + 1, y, h, e => (A2.at_ (xs := xs) (as := ns) (i := i) h.2 (by simpa using e)).elim fun m z => ⟨m, by simpa using z.1, z.2⟩
  | [], [], i, y, _, e => by simp at e
theorem A2.snoc {α : Type} {R : V → α → Prop} : ∀ {xs : List V} {as : List α} {x : V} {a : α}, A2 R xs as → R x a → A2 R (xs ++ [x]) (as ++ [a])
  | [], [], _, _, _, h => ⟨h, trivial⟩
  | _ :: _, _ :: _, _, _, h, k => ⟨h.1, A2.snoc h.2 k⟩
theorem A2.set {α : Type} {R : V → α → Prop} : ∀ {xs : List V} {as : List α} {i : Nat} {x : V} {a : α}, A2 R xs as → R x a → A2 R (xs.set i x) (as.set i a)
  | [], [], _, _, _, _, _ => trivial
  | _ :: _, _ :: _, 0, _, _, h, k => ⟨k, h.2⟩
  | _ :: _, _ :: _, i + 1, _, _, h, k => ⟨h.1, A2.set (i := i) h.2 k⟩
theorem A2.of_tis {K : PySem.W.Frag} {H : Hp} : ∀ {xs : List V} {as : List (List Int)}, TIs K H xs as → A2 (TI K H) xs as
  | [], [], _ => trivial
  | _ :: _, _ :: _, h => ⟨h.1, A2.of_tis h.2⟩
theorem A2.tis {K : PySem.W.Frag} {H : Hp} : ∀ {xs : List V} {as : List (List Int)}, A2 (TI K H) xs as → TIs K H xs as
  | [], [], _ => trivial
  | _ :: _, _ :: _, h => ⟨h.1, A2.tis h.2⟩
/-! factors -/
def bondOk (b : Int) : Prop := b = 0 ∨ b = 2 ∨ b = 3 ∨ b = 4 ∨ b = 5 ∨ b = 6
theorem bondOf_ok {n : Int} {bs : List (List Int)} (va : Valid n bs) (i j : Int) : bondOk (bondOf bs i j) := by
  unfold bondOf
  cases h : bs.filter (isPr i j) with
  | nil => exact .inr (.inl rfl)
  | cons t ts =>
    have hm : t ∈ bs.filter (isPr i j) := by rw [h]; simp
    obtain ⟨l, k, b, rfl, _, _, _, hb⟩ := va.tr t (List.mem_filter.mp hm).1
    show bondOk b
    unfold bondOk
    omega
def fac (bs : List (List Int)) (i j : Int) : List Int := if i < j then (facT (bondOf bs i j)).getD 0 [] else (facT (bondOf bs i j)).getD 1 []
theorem facT_two {b : Int} (h : bondOk b) : ∃ w p u q, facT b = [[w, p], [u, q]] ∧ 0 ≤ w ∧ w ≤ 3 ∧ 0 ≤ p ∧ p ≤ 1 ∧ 0 ≤ u ∧ u ≤ 3 ∧ 0 ≤ q ∧ q ≤ 1 := by
  unfold facT
  rcases h with rfl | rfl | rfl | rfl | rfl | rfl
  · exact ⟨_, _, _, _, rfl, by decide⟩
  · exact ⟨_, _, _, _, rfl, by decide⟩
  · exact ⟨_, _, _, _, rfl, by decide⟩
  · exact ⟨_, _, _, _, rfl, by decide⟩
  · exact ⟨_, _, _, _, rfl, by decide⟩
  · exact ⟨_, _, _, _, rfl, by decide⟩
theorem fac_two {n : Int} {bs : List (List Int)} (va : Valid n bs) (i j : Int) : ∃ w p, fac bs i j = [w, p] ∧ 0 ≤ w ∧ w ≤ 3 ∧ 0 ≤ p ∧ p ≤ 1 := by
  obtain ⟨w, p, u, q, e, h⟩ := facT_two (bondOf_ok va i j)
  unfold fac
  rw [e]
  by_cases c : i < j
  · rw [if_pos c]
    exact ⟨w, p, rfl, by omega⟩
  · rw [if_neg c]
    exact ⟨u, q, rfl, by omega⟩
def upto (n : Int) : List Int := (List.range n.toNat).map fun i : Nat => (0 : Int) + (i : Nat)
def oth (n l : Int) : List Int := (upto n).filter fun o => o != l
def nz (f : List Int) : Bool := f.getD 0 0 != 0 || f.getD 1 0 != 0
def trip (bs : List (List Int)) (n l : Int) : List (List Int) := ((oth n l).filter fun o => nz (fac bs o l)).map fun o => o :: fac bs o l
def lkOf (bs : List (List Int)) (n : Int) : List (List (List Int)) := (upto n).map fun l => trip bs n l
def PrAt (K : PySem.W.Frag) (H : Hp) (v : V) (d : Int × List Int) : Prop := ∃ a u, v = .ref a ∧ SqT K H a [.int d.1, u] ∧ TI K H u d.2
theorem PrAt.same {K : PySem.W.Frag} {H H' : Hp} {v : V} {d : Int × List Int} (h : PrAt K H v d) (s : Same H H') : PrAt K H' v d := h.elim fun a ⟨u, e, q, t⟩ => ⟨a, u, e, sqT_same s q, t.same s⟩
theorem PrAt.off {K : PySem.W.Frag} {D : Addr} {H H' : Hp} {acc : List V} {v : V} {d : Int × List Int} (h : PrAt K H v d) (o : Off D H H') (hD : H D = some (.lst acc)) : PrAt K H' v d := h.elim fun a ⟨u, e, q, t⟩ => ⟨a, u, e, o.sqT hD q, o.ti hD t⟩
/-- links: a tuple of tuples of triples -/
def LkAt (K : PySem.W.Frag) (H : Hp) (v : V) (lk : List (List (List Int))) : Prop := ∃ a xs, v = .ref a ∧ SqT K H a xs ∧ A2 (BsAt K H) xs lk
theorem LkAt.same {K : PySem.W.Frag} {H H' : Hp} {v : V} {lk : List (List (List Int))} (h : LkAt K H v lk) (s : Same H H') : LkAt K H' v lk := h.elim fun a ⟨xs, e, q, t⟩ => ⟨a, xs, e, sqT_same s q, t.imp fun _ _ z => z.same s⟩
def spFactor (K : PySem.W.Frag) (C : Addr) : Sp := fun vs H Q _ => ∃ (p : Addr) (n : Int) (bv : V) (bs : List (List Int)) (i j : Int), vs = [.ref p, .int i, .int j] ∧ SysAt K C H p n bv bs ∧ Valid n bs ∧ 0 ≤ i ∧ i < n ∧ 0 ≤ j ∧ j < n ∧ i ≠ j ∧
  ∀ v H', Same H H' → TI K H' v (fac bs i j) → Q v H'
def spOther (K : PySem.W.Frag) (C : Addr) : Sp := fun vs H Q _ => ∃ (p : Addr) (n : Int) (bv : V) (bs : List (List Int)) (l : Int), vs = [.ref p, .int l] ∧ SysAt K C H p n bv bs ∧ Valid n bs ∧
  ∀ a H', Same H H' → H' a = some (.lst ((oth n l).map V.int)) → Q (.ref a) H'
def spWZ (K : PySem.W.Frag) : Sp := fun vs H Q _ => ∃ (a : Addr) (xs : List V) (ds : List (Int × List Int)), vs = [.ref a] ∧ H a = some (.lst xs) ∧ A2 (PrAt K H) xs ds ∧ ds.length ≤ 100 ∧ (∀ d ∈ ds, ∃ w p, d.2 = [w, p]) ∧
  ∀ v H', Same H H' → BsAt K H' v ((ds.filter fun d => nz d.2).map fun d => d.1 :: d.2) → Q v H'
def spTrip (K : PySem.W.Frag) (C : Addr) : Sp := fun vs H Q _ => ∃ (p : Addr) (n : Int) (bv : V) (bs : List (List Int)) (l : Int), vs = [.ref p, .int l] ∧ SysAt K C H p n bv bs ∧ Valid n bs ∧ 0 ≤ l ∧ l < n ∧
  ∀ v H', Same H H' → BsAt K H' v (trip bs n l) → Q v H'
def spLinks (K : PySem.W.Frag) (C : Addr) : Sp := fun vs H Q _ => ∃ (p : Addr) (n : Int) (bv : V) (bs : List (List Int)), vs = [.ref p] ∧ SysAt K C H p n bv bs ∧ Valid n bs ∧
  ∀ v H', Same H H' → LkAt K H' v (lkOf bs n) → Q v H'
theorem upto_length (n : Int) : (upto n).length = n.toNat := by unfold upto; rw [List.length_map, List.length_range]
theorem upto_get {n : Int} {i : Nat} (h : i < n.toNat) : (upto n)[i]? = some ((0 : Int) + (i : Nat)) := by
  unfold upto
  rw [List.getElem?_map, List.getElem?_range h]
  rfl
theorem mem_upto {n x : Int} : x ∈ upto n ↔ 0 ≤ x ∧ x < n := by
  unfold upto
  rw [List.mem_map]
  constructor
  · rintro ⟨i, hi, rfl⟩
    have := List.mem_range.mp hi
    omega
  · rintro ⟨h1, h2⟩
    exact ⟨x.toNat, List.mem_range.mpr (by omega), by omega⟩
theorem mem_oth {n l x : Int} : x ∈ oth n l ↔ (0 ≤ x ∧ x < n) ∧ x ≠ l := by
  unfold oth
  rw [List.mem_filter, mem_upto]
  simp
theorem oth_length (n l : Int) : (oth n l).length ≤ n.toNat := by
  unfold oth
  exact Nat.le_trans (List.length_filter_le _ _) (by rw [upto_length]; exact Nat.le_refl _)
section
variable {P : Program} {w : World} {K : PySem.W.Frag} {mg : Str → Option Value} {base : Heap} {C : Addr}
theorem cal_factor (T : Txt K mg C) : Cal P w K mg base "factor" 3 (spFactor K C) := by
  refine T.d_factor.cal (ps := ["system", "one", "other"]) (fun f fd D => ?_) (fun _ _ _ _ _ _ us hl => match us, hl with | [_, _, _], _ => rfl)
  refine D.ok sc_factor (fun vs H Q E h => ?_) (fun cdv A outer s H vs Q E hr h => ?_)
  · obtain ⟨_, _, _, _, _, _, rfl, _⟩ := h
    rfl
  · obtain ⟨p, n, bv, bs, i, j, rfl, y, va, i0, i1, j0, j1, ne, k⟩ := h
    obtain ⟨dF, esF, nF, gF, lF, kF, hF⟩ := T.gF
    obtain ⟨dx, g⟩ := id y.1
    refine ⟨_, (pss_cons (ps_asg (pe_ix (show IxR _ (rKI dF esF) from ix_kint lF kF) (pe_bonds (by rfl) gF) (pe_bond_of T (hr.mono (by decide)) (pv 0) (pa_cons (pv 1) (pa_cons (pv 2) pa_nil))) (fun _ _ => rfl)) (pg_tup (by rfl) (pgs_cons (pg_name (i := 3) sc_factor.nd rfl (Or.inl rfl)) (pgs_cons (pg_name (i := 4) sc_factor.nd rfl (Or.inl rfl)) pgs_nil))))
      (pss_one (ps_ret (pe_ifExp (pt_cmpR op_lt (pv 1) (pv 2) (nomark _)) (pv 3) (pv 4))))), ?_⟩
    refine ⟨_, rfl, p, dx, _, rfl, g, sf_no _ _ (by decide +kernel) (by decide +kernel), _, rfl, _, rfl, p, n, bv, bs, i, j, rfl, y, va, i0, i1, j0, j1, ne, fun H1 s1 => ?_⟩
    obtain ⟨a, ha, hb⟩ := hF _ (bondOf_ok va i j)
    obtain ⟨w, q, u, z, e, _⟩ := facT_two (bondOf_ok va i j)
    have hb1 := hb H1
    rw [e] at hb1
    obtain ⟨a', xs, ea, hs, hx⟩ := hb1
    cases ea
    rcases xs with _ | ⟨x1, _ | ⟨x2, _ | ⟨x3, xs⟩⟩⟩
    · exact absurd hx id
    · exact absurd hx.2 id
    · refine ⟨_, _, .ref a, rfl, rfl, ha, rfl, _, _, rfl, hs, rfl, _, _, rfl, _, _, rfl, rfl, ?_⟩
      refine ⟨_, rfl, _, rfl, _, _, rfl, rfl, _, rfl, ite2 (fun c => ?_) (fun c => ?_)⟩
      · refine ⟨_, rfl, k _ _ s1 ?_⟩
        unfold fac
        rw [if_pos (of_decide_eq_true c), e]
        exact hx.1
      · refine ⟨_, rfl, k _ _ s1 ?_⟩
        unfold fac
        rw [if_neg (fun c' => c (decide_eq_true c')), e]
        exact hx.2.1
    · exact absurd hx.2.2 id
theorem cal_other_letters (T : Txt K mg C) : Cal P w K mg base "other_letters" 3 (spOther K C) := by
  refine T.d_other_letters.cal (ps := ["system", "letter"]) (fun f fd D => ?_) (fun _ _ _ _ _ _ us hl => match us, hl with | [_, _], _ => rfl)
  refine D.ok sc_other_letters (fun vs H Q E h => ?_) (fun cdv A outer s H vs Q E hr h => ?_)
  · obtain ⟨_, _, _, _, _, rfl, _⟩ := h
    rfl
  · obtain ⟨p, n, bv, bs, l, rfl, y, va, k⟩ := h
    obtain ⟨dx, g⟩ := id y.1
    have n1 := va.lo
    have n4 := va.hi
    refine ⟨_, (pss_one (ps_ret (pe_lc (own := [("other", 2)]) (g := gName 2) rfl sc_other_letters.nd (pi_range1 (by rfl) T.b_range (pa_cons (pe_sletters T (hr.mono (by decide)) (pv 0)) pa_nil)) (blkOk_by (own := [("other", 2)]) (N := ["system", "letter", "other"]) (sc := defScope s_other_letters) (by decide +kernel)) (fun _ _ _ _ _ => (pg_name (i := 2) sc_other_letters.nd rfl (Or.inl rfl))) (fun _ _ _ _ _ => (pts_one (pt_cmpR op_ne (pv 2) (pv 1) (nomark _)))) (fun _ _ _ _ _ => (pv 2))))), ?_⟩
    refine ⟨_, rfl, p, dx, _, rfl, g, p, n, bv, bs, rfl, y, _, rfl, by omega, by omega, fun D nD => lc_range (lo := 0) (n := n.toNat) (fun i H' => Same H H' ∧ H' D = some (.lst ((((upto n).take i).filter fun o => o != l).map V.int))) ⟨same_new nD, upd_same⟩ ?_ ?_⟩
    · rintro i H2 hi ⟨s2, hD⟩
      have hg := upto_get hi
      have hlen : (((upto n).take i).filter fun o => o != l).length ≤ 4 := Nat.le_trans (List.length_filter_le _ _) (by rw [List.length_take, upto_length]; omega)
      refine ⟨rfl, _, rfl, _, rfl, rfl, _, rfl, ite2 (fun c => ?_) (fun c => ?_)⟩
      · have c' : ((0 : Int) + (i : Nat) != l) = true := by
          rw [bne_iff_ne]
          intro e
          rw [e] at c
          simp at c
        refine ⟨_, rfl, _, hD, small1000 (by rw [List.length_map]; omega), same_off nD s2 off_upd, ?_⟩
        rw [upd_same, take_snoc hg, List.filter_append, List.filter_cons_of_pos (p := fun o => o != l) c', List.filter_nil, List.map_append]
        rfl
      · have c' : ¬ ((0 : Int) + (i : Nat) != l) = true := by
          rw [bne_iff_ne]
          intro e
          refine c ?_
          rw [decide_eq_false (fun z => e (V.int.inj z))]
          rfl
        refine ⟨s2, ?_⟩
        rw [take_snoc hg, List.filter_append, List.filter_cons_of_neg (p := fun o => o != l) c', List.filter_nil, List.append_nil]
        exact hD
    · rintro H2 ⟨s2, hD⟩
      rw [List.take_of_length_le (by rw [upto_length]; exact Nat.le_refl _)] at hD
      exact k _ _ s2 hD
end
end Sk

namespace Sk
open PySem L2 Ow
theorem A2.same {α : Type} {R S : V → α → Prop} {xs : List V} {as : List α} (h : A2 R xs as) (f : ∀ x a, R x a → S x a) : A2 S xs as := h.imp f
section
variable {P : Program} {w : World} {K : PySem.W.Frag} {mg : Str → Option Value} {base : Heap} {C : Addr}
theorem cal_without_zeros (T : Txt K mg C) : Cal P w K mg base "without_zeros" 1 (spWZ K) := by
  refine T.d_without_zeros.cal (ps := ["pairs"]) (fun f fd D => ?_) (fun _ _ _ _ _ _ us hl => match us, hl with | [_], _ => rfl)
  refine D.ok sc_without_zeros (fun vs H Q E h => ?_) (fun cdv A outer s H vs Q E hr h => ?_)
  · obtain ⟨_, _, _, rfl, _⟩ := h
    rfl
  · obtain ⟨a, xs, ds, rfl, ha, hx, hl, hd, k⟩ := h
    refine ⟨_, (pss_one (ps_ret (pe_callTy call_tuple_of (by rfl) T.b_tuple (by decide +kernel) (pa_cons (pe_lc (own := [("other", 1), ("whole", 2), ("part", 3)]) (g := gTup K 2 (gCons (gName 1) (gCons (gTup K 2 (gCons (gName 2) (gCons (gName 3) (gNil)))) (gNil)))) rfl sc_without_zeros.nd (pi_list (pv 0)) (blkOk_by (own := [("other", 1), ("whole", 2), ("part", 3)]) (N := ["pairs", "other", "whole", "part"]) (sc := defScope s_without_zeros) (by decide +kernel)) (fun _ _ _ _ _ => (pg_tup (by rfl) (pgs_cons (pg_name (i := 1) sc_without_zeros.nd rfl (Or.inl rfl)) (pgs_cons (pg_tup (by rfl) (pgs_cons (pg_name (i := 2) sc_without_zeros.nd rfl (Or.inl rfl)) (pgs_cons (pg_name (i := 3) sc_without_zeros.nd rfl (Or.inl rfl)) pgs_nil))) pgs_nil)))) (fun _ _ _ _ _ => (pts_one (PW.pt (pw_or (show PT _ _ (tTru K 2) from pt_truth (pv 2) (by intro _; rfl)) (pw_or1 (show PT _ _ (tTru K 3) from pt_truth (pv 3) (by intro _; rfl))))))) (fun _ _ _ _ _ => (pe_tup (pa_cons (pv 1) (pa_cons (pv 2) (pa_cons (pv 3) pa_nil)))))) pa_nil)))), ?_⟩
    refine ⟨_, rfl, a, rfl, ⟨_, .of ha⟩, fun D nD => lc_list (K := K) (a := a) (xs := xs) (fun i H' => Same H H' ∧ ∃ ys, H' D = some (.lst ys) ∧ TIs K H' ys (((ds.take i).filter fun d => nz d.2).map fun d => d.1 :: d.2)) ⟨same_new nD, [], upd_same, by simp [TIs]⟩ (fun i H' _ h => .of (h.1 _ _ ha)) ?_ ?_⟩
    · rintro i x H2 hi ⟨s2, ys, hD, hy⟩
      obtain ⟨d, hdg, hp⟩ := hx.get hi
      obtain ⟨b, u, rfl, hb, hu⟩ := hp.same s2
      obtain ⟨ww, pp, e2⟩ := hd d (List.mem_of_getElem? hdg)
      obtain ⟨d1, d2⟩ := d
      obtain rfl : d2 = [ww, pp] := e2
      obtain ⟨c, rfl, hc⟩ := hu
      have hlen := hy.len
      rw [List.length_map] at hlen
      have hl2 := List.length_filter_le (fun d : Int × List Int => nz d.2) (ds.take i)
      rw [List.length_take] at hl2
      have fin : nz [ww, pp] = true → ∀ t, H2 t = none → ∃ acc, (upd H2 t (.tup [.int d1, .int ww, .int pp])) D = some (.lst acc) ∧ acc.length < sizeLine ∧ Same H (upd (upd H2 t (.tup [.int d1, .int ww, .int pp])) D (.lst (acc ++ [.ref t]))) ∧ ∃ ys, upd (upd H2 t (.tup [.int d1, .int ww, .int pp])) D (.lst (acc ++ [.ref t])) D = some (.lst ys) ∧ TIs K (upd (upd H2 t (.tup [.int d1, .int ww, .int pp])) D (.lst (acc ++ [.ref t]))) ys (((ds.take (i + 1)).filter fun d => nz d.2).map fun d => d.1 :: d.2) := fun hz t nt => by
        have hD3 := same_new (o := .tup [.int d1, .int ww, .int pp]) nt _ _ hD
        refine ⟨ys, hD3, small1000 (by omega), same_off nD (s2.trans (same_new nt)) off_upd, _, upd_same, ?_⟩
        rw [take_snoc hdg, List.filter_append, List.filter_cons_of_pos (p := fun d : Int × List Int => nz d.2) hz, List.map_append]
        exact (off_upd.tis hD3 (hy.same (same_new nt))).snoc (off_upd.ti hD3 ⟨t, rfl, .of upd_same⟩)
      refine ⟨_, _, rfl, hb, rfl, _, _, rfl, _, _, rfl, _, _, rfl, hc, rfl, _, _, rfl, _, _, rfl, rfl, rfl, rfl, ?_⟩
      have tail : ∀ c : Bool, nz [ww, pp] = c → c = true → (2 : Nat) = 2 := fun _ _ _ => rfl
      refine ⟨_, rfl, (ww != 0), rfl, ite2 (fun hw => ?_) (fun hw => ?_)⟩
      · refine iteT ⟨_, rfl, _, rfl, _, rfl, show 3 ≤ sizeLine by decide, fun t nt => ?_⟩
        exact fin (by unfold nz; rw [show ([ww, pp] : List Int).getD 0 0 = ww from rfl, hw]; rfl) t nt
      · refine ⟨_, rfl, (pp != 0), rfl, ite2 (fun hq => ?_) (fun hq => ?_)⟩
        · refine ⟨_, rfl, _, rfl, _, rfl, show 3 ≤ sizeLine by decide, fun t nt => ?_⟩
          exact fin (by unfold nz; rw [show ([ww, pp] : List Int).getD 1 0 = pp from rfl, hq, Bool.or_true]) t nt
        · have hz : ¬ nz [ww, pp] = true := by
            unfold nz
            rw [show ([ww, pp] : List Int).getD 0 0 = ww from rfl, show ([ww, pp] : List Int).getD 1 0 = pp from rfl, Bool.eq_false_iff.mpr hw, Bool.eq_false_iff.mpr hq]
            decide
          refine ⟨s2, ys, hD, ?_⟩
          rw [take_snoc hdg, List.filter_append, List.filter_cons_of_neg (p := fun d : Int × List Int => nz d.2) hz, List.filter_nil, List.append_nil]
          exact hy
    · rintro H2 ⟨s2, ys, hD, hy⟩
      rw [show xs.length = ds.length from hx.len, List.take_length] at hy
      refine ⟨D, _, rfl, .inl ⟨.of hD, fun t nt => ?_⟩⟩
      exact k _ _ (s2.trans (same_new nt)) ⟨t, ys, rfl, .of upd_same, hy.same (same_new nt)⟩
theorem cal_triples_from (T : Txt K mg C) : Cal P w K mg base "triples_from" 4 (spTrip K C) := by
  refine T.d_triples_from.cal (ps := ["system", "letter"]) (fun f fd D => ?_) (fun _ _ _ _ _ _ us hl => match us, hl with | [_, _], _ => rfl)
  refine D.ok sc_triples_from (fun vs H Q E h => ?_) (fun cdv A outer s H vs Q E hr h => ?_)
  · obtain ⟨_, _, _, _, _, rfl, _⟩ := h
    rfl
  · obtain ⟨p, n, bv, bs, l, rfl, y, va, l0, l1, k⟩ := h
    have n4 := va.hi
    refine ⟨_, (pss_one (ps_ret (pe_cal (cal_without_zeros T) (hr.mono (by decide)) (by rfl) (pa_cons (pe_lc (own := [("other", 2)]) (g := gName 2) (tt := tYes) rfl sc_triples_from.nd (pi_list (pe_cal (cal_other_letters T) (hr.mono (by decide)) (by rfl) (pa_cons (pv 0) (pa_cons (pv 1) pa_nil)))) (blkOk_by (own := [("other", 2)]) (N := ["system", "letter", "other"]) (sc := defScope s_triples_from) (by decide +kernel)) (fun _ _ _ _ _ => (pg_name (i := 2) sc_triples_from.nd rfl (Or.inl rfl))) (fun _ _ _ _ _ => pts_nil) (fun _ _ _ _ _ => (pe_tup (pa_cons (pv 2) (pa_cons (pe_cal (cal_factor T) (hr.mono (by decide)) (by rfl) (pa_cons (pv 0) (pa_cons (pv 2) (pa_cons (pv 1) pa_nil)))) pa_nil))))) pa_nil)))), ?_⟩
    refine ⟨_, rfl, _, rfl, p, n, bv, bs, l, rfl, y, va, fun a H1 s1 ha => ?_⟩
    refine ⟨a, rfl, ⟨_, .of ha⟩, fun D nD => lc_list (K := K) (a := a) (xs := (oth n l).map V.int) (fun i H' => Same H1 H' ∧ ∃ ys, H' D = some (.lst ys) ∧ A2 (PrAt K H') ys (((oth n l).take i).map fun o => (o, fac bs o l))) ⟨same_new nD, [], upd_same, by simp [A2]⟩ (fun i H' _ h => .of (h.1 _ _ ha)) ?_ ?_⟩
    · rintro i x H2 hi ⟨s2, ys, hD, hy⟩
      have ilt := (List.getElem?_eq_some_iff.mp hi).1
      rw [List.length_map] at ilt
      have hg : (oth n l)[i]? = some (oth n l)[i] := List.getElem?_eq_getElem ilt
      rw [List.getElem?_map, hg] at hi
      obtain rfl : V.int (oth n l)[i] = x := Option.some.inj hi
      have mo := mem_oth.mp (List.getElem_mem ilt)
      have ol := oth_length n l
      have hlen := hy.len
      rw [List.length_map, List.length_take] at hlen
      refine ⟨rfl, _, rfl, _, rfl, _, rfl, _, rfl, p, n, bv, bs, _, _, rfl, (y.same s1).same s2, va, mo.1.1, mo.1.2, l0, l1, mo.2, fun v H3 s3 tv => ⟨show 2 ≤ sizeLine by decide, fun t nt => ?_⟩⟩
      have hD4 := same_new (o := .tup [.int (oth n l)[i], v]) nt _ _ (s3 _ _ hD)
      refine ⟨ys, hD4, small1000 (by omega), same_off nD ((s2.trans s3).trans (same_new nt)) off_upd, _, upd_same, ?_⟩
      rw [take_snoc hg, List.map_append]
      refine A2.snoc (hy.imp fun x a z => ((z.same s3).same (same_new nt)).off off_upd hD4) ?_
      exact PrAt.off ⟨t, v, rfl, .of upd_same, tv.same (same_new nt)⟩ off_upd hD4
    · rintro H2 ⟨s2, ys, hD, hy⟩
      rw [List.length_map, List.take_length] at hy
      have ol := oth_length n l
      refine ⟨D, ys, _, rfl, hD, hy, by rw [List.length_map]; omega, fun d hd => ?_, fun v H3 s3 hb => k _ _ ((s1.trans s2).trans s3) ?_⟩
      · obtain ⟨o, _, rfl⟩ := List.mem_map.mp hd
        obtain ⟨w, q, e, _⟩ := fac_two va o l
        exact ⟨w, q, e⟩
      · unfold trip
        rw [List.filter_map, List.map_map] at hb
        exact hb
theorem cal_links_of (T : Txt K mg C) : Cal P w K mg base "links_of" 5 (spLinks K C) := by
  refine T.d_links_of.cal (ps := ["system"]) (fun f fd D => ?_) (fun _ _ _ _ _ _ us hl => match us, hl with | [_], _ => rfl)
  refine D.ok sc_links_of (fun vs H Q E h => ?_) (fun cdv A outer s H vs Q E hr h => ?_)
  · obtain ⟨_, _, _, _, rfl, _⟩ := h
    rfl
  · obtain ⟨p, n, bv, bs, rfl, y, va, k⟩ := h
    obtain ⟨dx, g⟩ := id y.1
    have n1 := va.lo
    have n4 := va.hi
    refine ⟨_, (pss_one (ps_ret (pe_callTy call_tuple_of (by rfl) T.b_tuple (by decide +kernel) (pa_cons (pe_lc (own := [("letter", 1)]) (g := gName 1) (tt := tYes) rfl sc_links_of.nd (pi_range1 (by rfl) T.b_range (pa_cons (pe_sletters T (hr.mono (by decide)) (pv 0)) pa_nil)) (blkOk_by (own := [("letter", 1)]) (N := ["system", "letter"]) (sc := defScope s_links_of) (by decide +kernel)) (fun _ _ _ _ _ => (pg_name (i := 1) sc_links_of.nd rfl (Or.inl rfl))) (fun _ _ _ _ _ => pts_nil) (fun _ _ _ _ _ => (pe_cal (cal_triples_from T) (hr.mono (by decide)) (by rfl) (pa_cons (pv 0) (pa_cons (pv 1) pa_nil))))) pa_nil)))), ?_⟩
    refine ⟨_, rfl, p, dx, _, rfl, g, p, n, bv, bs, rfl, y, _, rfl, by omega, by omega, fun D nD => lc_range (lo := 0) (n := n.toNat) (fun i H' => Same H H' ∧ ∃ ys, H' D = some (.lst ys) ∧ A2 (BsAt K H') ys (((upto n).take i).map fun l => trip bs n l)) ⟨same_new nD, [], upd_same, by simp [A2]⟩ ?_ ?_⟩
    · rintro i H2 hi ⟨s2, ys, hD, hy⟩
      have hg := upto_get hi
      have hlen := hy.len
      rw [List.length_map, List.length_take, upto_length] at hlen
      refine ⟨rfl, _, rfl, _, rfl, p, n, bv, bs, _, rfl, y.same s2, va, by omega, by omega, fun v H3 s3 hb => ?_⟩
      have hD3 := s3 _ _ hD
      refine ⟨ys, hD3, small1000 (by omega), same_off nD (s2.trans s3) off_upd, _, upd_same, ?_⟩
      rw [take_snoc hg, List.map_append]
      exact A2.snoc (hy.imp fun x a z => off_upd.bs hD3 (z.same s3)) (off_upd.bs hD3 hb)
    · rintro H2 ⟨s2, ys, hD, hy⟩
      rw [List.take_of_length_le (by rw [upto_length]; exact Nat.le_refl _)] at hy
      refine ⟨D, _, rfl, .inl ⟨.of hD, fun t nt => ?_⟩⟩
      exact k _ _ (s2.trans (same_new nt)) ⟨t, ys, rfl, .of upd_same, hy.imp fun x a z => z.same (same_new nt)⟩
end
end Sk

namespace Sk
open PySem L2 Ow
/-! states and their steps -/
def step1 (w p : Int) (ns : List (List Int)) (t : List Int) : List (List Int) :=
  ns.set (t.getD 0 0).toNat [(ns.getD (t.getD 0 0).toNat []).getD 0 0 + t.getD 1 0 * w + t.getD 2 0 * p, (ns.getD (t.getD 0 0).toNat []).getD 1 0 + t.getD 1 0 * p + t.getD 2 0 * (w + p)]
theorem step1_eq {w p o m g a b : Int} {ns : List (List Int)} (e : ns.getD o.toNat [] = [a, b]) : step1 w p ns [o, m, g] = ns.set o.toNat [a + m * w + g * p, b + m * p + g * (w + p)] := by
  show ns.set o.toNat [(ns.getD o.toNat []).getD 0 0 + m * w + g * p, (ns.getD o.toNat []).getD 1 0 + m * p + g * (w + p)] = _
  rw [e]
  rfl
def putA (lk : List (List (List Int))) (st : List (List Int)) (l : Int) : List (List Int) :=
  (lk.getD l.toNat []).foldl (step1 ((st.getD l.toNat []).getD 0 0) ((st.getD l.toNat []).getD 1 0)) (st.set l.toNat [-(st.getD l.toNat []).getD 0 0, -(st.getD l.toNat []).getD 1 0])
def aheadW (lk : List (List (List Int))) (st : List (List Int)) (ws : List Int) : List (List Int) := ws.reverse.foldl (putA lk) st
def first (n : Nat) : List (List Int) := List.replicate n [1, 0]
structure StOk (n : Nat) (st : List (List Int)) : Prop where
  len : st.length = n
  two : ∀ x ∈ st, ∃ w p, x = [w, p]
def trio (n : Nat) (x : List Int) : Prop := ∃ o m g, x = [o, m, g] ∧ 0 ≤ o ∧ o < n ∧ 0 ≤ m ∧ m ≤ 3 ∧ 0 ≤ g ∧ g ≤ 3
structure LkOk (n : Nat) (lk : List (List (List Int))) : Prop where
  len : lk.length = n
  few : n ≤ 100
  tri : ∀ t ∈ lk, ∀ x ∈ t, trio n x
theorem StOk.at_ {n : Nat} {st : List (List Int)} (h : StOk n st) {i : Nat} (hi : i < n) : ∃ w p, st[i]? = some [w, p] ∧ st.getD i [] = [w, p] := by
  have hl : i < st.length := by rw [h.len]; exact hi
  obtain ⟨w, p, e⟩ := h.two _ (List.getElem_mem hl)
  have e1 : st[i]? = some [w, p] := by rw [List.getElem?_eq_getElem hl, e]
  exact ⟨w, p, e1, by rw [List.getD_eq_getElem?_getD, e1]; rfl⟩
theorem StOk.set {n : Nat} {st : List (List Int)} (h : StOk n st) (i : Nat) (a b : Int) : StOk n (st.set i [a, b]) := by
  refine ⟨by rw [List.length_set]; exact h.len, fun x hx => ?_⟩
  rcases List.mem_or_eq_of_mem_set hx with hx | rfl
  · exact h.two x hx
  · exact ⟨a, b, rfl⟩
theorem StOk.fold {n : Nat} {w p : Int} : ∀ {ts : List (List Int)} {st : List (List Int)}, StOk n st → StOk n (ts.foldl (step1 w p) st)
  | [], _, h => h
  | t :: ts, st, h => StOk.fold (ts := ts) (st := step1 w p st t) (h.set _ _ _)
theorem StOk.put {n : Nat} {st : List (List Int)} (h : StOk n st) (lk : List (List (List Int))) (l : Int) : StOk n (putA lk st l) := (h.set _ _ _).fold
theorem StOk.ahead {n : Nat} (lk : List (List (List Int))) : ∀ (ws : List Int) {st : List (List Int)}, StOk n st → StOk n (ws.foldl (putA lk) st)
  | [], _, h => h
  | w :: ws, st, h => StOk.ahead lk ws (h.put lk w)
theorem StOk.first (n : Nat) : StOk n (first n) := ⟨List.length_replicate, fun x hx => ⟨1, 0, (List.mem_replicate.mp hx).2⟩⟩
theorem lkOf_ok {n : Int} {bs : List (List Int)} (va : Valid n bs) : LkOk n.toNat (lkOf bs n) := by
  have h1 := va.lo
  have h4 := va.hi
  refine ⟨by unfold lkOf; rw [List.length_map, upto_length], by omega, fun t ht x hx => ?_⟩
  unfold lkOf at ht
  obtain ⟨l, _, rfl⟩ := List.mem_map.mp ht
  unfold trip at hx
  obtain ⟨o, ho, rfl⟩ := List.mem_map.mp hx
  have hm := mem_oth.mp (List.mem_filter.mp ho).1
  obtain ⟨w, p, e, b⟩ := fac_two va o l
  rw [e]
  exact ⟨o, w, p, rfl, by omega, by omega, by omega, by omega, by omega, by omega⟩
theorem ixI {xs : List V} {l : Int} {x : V} (h0 : 0 ≤ l) (h : xs[l.toNat]? = some x) : atI xs l = some x := at_of (j := l.toNat) (by omega) h
theorem ixN_ok {n : Nat} {l : Int} (h0 : 0 ≤ l) (h1 : l < n) : ixN n l = some l.toNat := by unfold ixN; rw [if_pos h0, if_pos h1]
def spFirst (K : PySem.W.Frag) : Sp := fun vs H Q _ => ∃ (v : V) (lk : List (List (List Int))), vs = [v] ∧ LkAt K H v lk ∧ lk.length ≤ 100 ∧ ∀ v' H', Same H H' → BsAt K H' v' (first lk.length) → Q v' H'
def spPut (K : PySem.W.Frag) : Sp := fun vs H Q _ => ∃ (lv sv : V) (l : Int) (n : Nat) (lk : List (List (List Int))) (st : List (List Int)), vs = [lv, sv, .int l] ∧ LkAt K H lv lk ∧ BsAt K H sv st ∧ LkOk n lk ∧ StOk n st ∧ 0 ≤ l ∧ l < n ∧
  ∀ v H', Same H H' → BsAt K H' v (putA lk st l) → Q v H'
def spAhead (K : PySem.W.Frag) : Sp := fun vs H Q _ => ∃ (lv sv wv : V) (ws : List Int) (n : Nat) (lk : List (List (List Int))) (st : List (List Int)), vs = [lv, sv, wv] ∧ LkAt K H lv lk ∧ BsAt K H sv st ∧ TI K H wv ws ∧ LkOk n lk ∧ StOk n st ∧ (∀ x ∈ ws, 0 ≤ x ∧ x < n) ∧ ws.length ≤ 1000 ∧
  ∀ v H', Same H H' → BsAt K H' v (aheadW lk st ws) → Q v H'
def spState (K : PySem.W.Frag) : Sp := fun vs H Q _ => ∃ (lv wv : V) (ws : List Int) (n : Nat) (lk : List (List (List Int))), vs = [lv, wv] ∧ LkAt K H lv lk ∧ TI K H wv ws ∧ LkOk n lk ∧ (∀ x ∈ ws, 0 ≤ x ∧ x < n) ∧ ws.length ≤ 1000 ∧
  ∀ v H', Same H H' → BsAt K H' v (aheadW lk (first n) ws) → Q v H'
section
variable {P : Program} {w : World} {K : PySem.W.Frag} {mg : Str → Option Value} {base : Heap} {C : Addr}
theorem cal_first_state (T : Txt K mg C) : Cal P w K mg base "first_state" 1 (spFirst K) := by
  refine T.d_first_state.cal (ps := ["links"]) (fun f fd D => ?_) (fun _ _ _ _ _ _ us hl => match us, hl with | [_], _ => rfl)
  refine D.ok sc_first_state (fun vs H Q E h => ?_) (fun cdv A outer s H vs Q E hr h => ?_)
  · obtain ⟨_, _, rfl, _⟩ := h
    rfl
  · obtain ⟨_, lk, rfl, ⟨a, xs, rfl, ha, hx⟩, hl, k⟩ := h
    have hxl := hx.len
    refine ⟨_, (pss_one (ps_ret (pe_callTy call_tuple_of (by rfl) T.b_tuple (by decide +kernel) (pa_cons (pe_lc (own := [("_", 1)]) (g := gName 1) (tt := tYes) rfl sc_first_state.nd (pi_tup (pv 0)) (blkOk_by (own := [("_", 1)]) (N := ["links", "_"]) (sc := defScope s_first_state) (by decide +kernel)) (fun _ _ _ _ _ => (pg_name (i := 1) sc_first_state.nd rfl (Or.inl rfl))) (fun _ _ _ _ _ => pts_nil) (fun _ _ _ _ _ => (pe_tup (pa_cons pe_int (pa_cons pe_int pa_nil))))) pa_nil)))), ?_⟩
    refine ⟨_, rfl, a, rfl, ⟨_, ha⟩, fun D nD => lc_tup (K := K) (a := a) (xs := xs) (fun i H' => Same H H' ∧ ∃ ys, H' D = some (.lst ys) ∧ TIs K H' ys (first i)) ⟨same_new nD, [], upd_same, trivial⟩ (fun i H' _ h => sqT_same h.1 ha) ?_ ?_⟩
    · rintro i x H2 hi ⟨s2, ys, hD, hy⟩
      have ilt := (List.getElem?_eq_some_iff.mp hi).1
      have hlen : ys.length = i := by rw [hy.len]; unfold first; rw [List.length_replicate]
      refine ⟨rfl, show 2 ≤ sizeLine by decide, fun t nt => ?_⟩
      have hD3 := same_new (o := .tup [.int 1, .int 0]) nt _ _ hD
      refine ⟨ys, hD3, small1000 (by omega), same_off nD (s2.trans (same_new nt)) off_upd, _, upd_same, ?_⟩
      rw [show first (i + 1) = first i ++ [[1, 0]] from List.replicate_succ']
      exact (off_upd.tis hD3 (hy.same (same_new nt))).snoc (off_upd.ti hD3 ⟨t, rfl, .of upd_same⟩)
    · rintro H2 ⟨s2, ys, hD, hy⟩
      rw [hxl] at hy
      refine ⟨D, _, rfl, .inl ⟨.of hD, fun t nt => ?_⟩⟩
      exact k _ _ (s2.trans (same_new nt)) ⟨t, ys, rfl, .of upd_same, hy.same (same_new nt)⟩
theorem cal_put_ahead (T : Txt K mg C) : Cal P w K mg base "put_ahead" 1 (spPut K) := by
  refine T.d_put_ahead.cal (ps := ["links", "state", "letter"]) (fun f fd D => ?_) (fun _ _ _ _ _ _ us hl => match us, hl with | [_, _, _], _ => rfl)
  refine D.ok sc_put_ahead (fun vs H Q E h => ?_) (fun cdv A outer s H vs Q E hr h => ?_)
  · obtain ⟨_, _, _, _, _, _, rfl, _⟩ := h
    rfl
  · obtain ⟨_, _, l, n, lk, st, rfl, ⟨la, lx, rfl, hla, hlx⟩, ⟨sa, sx, rfl, hsa, hsx⟩, hlk, hst, l0, l1, k⟩ := h
    have l1' : l.toNat < n := by omega
    have sl : sx.length = n := by rw [hsx.len, hst.len]
    obtain ⟨w, p, hst1, hst2⟩ := hst.at_ l1'
    obtain ⟨x, hx, tx⟩ := (A2.of_tis hsx).at_ hst1
    obtain ⟨xa, rfl, hxa⟩ := tx
    have hlkl : l.toNat < lk.length := by rw [hlk.len]; exact l1'
    obtain ⟨tv, htv, tb⟩ := hlx.at_ (List.getElem?_eq_getElem hlkl)
    obtain ⟨ta, tx, rfl, hta, htx⟩ := tb
    have hgl : lk.getD l.toNat [] = lk[l.toNat] := by rw [List.getD_eq_getElem?_getD, List.getElem?_eq_getElem hlkl]; rfl
    have few := hlk.few
    refine ⟨_, (pss_cons (ps_asg (pe_ix ix_tup (pv 1) (pv 2) (fun _ _ => rfl)) (pg_tup (by rfl) (pgs_cons (pg_name (i := 3) sc_put_ahead.nd rfl (Or.inl rfl)) (pgs_cons (pg_name (i := 4) sc_put_ahead.nd rfl (Or.inl rfl)) pgs_nil))))
      (pss_cons (ps_set (i := 5) sc_put_ahead.nd rfl (Or.inl rfl) (pe_callTy call_list_of (by rfl) T.b_list (by decide +kernel) (pa_cons (pv 1) pa_nil)))
      (pss_cons (ps_asg (pe_tup (pa_cons (pe_un un_neg (pv 3)) (pa_cons (pe_un un_neg (pv 4)) pa_nil))) (pg_sub (pv 5) (pv 2) set_list))
      (pss_cons (ps_for PassesOwn.never rfl (pi_tup (pe_ix ix_tup (pv 0) (pv 2) (fun _ _ => rfl))) (pg_tup (by rfl) (pgs_cons (pg_name (i := 6) sc_put_ahead.nd rfl (Or.inl rfl)) (pgs_cons (pg_name (i := 7) sc_put_ahead.nd rfl (Or.inl rfl)) (pgs_cons (pg_name (i := 8) sc_put_ahead.nd rfl (Or.inl rfl)) pgs_nil)))) (pss_cons (ps_asg (pe_ix ix_list (pv 5) (pv 6) (fun _ _ => rfl)) (pg_tup (by rfl) (pgs_cons (pg_name (i := 9) sc_put_ahead.nd rfl (Or.inl rfl)) (pgs_cons (pg_name (i := 10) sc_put_ahead.nd rfl (Or.inl rfl)) pgs_nil))))
      (pss_one (ps_asg (pe_tup (pa_cons (pe_op op_add (pe_op op_add (pv 9) (pe_op op_mul (pv 7) (pv 3))) (pe_op op_mul (pv 8) (pv 4))) (pa_cons (pe_op op_add (pe_op op_add (pv 10) (pe_op op_mul (pv 7) (pv 4))) (pe_op op_mul (pv 8) (pe_op op_add (pv 3) (pv 4)))) pa_nil))) (pg_sub (pv 5) (pv 6) set_list)))))
      (pss_one (ps_ret (pe_callTy call_tuple_of (by rfl) T.b_tuple (by decide +kernel) (pa_cons (pv 5) pa_nil)))))))), ?_⟩
    refine ⟨_, rfl, _, rfl, sa, sx, l, .ref xa, rfl, rfl, hsa, ixI l0 hx, _, _, rfl, hxa, rfl, _, _, rfl, _, _, rfl, rfl, ?_⟩
    refine ⟨_, rfl, sa, sx, rfl, .inr hsa, fun N nN => ?_⟩
    have sN := same_new (o := .lst sx) nN
    refine ⟨_, rfl, _, rfl, _, rfl, _, rfl, show 2 ≤ sizeLine by decide, fun t nt => ?_⟩
    have sNt := sN.trans (same_new (o := .tup [.int (-w), .int (-p)]) nt)
    have hN1 : (upd (upd H N (.lst sx)) t (.tup [.int (-w), .int (-p)])) N = some (.lst sx) := same_new nt _ _ upd_same
    refine ⟨_, rfl, _, rfl, N, sx, l, l.toNat, rfl, rfl, hN1, ixN_ok l0 (by omega), ?_⟩
    have s1 : Same H (upd (upd (upd H N (.lst sx)) t (.tup [.int (-w), .int (-p)])) N (.lst (sx.set l.toNat (.ref t)))) := same_off nN sNt off_upd
    have hy0 : TIs K (upd (upd (upd H N (.lst sx)) t (.tup [.int (-w), .int (-p)])) N (.lst (sx.set l.toNat (.ref t)))) (sx.set l.toNat (.ref t)) (st.set l.toNat [-w, -p]) :=
      (A2.set (A2.of_tis (off_upd.tis hN1 (hsx.same sNt))) (off_upd.ti hN1 ⟨t, rfl, .of upd_same⟩)).tis
    refine ⟨_, rfl, _, rfl, la, lx, l, .ref ta, rfl, rfl, sqT_same s1 hla, ixI l0 htv, ta, rfl, ⟨_, sqT_same s1 hta⟩, for_tup (K := K) (a := ta) (xs := tx) (fun i σ H' => ∃ (ys : List V) (v6 v7 v8 v9 v10 : Option V), σ = [some (.ref la), some (.ref sa), some (.int l), some (.int w), some (.int p), some (.ref N), v6, v7, v8, v9, v10] ∧ Same H H' ∧ H' N = some (.lst ys) ∧ TIs K H' ys ((lk[l.toNat].take i).foldl (step1 w p) (st.set l.toNat [-w, -p])))
      ⟨_, none, none, none, none, none, rfl, s1, upd_same, hy0⟩ (fun i σ H' _ h => by obtain ⟨_, _, _, _, _, _, _, h, _⟩ := h; exact sqT_same h hta) ?_ ?_⟩
    · rintro i x σ H2 hi ⟨ys, v6, v7, v8, v9, v10, rfl, s2, hN, hy⟩
      obtain ⟨tr, htr, tx⟩ := htx.get hi
      obtain ⟨o, m, g, rfl, o0, o1, m0, m1, g0, g1⟩ := hlk.tri _ (List.getElem_mem hlkl) _ (List.mem_of_getElem? htr)
      obtain ⟨b, rfl, hb⟩ := tx.same s2
      have hok : StOk n ((lk[l.toNat].take i).foldl (step1 w p) (st.set l.toNat [-w, -p])) := (hst.set _ _ _).fold
      obtain ⟨a1, b1, e1, e2⟩ := hok.at_ (i := o.toNat) (by omega)
      obtain ⟨z, hz, tz⟩ := (A2.of_tis hy).at_ e1
      obtain ⟨za, rfl, hza⟩ := tz
      have yl : ys.length = n := by rw [hy.len, hok.len]
      refine ⟨_, _, rfl, hb, rfl, _, _, rfl, _, _, rfl, _, _, rfl, rfl, ?_⟩
      refine ⟨_, rfl, _, rfl, N, ys, o, .ref za, rfl, rfl, .of hN, ixI o0 hz, _, _, rfl, hza, rfl, _, _, rfl, _, _, rfl, rfl, ?_⟩
      refine ⟨_, rfl, _, rfl, _, rfl, _, _, rfl, rfl, .inl ⟨by omega, by omega⟩, _, _, rfl, rfl, _, rfl, _, rfl, _, _, rfl, rfl, .inl ⟨by omega, by omega⟩, _, _, rfl, rfl, ?_⟩
      refine ⟨_, rfl, _, rfl, _, rfl, _, _, rfl, rfl, .inl ⟨by omega, by omega⟩, _, _, rfl, rfl, _, rfl, _, rfl, _, rfl, _, _, rfl, rfl, _, _, rfl, rfl, .inl ⟨by omega, by omega⟩, _, _, rfl, rfl, show 2 ≤ sizeLine by decide, fun t2 nt2 => ?_⟩
      have s3 := same_new (o := .tup [.int (a1 + m * w + g * p), .int (b1 + m * p + g * (w + p))]) nt2
      have hN3 := s3 _ _ hN
      refine ⟨_, rfl, _, rfl, N, ys, o, o.toNat, rfl, rfl, hN3, ixN_ok o0 (by omega), ?_⟩
      refine ⟨_, _, _, _, _, _, rfl, same_off nN (s2.trans s3) off_upd, upd_same, ?_⟩
      rw [take_snoc htr, List.foldl_append]
      show TIs K _ _ (step1 w p _ [o, m, g])
      rw [step1_eq e2]
      exact (A2.set (A2.of_tis (off_upd.tis hN3 (hy.same s3))) (off_upd.ti hN3 ⟨t2, rfl, .of upd_same⟩)).tis
    · rintro σ H2 ⟨ys, v6, v7, v8, v9, v10, rfl, s2, hN, hy⟩
      refine ⟨_, rfl, N, ys, rfl, .inl ⟨.of hN, fun t2 nt2 => ?_⟩⟩
      refine k _ _ (s2.trans (same_new nt2)) ⟨t2, ys, rfl, .of upd_same, ?_⟩
      have hx := hy.same (same_new (o := .tup ys) nt2)
      rw [htx.len, List.take_length] at hx
      unfold putA
      rw [hgl, hst2]
      exact hx
theorem cal_word_ahead (T : Txt K mg C) : Cal P w K mg base "word_ahead" 2 (spAhead K) := by
  refine T.d_word_ahead.cal (ps := ["links", "state", "word"]) (fun f fd D => ?_) (fun _ _ _ _ _ _ us hl => match us, hl with | [_, _, _], _ => rfl)
  refine D.ok sc_word_ahead (fun vs H Q E h => ?_) (fun cdv A outer s H vs Q E hr h => ?_)
  · obtain ⟨_, _, _, _, _, _, _, rfl, _⟩ := h
    rfl
  · obtain ⟨lv, sv, _, ws, n, lk, st, rfl, hlv, hsv, ⟨wa, rfl, hwa⟩, hlk, hst, hws, hw, k⟩ := h
    refine ⟨_, (pss_cons (ps_for PassesOwn.never rfl (pi_tup (pe_revT (pv 2))) (pg_name (i := 3) sc_word_ahead.nd rfl (Or.inl rfl)) (pss_one (ps_set (i := 1) sc_word_ahead.nd rfl (Or.inl rfl) (pe_cal (cal_put_ahead T) (hr.mono (by decide)) (by rfl) (pa_cons (pv 0) (pa_cons (pv 1) (pa_cons (pv 3) pa_nil)))))))
      (pss_one (ps_ret (pv 1)))), ?_⟩
    refine ⟨_, rfl, wa, _, rfl, hwa, fun r nr => ?_⟩
    have s1 := same_new (o := .tup (ws.map V.int).reverse) nr
    refine ⟨r, rfl, ⟨_, .of upd_same⟩, for_tup (K := K) (a := r) (xs := (ws.map V.int).reverse) (fun i σ H' => ∃ (v : V) (v3 : Option V), σ = [some lv, some v, some (.ref wa), v3] ∧ Same (upd H r (.tup (ws.map V.int).reverse)) H' ∧ BsAt K H' v ((ws.reverse.take i).foldl (putA lk) st)) ⟨sv, none, rfl, .refl _, hsv.same s1⟩ (fun i σ H' _ h => by obtain ⟨_, _, _, h, _⟩ := h; exact sqT_same h (.of upd_same)) ?_ ?_⟩
    · rintro i x σ H2 hi ⟨v, v3, rfl, s2, hb⟩
      rw [← List.map_reverse, List.getElem?_map] at hi
      obtain ⟨c, hc, rfl⟩ := Option.map_eq_some_iff.mp hi
      have hcm := hws c (List.mem_reverse.mp (List.mem_of_getElem? hc))
      refine ⟨_, rfl, _, rfl, _, rfl, lv, v, c, n, lk, _, rfl, (hlv.same s1).same s2, hb, hlk, StOk.ahead lk _ hst, hcm.1, hcm.2, fun v' H3 s3 hb3 => ?_⟩
      refine ⟨v', _, rfl, s2.trans s3, ?_⟩
      rw [take_snoc hc, List.foldl_append]
      exact hb3
    · rintro σ H2 ⟨v, v3, rfl, s2, hb⟩
      rw [List.length_reverse, List.length_map, List.take_of_length_le (by rw [List.length_reverse]; exact Nat.le_refl _)] at hb
      exact ⟨_, rfl, k _ _ (s1.trans s2) hb⟩
theorem cal_state_of (T : Txt K mg C) : Cal P w K mg base "state_of" 3 (spState K) := by
  refine T.d_state_of.cal (ps := ["links", "word"]) (fun f fd D => ?_) (fun _ _ _ _ _ _ us hl => match us, hl with | [_, _], _ => rfl)
  refine D.ok sc_state_of (fun vs H Q E h => ?_) (fun cdv A outer s H vs Q E hr h => ?_)
  · obtain ⟨_, _, _, _, _, rfl, _⟩ := h
    rfl
  · obtain ⟨lv, wv, ws, n, lk, rfl, hlv, hwv, hlk, hws, hw, k⟩ := h
    have hl := hlk.len
    have few := hlk.few
    refine ⟨_, (pss_one (ps_ret (pe_cal (cal_word_ahead T) (hr.mono (by decide)) (by rfl) (pa_cons (pv 0) (pa_cons (pe_cal (cal_first_state T) (hr.mono (by decide)) (by rfl) (pa_cons (pv 0) pa_nil)) (pa_cons (pv 1) pa_nil)))))), ?_⟩
    refine ⟨_, rfl, _, rfl, lv, lk, rfl, hlv, by omega, fun v H1 s1 hb => ?_⟩
    rw [hl] at hb
    exact ⟨_, rfl, lv, v, wv, ws, n, lk, _, rfl, hlv.same s1, hb, hwv.same s1, hlk, .first n, hws, hw, fun v' H2 s2 hb2 => k _ _ (s1.trans s2) hb2⟩
end
end Sk

namespace Sk
open PySem L2 Ow
def B (n : Nat) (i : Int) : Prop := i.natAbs < 2 ^ n
theorem B.mono {n m : Nat} {i : Int} (h : B n i) (k : n ≤ m) : B m i := Nat.lt_of_lt_of_le h (Nat.pow_le_pow_right (by decide) k)
theorem B.mul {n m : Nat} {i j : Int} (h : B n i) (k : B m j) : B (n + m) (i * j) := wide_lt h k
theorem B.add {n : Nat} {i j : Int} (h : B n i) (k : B n j) : B (n + 1) (i + j) := by
  unfold B at *
  rw [Nat.pow_succ]
  omega
theorem B.sub {n : Nat} {i j : Int} (h : B n i) (k : B n j) : B (n + 1) (i - j) := by
  unfold B at *
  rw [Nat.pow_succ]
  omega
theorem B.neg {n : Nat} {i : Int} (h : B n i) : B n (-i) := by
  unfold B at *
  omega
theorem B.ok {n m : Nat} {i j : Int} (h : B n i) (k : B m j) (hn : 0 < n := by decide) (hm : 0 < m := by decide) (hs : n + m ≤ 1000000 := by decide) : CMulW i j := wide_mul h k hn hm hs
theorem B.lit {n : Nat} (i : Int) (h : i.natAbs < 2 ^ n := by decide) : B n i := h

theorem ite_and {c d : Bool} {A B X Y : Prop} (hx : (if d = true then A else B) → X) (hy : B → Y) (h1 : c = true → d = true → A) (h2 : ¬ (c = true ∧ d = true) → B) : if c = true then X else Y := by
  cases c with
  | false => exact iteF (hy (h2 fun z => Bool.noConfusion z.1))
  | true =>
    refine iteT (hx ?_)
    cases d with
    | false => exact iteF (h2 fun z => Bool.noConfusion z.2)
    | true => exact iteT (h1 rfl rfl)
theorem vi_eq {i j : Int} (h : decide (V.int i = V.int j) = true) : i = j := V.int.inj (of_decide_eq_true h)
theorem vi_of {i j : Int} (h : i = j) : decide (V.int i = V.int j) = true := decide_eq_true (by rw [h])

def spSenseOf : Sp := fun vs H Q _ => ∃ a b : Int, vs = [.int a, .int b] ∧ B 1000 a ∧ B 1000 b ∧ Q (.int (Gd.gsI a b)) H
/-- below 0, of a number's two whole numbers -/
def bel (x : List Int) : Bool := if x.getD 1 0 = 0 then decide (x.getD 0 0 < 0) else decide (Gd.gsI (x.getD 0 0) (x.getD 1 0) < 0)
def FineN (x : List Int) : Prop := x.getD 1 0 = 0 ∨ (B 1000 (x.getD 0 0) ∧ B 1000 (x.getD 1 0))
def Fine (st : List (List Int)) : Prop := ∀ x ∈ st, FineN x
def lefts (st : List (List Int)) : List Int := (upto st.length).filter fun i => bel (st.getD i.toNat [])
def lenAt (H : Hp) (l : Addr) : Nat := match H l with
  | some (.lst xs) => xs.length
  | _ => 0
/-- the letters that are taken, one behind the other, until none is left -/
inductive Runs (lk : List (List (List Int))) : List (List Int) → List Int → Prop
  | done {st : List (List Int)} : Fine st → lefts st = [] → Runs lk st []
  | step {st : List (List Int)} {l : Int} {r ws : List Int} : Fine st → lefts st = l :: r → Runs lk (putA lk st l) ws → Runs lk st (l :: ws)
theorem Runs.fine {lk : List (List (List Int))} {st : List (List Int)} {ws : List Int} (h : Runs lk st ws) : Fine st := by cases h <;> assumption
def spBelow (K : PySem.W.Frag) : Sp := fun vs H Q _ => ∃ (v : V) (x : List Int), vs = [v] ∧ TI K H v x ∧ x.length = 2 ∧ FineN x ∧ Q (.bl (bel x)) H
def spLeft (K : PySem.W.Frag) : Sp := fun vs H Q _ => ∃ (v : V) (st : List (List Int)) (n : Nat), vs = [v] ∧ BsAt K H v st ∧ StOk n st ∧ n ≤ 100 ∧ Fine st ∧ ∀ a H', Same H H' → H a = none → H' a = some (.lst ((lefts st).map V.int)) → Q (.ref a) H'
def spNormalOf (K : PySem.W.Frag) : Sp := fun vs H Q _ => ∃ (lv sv : V) (n : Nat) (lk : List (List (List Int))) (st : List (List Int)) (ws : List Int), vs = [lv, sv] ∧ LkAt K H lv lk ∧ BsAt K H sv st ∧ LkOk n lk ∧ StOk n st ∧ Runs lk st ws ∧ ws.length ≤ 1000 ∧
  ∀ v H', Same H H' → TI K H' v ws → Q v H'
def spNormalW (K : PySem.W.Frag) : Sp := fun vs H Q _ => ∃ (lv wv : V) (n : Nat) (lk : List (List (List Int))) (us ws : List Int), vs = [lv, wv] ∧ LkAt K H lv lk ∧ TI K H wv us ∧ LkOk n lk ∧ (∀ x ∈ us, 0 ≤ x ∧ x < n) ∧ us.length ≤ 1000 ∧ Runs lk (aheadW lk (first n) us) ws ∧ ws.length ≤ 1000 ∧
  ∀ v H', Same H H' → TI K H' v ws → Q v H'
section
variable {P : Program} {w : World} {K : PySem.W.Frag} {mg : Str → Option Value} {base : Heap} {C : Addr}
theorem cal_sense_of (T : Txt K mg C) : Cal P w K mg base "sense_of" 1 spSenseOf := by
  refine T.d_sense_of.cal (ps := ["whole", "part"]) (fun f fd D => ?_) (fun _ _ _ _ _ _ us hl => match us, hl with | [_, _], _ => rfl)
  refine D.ok sc_sense_of (fun vs H Q E h => ?_) (fun cdv A outer s H vs Q E hr h => ?_)
  · obtain ⟨a, b, rfl, _⟩ := h
    rfl
  · obtain ⟨a, b, rfl, ha, hb, q⟩ := h
    refine ⟨_, (pss_cons (ps_set (i := 2) sc_sense_of.nd rfl (Or.inl rfl) (pe_op op_add (pe_op op_mul pe_int (pv 0)) (pv 1)))
      (pss_cons (ps_if (PW.pt (pw_and (pt_cmpR op_eq (pv 2) pe_int (nomark _)) (pw_and1 (pt_cmpR op_eq (pv 1) pe_int (nomark _))))) (pss_one (ps_ret pe_int)) pss_nil)
      (pss_cons (ps_if (PW.pt (pw_and (pt_cmpR op_ge (pv 2) pe_int (nomark _)) (pw_and1 (pt_cmpR op_ge (pv 1) pe_int (nomark _))))) (pss_one (ps_ret pe_int)) pss_nil)
      (pss_cons (ps_if (PW.pt (pw_and (pt_cmpR op_le (pv 2) pe_int (nomark _)) (pw_and1 (pt_cmpR op_le (pv 1) pe_int (nomark _))))) (pss_one (ps_ret (pe_un un_neg pe_int))) pss_nil)
      (pss_cons (ps_set (i := 3) sc_sense_of.nd rfl (Or.inl rfl) (pe_cmpR op_gt (pe_op op_mulW (pv 2) (pv 2)) (pe_op op_mulW (pe_op op_mul pe_int (pv 1)) (pv 1)) (nomark _)))
      (pss_one (ps_ret (pe_ifExp (pt_cmpR op_eq (pv 3) (pe_cmpR op_gt (pv 2) pe_int (nomark _)) (nomark _)) pe_int (pe_un un_neg pe_int))))))))), ?_⟩
    refine ⟨_, rfl, _, _, rfl, rfl, .inl ⟨by decide, by decide⟩, _, rfl, _, _, rfl, rfl, ?_⟩
    refine ⟨_, rfl, rfl, _, rfl, ite_and (fun z => ⟨_, rfl, rfl, _, rfl, z⟩) (fun z => iteF z) (fun h1 h2 => ?_) (fun n1 => ?_)⟩
    · have e : Gd.gsI a b = 0 := by
        unfold Gd.gsI
        rw [if_pos ⟨vi_eq h1, vi_eq h2⟩]
      rw [e] at q
      exact q
    have m1 : ¬ (2 * a + b = 0 ∧ b = 0) := fun z => n1 ⟨vi_of z.1, vi_of z.2⟩
    refine ⟨_, rfl, _, _, rfl, rfl, _, rfl, ite_and (fun z => ⟨_, rfl, _, _, rfl, rfl, _, rfl, z⟩) (fun z => iteF z) (fun h1 h2 => ?_) (fun n2 => ?_)⟩
    · have e : Gd.gsI a b = 1 := by
        unfold Gd.gsI
        rw [if_neg m1, if_pos ⟨of_decide_eq_true h1, of_decide_eq_true h2⟩]
      rw [e] at q
      exact q
    have m2 : ¬ (0 ≤ 2 * a + b ∧ 0 ≤ b) := fun z => n2 ⟨decide_eq_true z.1, decide_eq_true z.2⟩
    refine ⟨_, rfl, _, _, rfl, rfl, _, rfl, ite_and (fun z => ⟨_, rfl, _, _, rfl, rfl, _, rfl, z⟩) (fun z => iteF z) (fun h1 h2 => ?_) (fun n3 => ?_)⟩
    · have e : Gd.gsI a b = -1 := by
        unfold Gd.gsI
        rw [if_neg m1, if_neg m2, if_pos ⟨of_decide_eq_true h1, of_decide_eq_true h2⟩]
      rw [e] at q
      exact ⟨_, rfl, q⟩
    have m3 : ¬ (2 * a + b ≤ 0 ∧ b ≤ 0) := fun z => n3 ⟨decide_eq_true z.1, decide_eq_true z.2⟩
    have bt : B 1003 (2 * a + b) := ((B.lit (n := 2) 2).mul ha : B 1002 (2 * a)).add (hb.mono (by decide))
    have b5 : B 1003 (5 * b) := (B.lit (n := 3) 5).mul hb
    refine ⟨_, rfl, _, rfl, _, _, rfl, rfl, bt.ok bt, _, rfl, _, _, rfl, rfl, .inl ⟨by decide, by decide⟩, _, rfl, _, _, rfl, rfl, b5.ok hb, _, _, rfl, rfl, ?_⟩
    refine ⟨_, rfl, _, rfl, _, _, rfl, rfl, rfl, _, rfl, ?_⟩
    have e : Gd.gsI a b = if (decide ((2 * a + b) * (2 * a + b) > 5 * b * b) == decide (2 * a + b > 0)) = true then 1 else -1 := by
      unfold Gd.gsI
      rw [if_neg m1, if_neg m2, if_neg m3]
    refine ite2 (fun h => ?_) (fun h => ?_)
    · rw [e, if_pos (by rw [← dec_bl]; exact h)] at q
      exact q
    · rw [e, if_neg (by rw [← dec_bl]; exact h)] at q
      exact ⟨_, rfl, q⟩
theorem cal_is_below (T : Txt K mg C) : Cal P w K mg base "is_below" 2 (spBelow K) := by
  refine T.d_is_below.cal (ps := ["number"]) (fun f fd D => ?_) (fun _ _ _ _ _ _ us hl => match us, hl with | [_], _ => rfl)
  refine D.ok sc_is_below (fun vs H Q E h => ?_) (fun cdv A outer s H vs Q E hr h => ?_)
  · obtain ⟨_, _, rfl, _⟩ := h
    rfl
  · obtain ⟨_, x, rfl, ⟨a, rfl, ha⟩, hl, hf, k⟩ := h
    rcases x with _ | ⟨w1, _ | ⟨p1, _ | ⟨z, x⟩⟩⟩
    · simp at hl
    · simp at hl
    · refine ⟨_, (pss_cons (ps_asg (pv 0) (pg_tup (by rfl) (pgs_cons (pg_name (i := 1) sc_is_below.nd rfl (Or.inl rfl)) (pgs_cons (pg_name (i := 2) sc_is_below.nd rfl (Or.inl rfl)) pgs_nil))))
      (pss_one (ps_ret (pe_ifExp (pt_cmpR op_eq (pv 2) pe_int (nomark _)) (pe_cmpR op_lt (pv 1) pe_int (nomark _)) (pe_cmpR op_lt (pe_cal (cal_sense_of T) (hr.mono (by decide)) (by rfl) (pa_cons (pv 1) (pa_cons (pv 2) pa_nil))) pe_int (nomark _)))))), ?_⟩
      refine ⟨_, rfl, _, _, rfl, ha, rfl, _, _, rfl, _, _, rfl, rfl, ?_⟩
      refine ⟨_, rfl, rfl, _, rfl, ite2 (fun c => ?_) (fun c => ?_)⟩
      · refine ⟨_, rfl, _, _, rfl, rfl, ?_⟩
        have e : bel [w1, p1] = decide (w1 < 0) := if_pos (vi_eq c)
        rw [e] at k
        exact k
      · have np : p1 ≠ 0 := fun e => c (vi_of e)
        have e : bel [w1, p1] = decide (Gd.gsI w1 p1 < 0) := if_neg np
        rcases hf with hf | ⟨h1, h2⟩
        · exact absurd hf np
        · rw [e] at k
          exact ⟨_, rfl, _, rfl, w1, p1, rfl, h1, h2, _, _, rfl, rfl, k⟩
    · simp at hl
theorem cal_left_of (T : Txt K mg C) : Cal P w K mg base "left_of" 3 (spLeft K) := by
  refine T.d_left_of.cal (ps := ["state"]) (fun f fd D => ?_) (fun _ _ _ _ _ _ us hl => match us, hl with | [_], _ => rfl)
  refine D.ok sc_left_of (fun vs H Q E h => ?_) (fun cdv A outer s H vs Q E hr h => ?_)
  · obtain ⟨_, _, _, rfl, _⟩ := h
    rfl
  · obtain ⟨_, st, n, rfl, ⟨a, xs, rfl, ha, hx⟩, hst, few, fine, k⟩ := h
    have hxl := hx.len
    have sl := hst.len
    refine ⟨_, (pss_one (ps_ret (pe_lc (own := [("letter", 1), ("number", 2)]) (g := gTup K 2 (gCons (gName 1) (gCons (gName 2) (gNil)))) rfl sc_left_of.nd (pi_enumT (by rfl) T.b_enumerate (pa_cons (pv 0) pa_nil)) (blkOk_by (own := [("letter", 1), ("number", 2)]) (N := ["state", "letter", "number"]) (sc := defScope s_left_of) (by decide +kernel)) (fun _ _ _ _ _ => (pg_tup (by rfl) (pgs_cons (pg_name (i := 1) sc_left_of.nd rfl (Or.inl rfl)) (pgs_cons (pg_name (i := 2) sc_left_of.nd rfl (Or.inl rfl)) pgs_nil)))) (fun _ _ _ _ _ => (pts_one (pt_val (pe_cal (cal_is_below T) (hr.mono (by decide)) (by rfl) (pa_cons (pv 2) pa_nil))))) (fun _ _ _ _ _ => (pv 1))))), ?_⟩
    refine ⟨_, rfl, a, _, rfl, ha, fun D nD => lc_it (walk_enumT (K := K) (a := a) (xs := xs)) (fun i H' => Same H H' ∧ H' D = some (.lst ((((upto st.length).take i).filter fun i => bel (st.getD i.toNat [])).map V.int))) ⟨same_new nD, upd_same⟩ (fun i H' _ h => sqT_same h.1 ha) ?_ ?_⟩
    · rintro i x H4 H5 hi ⟨s4, hD⟩ ⟨q, x1, x2, rfl, nq, rfl, e1, e2⟩
      obtain rfl : x1 = .int (i : Nat) := (Option.some.inj e1).symm
      obtain ⟨y, hy, ty⟩ := hx.get e2
      have s5 := s4.trans (same_new (o := .tup [.int (i : Nat), x2]) nq)
      have hD5 := same_new (o := .tup [.int (i : Nat), x2]) nq _ _ hD
      obtain ⟨ww, pp, ey⟩ := hst.two y (List.mem_of_getElem? hy)
      have il : i < ((st.length : Nat) : Int).toNat := by
        have := (List.getElem?_eq_some_iff.mp hy).1
        omega
      have hg := upto_get il
      rw [show (0 : Int) + (i : Nat) = (i : Nat) by omega] at hg
      have gd : st.getD ((i : Nat) : Int).toNat [] = y := by
        rw [show ((i : Nat) : Int).toNat = i by omega, List.getD_eq_getElem?_getD, hy]
        rfl
      have hlen : (((upto st.length).take i).filter fun i => bel (st.getD i.toNat [])).length ≤ 100 := Nat.le_trans (List.length_filter_le _ _) (by rw [List.length_take, upto_length]; omega)
      refine ⟨_, _, rfl, .of upd_same, rfl, _, _, rfl, _, _, rfl, rfl, rfl, ?_⟩
      refine ⟨_, rfl, x2, y, rfl, ty.same s5, by rw [ey]; rfl, fine y (List.mem_of_getElem? hy), _, rfl, ite2 (fun c => ?_) (fun c => ?_)⟩
      · refine ⟨_, rfl, _, hD5, small1000 (by rw [List.length_map]; omega), same_off nD s5 off_upd, ?_⟩
        rw [upd_same, take_snoc hg, List.filter_append, List.filter_cons_of_pos (p := fun i : Int => bel (st.getD i.toNat [])) (by rw [gd]; exact c), List.filter_nil, List.map_append]
        rfl
      · refine ⟨s5, ?_⟩
        rw [take_snoc hg, List.filter_append, List.filter_cons_of_neg (p := fun i : Int => bel (st.getD i.toNat [])) (by rw [gd]; exact c), List.filter_nil, List.append_nil]
        exact hD5
    · rintro H4 ⟨s4, hD⟩
      rw [List.take_of_length_le (by rw [upto_length]; omega)] at hD
      exact k _ _ s4 nD hD
theorem lefts_in {n : Nat} {st : List (List Int)} (h : StOk n st) {l : Int} (hl : l ∈ lefts st) : 0 ≤ l ∧ l < n := by
  unfold lefts at hl
  have := mem_upto.mp (List.mem_filter.mp hl).1
  rw [h.len] at this
  exact this
theorem cal_normal_of (T : Txt K mg C) : Cal P w K mg base "normal_of" 4 (spNormalOf K) := by
  refine T.d_normal_of.cal (ps := ["links", "state"]) (fun f fd D => ?_) (fun _ _ _ _ _ _ us hl => match us, hl with | [_, _], _ => rfl)
  refine D.ok sc_normal_of (fun vs H Q E h => ?_) (fun cdv A outer s H vs Q E hr h => ?_)
  · obtain ⟨_, _, _, _, _, _, rfl, _⟩ := h
    rfl
  · obtain ⟨lv, sv, n, lk, st, ws, rfl, hlv, hsv, hlk, hst, hrun, hws, k⟩ := h
    have few := hlk.few
    refine ⟨_, (pss_cons (ps_set (i := 2) sc_normal_of.nd rfl (Or.inl rfl) (pe_lst pa_nil))
      (pss_cons (ps_set (i := 3) sc_normal_of.nd rfl (Or.inl rfl) (pe_cal (cal_left_of T) (hr.mono (by decide)) (by rfl) (pa_cons (pv 1) pa_nil)))
      (pss_cons (ps_while PassesOwn.never (pt_truth (pv 3) (by intro _; rfl)) (pss_cons (ps_expr (pe_bm PySem.F.plainAttrs_list PySem.F.slot_list_append PySem.F.type_list_append mt_append (pv 2) (pa_cons (pe_ix ix_list (pv 3) pe_int (fun _ _ => rfl)) pa_nil)))
      (pss_cons (ps_set (i := 1) sc_normal_of.nd rfl (Or.inl rfl) (pe_cal (cal_put_ahead T) (hr.mono (by decide)) (by rfl) (pa_cons (pv 0) (pa_cons (pv 1) (pa_cons (pe_ix ix_list (pv 3) pe_int (fun _ _ => rfl)) pa_nil)))))
      (pss_one (ps_set (i := 3) sc_normal_of.nd rfl (Or.inl rfl) (pe_cal (cal_left_of T) (hr.mono (by decide)) (by rfl) (pa_cons (pv 1) pa_nil)))))))
      (pss_one (ps_ret (pe_callTy call_tuple_of (by rfl) T.b_tuple (by decide +kernel) (pa_cons (pv 2) pa_nil))))))), ?_⟩
    refine ⟨Nat.zero_le _, fun g ng => ?_⟩
    have s1 := same_new (o := .lst []) ng
    refine ⟨_, rfl, sv, st, n, rfl, hsv.same s1, hst, few, hrun.fine, fun a H2 s2 na ha => ?_⟩
    dsimp only [gName, tSeq]
    refine while_by (fun σ H' => ∃ (sv' : V) (fa : Addr) (st' : List (List Int)) (us rs : List Int), σ = [some lv, some sv', some (.ref g), some (.ref fa)] ∧ Same H H' ∧ BsAt K H' sv' st' ∧ StOk n st' ∧ H' g = some (.lst (us.map V.int)) ∧ H' fa = some (.lst ((lefts st').map V.int)) ∧ fa ≠ g ∧ Runs lk st' rs ∧ us ++ rs = ws) (fun _ H' => 1000 - lenAt H' g) ?_ ?_ ?_
    · exact ⟨sv, a, st, [], ws, rfl, s1.trans s2, (hsv.same s1).same s2, hst, s2 _ _ upd_same, ha, (ne_of_none (upd_same (H := H) (o := .lst [])) na).symm, hrun, rfl⟩
    · rintro _ H3 ⟨sv', fa, st', us, rs, rfl, s3, hb, hok, hg, hf, nfg, hr', rfl⟩
      rw [List.length_append] at hws
      refine ⟨_, rfl, _, .inl ⟨_, .of hf, rfl⟩, ?_⟩
      cases hr' with
      | done fine hl =>
        rw [hl] at hf ⊢
        refine iteF ⟨_, rfl, g, _, rfl, .inl ⟨.of hg, fun t nt => ?_⟩⟩
        rw [List.append_nil] at k
        exact k _ _ (s3.trans (same_new nt)) ⟨t, rfl, .of upd_same⟩
      | @step _ l r rs fine hl hr' =>
        have hin := lefts_in hok (l := l) (by rw [hl]; simp)
        rw [hl] at hf ⊢
        simp only [List.length_cons] at hws
        refine iteT ?_
        refine ⟨_, rfl, .inl ⟨rfl, _, .of hg⟩, ?_⟩
        refine ⟨_, rfl, _, _, _, _, rfl, rfl, .of hf, at_of (j := 0) rfl rfl, g, _, _, rfl, rfl, hg, by rw [List.length_map]; exact small1000 (by omega), ?_⟩
        have so : Off g H3 (upd H3 g (.lst (us.map V.int ++ [.int l]))) := off_upd
        have sH : Same H (upd H3 g (.lst (us.map V.int ++ [.int l]))) := same_off ng s3 so
        obtain ⟨sb, sy, rfl, hsb, hsy⟩ := hb
        have hb4 : BsAt K (upd H3 g (.lst (us.map V.int ++ [.int l]))) (.ref sb) st' := so.bs hg ⟨sb, sy, rfl, hsb, hsy⟩
        have hf4 := so _ _ nfg hf
        refine ⟨_, rfl, _, rfl, _, rfl, _, _, _, _, rfl, rfl, .of hf4, at_of (j := 0) rfl rfl, lv, .ref sb, l, n, lk, st', rfl, hlv.same sH, hb4, hlk, hok, hin.1, hin.2, fun v H5 s5 hb5 => ?_⟩
        refine ⟨_, rfl, v, _, n, rfl, hb5, hok.put lk l, few, hr'.fine, fun a6 H6 s6 n6 ha6 => ?_⟩
        have hg6 : H6 g = some (.lst ((us ++ [l]).map V.int)) := by
          have := s6 _ _ (s5 _ _ (upd_same (H := H3) (a := g) (o := .lst (us.map V.int ++ [.int l]))))
          rw [List.map_append]
          exact this
        refine ⟨⟨v, a6, _, us ++ [l], rs, rfl, (sH.trans s5).trans s6, hb5.same s6, hok.put lk l, hg6, ha6, (ne_of_none (s5 _ _ upd_same) n6).symm, hr', by simp⟩, ?_⟩
        unfold lenAt
        rw [hg6, hg]
        simp only [List.length_map, List.length_append, List.length_cons, List.length_nil]
        omega
    · rintro σ H Q Q' hq ⟨v, hv, k, h1, h2⟩
      exact ⟨v, hv, k, h1, hq _ _ h2⟩
theorem cal_normal_word (T : Txt K mg C) : Cal P w K mg base "normal_word" 5 (spNormalW K) := by
  refine T.d_normal_word.cal (ps := ["links", "word"]) (fun f fd D => ?_) (fun _ _ _ _ _ _ us hl => match us, hl with | [_, _], _ => rfl)
  refine D.ok sc_normal_word (fun vs H Q E h => ?_) (fun cdv A outer s H vs Q E hr h => ?_)
  · obtain ⟨_, _, _, _, _, _, rfl, _⟩ := h
    rfl
  · obtain ⟨lv, wv, n, lk, us, ws, rfl, hlv, hwv, hlk, hus, hul, hrun, hws, k⟩ := h
    refine ⟨_, (pss_one (ps_ret (pe_cal (cal_normal_of T) (hr.mono (by decide)) (by rfl) (pa_cons (pv 0) (pa_cons (pe_cal (cal_state_of T) (hr.mono (by decide)) (by rfl) (pa_cons (pv 0) (pa_cons (pv 1) pa_nil))) pa_nil))))), ?_⟩
    refine ⟨_, rfl, _, rfl, _, rfl, lv, wv, us, n, lk, rfl, hlv, hwv, hlk, hus, hul, fun v H1 s1 hb => ?_⟩
    exact ⟨lv, v, n, lk, _, ws, rfl, hlv.same s1, hb, hlk, StOk.ahead lk _ (.first n), hrun, hws, fun v' H2 s2 t => k _ _ (s1.trans s2) t⟩
end
end Sk

namespace Sk
open PySem L2 Ow
/-- the state of a word -/
def stOf (bs : List (List Int)) (n : Int) (ws : List Int) : List (List Int) := aheadW (lkOf bs n) (first n.toNat) ws
/-- the word is the normal one -/
def Nw (bs : List (List Int)) (n : Int) (ws us : List Int) : Prop := Runs (lkOf bs n) (stOf bs n ws) us
def SyW (K : PySem.W.Frag) (C : Addr) (H : Hp) (sv wv : V) (n : Int) (bs : List (List Int)) (ws : List Int) : Prop := ∃ (p : Addr) (bv : V), sv = .ref p ∧ SysAt K C H p n bv bs ∧ Valid n bs ∧ TI K H wv ws ∧ Wd n ws
def spNormal (K : PySem.W.Frag) (C : Addr) : Sp := fun vs H Q _ => ∃ (sv wv : V) (n : Int) (bs : List (List Int)) (ws us : List Int), vs = [sv, wv] ∧ SyW K C H sv wv n bs ws ∧ Nw bs n ws us ∧ us.length ≤ 1000 ∧ ∀ v H', Same H H' → TI K H' v us → Q v H'
def spLength (K : PySem.W.Frag) (C : Addr) : Sp := fun vs H Q _ => ∃ (sv wv : V) (n : Int) (bs : List (List Int)) (ws us : List Int), vs = [sv, wv] ∧ SyW K C H sv wv n bs ws ∧ Nw bs n ws us ∧ us.length ≤ 1000 ∧ ∀ H', Same H H' → Q (.int (us.length : Nat)) H'
def spInverse (K : PySem.W.Frag) (C : Addr) : Sp := fun vs H Q _ => ∃ (sv wv : V) (n : Int) (bs : List (List Int)) (ws us : List Int), vs = [sv, wv] ∧ SyW K C H sv wv n bs ws ∧ Nw bs n ws.reverse us ∧ us.length ≤ 1000 ∧ ∀ v H', Same H H' → TI K H' v us → Q v H'
def spProduct (K : PySem.W.Frag) (C : Addr) : Sp := fun vs H Q _ => ∃ (sv wv zv : V) (n : Int) (bs : List (List Int)) (ws zs us : List Int), vs = [sv, wv, zv] ∧ SyW K C H sv wv n bs ws ∧ TI K H zv zs ∧ Wd n zs ∧ Nw bs n (ws ++ zs) us ∧ us.length ≤ 40 ∧ ∀ v H', Same H H' → TI K H' v us → Q v H'
def spLL (K : PySem.W.Frag) (C : Addr) : Sp := fun vs H Q _ => ∃ (sv wv : V) (n : Int) (bs : List (List Int)) (ws : List Int), vs = [sv, wv] ∧ SyW K C H sv wv n bs ws ∧ Fine (stOf bs n ws) ∧ ∀ v H', Same H H' → TI K H' v (lefts (stOf bs n ws)) → Q v H'
def spRL (K : PySem.W.Frag) (C : Addr) : Sp := fun vs H Q _ => ∃ (sv wv : V) (n : Int) (bs : List (List Int)) (ws : List Int), vs = [sv, wv] ∧ SyW K C H sv wv n bs ws ∧ Fine (stOf bs n ws.reverse) ∧ ∀ v H', Same H H' → TI K H' v (lefts (stOf bs n ws.reverse)) → Q v H'
theorem cat_any {K : PySem.W.Frag} {H : Hp} {Q : VK} {a b : Addr} {xs ys : List V} (ha : SqT K H a xs) (hb : SqT K H b ys) (hl : xs.length + ys.length ≤ 1000)
    (q : ∀ v H', Same H H' → (∃ c, v = .ref c ∧ SqT K H' c (xs ++ ys)) → Q v H') : rCatA K (.ref a) (.ref b) H Q :=
  ⟨a, b, xs, ys, rfl, rfl, ha, hb, szl hl, fun e => q _ _ (.refl _) ⟨b, rfl, by rw [e]; exact hb⟩, fun _ e => q _ _ (.refl _) ⟨a, rfl, by rw [e, List.append_nil]; exact ha⟩, fun _ _ p np => q _ _ (same_new np) ⟨p, rfl, .of upd_same⟩⟩
theorem Wd.in_ {n : Int} {ws : List Int} (h : Wd n ws) (h0 : 0 ≤ n) : ∀ x ∈ ws, 0 ≤ x ∧ x < (n.toNat : Nat) := fun x hx => by
  have := h.1 x hx
  omega
section
variable {P : Program} {w : World} {K : PySem.W.Frag} {mg : Str → Option Value} {base : Heap} {C : Addr}
theorem cal_normal (T : Txt K mg C) : Cal P w K mg base "normal" 7 (spNormal K C) := by
  refine T.d_normal.cal (ps := ["system", "word"]) (fun f fd D => ?_) (fun _ _ _ _ _ _ us hl => match us, hl with | [_, _], _ => rfl)
  refine D.ok sc_normal (fun vs H Q E h => ?_) (fun cdv A outer s H vs Q E hr h => ?_)
  · obtain ⟨_, _, _, _, _, _, rfl, _⟩ := h
    rfl
  · obtain ⟨_, wv, n, bs, ws, us, rfl, ⟨p, bv, rfl, y, va, t, hw⟩, hn, hl, k⟩ := h
    have n1 := va.lo
    have h40 := hw.2
    refine ⟨_, (pss_cons (ps_expr (pe_calR (cal_check_words T) (hr.mono (by decide)) (by rfl) (pa_cons (pv 0) (pa_cons (pv 1) pa_nil))))
      (pss_one (ps_ret (pe_cal (cal_normal_word T) (hr.mono (by decide)) (by rfl) (pa_cons (pe_cal (cal_links_of T) (hr.mono (by decide)) (by rfl) (pa_cons (pv 0) pa_nil)) (pa_cons (pv 1) pa_nil)))))), ?_⟩
    refine ⟨_, rfl, _, rfl, p, n, bv, bs, [wv], rfl, by simp, y, fun v hv => ⟨ws, by rw [List.mem_singleton.mp hv]; exact t, hw⟩, fun H1 s1 => ?_⟩
    refine ⟨_, rfl, p, n, bv, bs, rfl, y.same s1, va, fun v2 H2 s2 hlk => ?_⟩
    exact ⟨_, rfl, v2, wv, n.toNat, lkOf bs n, ws, us, rfl, hlk, (t.same s1).same s2, lkOf_ok va, hw.in_ (by omega), by omega, hn, hl, fun v3 H3 s3 t3 => k _ _ ((s1.trans s2).trans s3) t3⟩
theorem cal_length (T : Txt K mg C) : Cal P w K mg base "length" 8 (spLength K C) := by
  refine T.d_length.cal (ps := ["system", "word"]) (fun f fd D => ?_) (fun _ _ _ _ _ _ us hl => match us, hl with | [_, _], _ => rfl)
  refine D.ok sc_length (fun vs H Q E h => ?_) (fun cdv A outer s H vs Q E hr h => ?_)
  · obtain ⟨_, _, _, _, _, _, rfl, _⟩ := h
    rfl
  · obtain ⟨sv, wv, n, bs, ws, us, rfl, hy, hn, hl, k⟩ := h
    refine ⟨_, (pss_one (ps_ret (pe_callB call_len_seq (by rfl) T.b_len (by decide +kernel) (pa_cons (pe_cal (cal_normal T) (hr.mono (by decide)) (by rfl) (pa_cons (pv 0) (pa_cons (pv 1) pa_nil))) pa_nil)))), ?_⟩
    refine ⟨_, rfl, _, rfl, sv, wv, n, bs, ws, us, rfl, hy, hn, hl, fun v H1 s1 ⟨a, e, t⟩ => ⟨a, _, by rw [e], .inr t, ?_⟩⟩
    rw [List.length_map]
    exact k _ s1
theorem cal_inverse (T : Txt K mg C) : Cal P w K mg base "inverse" 7 (spInverse K C) := by
  refine T.d_inverse.cal (ps := ["system", "word"]) (fun f fd D => ?_) (fun _ _ _ _ _ _ us hl => match us, hl with | [_, _], _ => rfl)
  refine D.ok sc_inverse (fun vs H Q E h => ?_) (fun cdv A outer s H vs Q E hr h => ?_)
  · obtain ⟨_, _, _, _, _, _, rfl, _⟩ := h
    rfl
  · obtain ⟨_, wv, n, bs, ws, us, rfl, ⟨p, bv, rfl, y, va, t, hw⟩, hn, hl, k⟩ := h
    have n1 := va.lo
    have h40 := hw.2
    refine ⟨_, (pss_cons (ps_expr (pe_calR (cal_check_words T) (hr.mono (by decide)) (by rfl) (pa_cons (pv 0) (pa_cons (pv 1) pa_nil))))
      (pss_one (ps_ret (pe_cal (cal_normal_word T) (hr.mono (by decide)) (by rfl) (pa_cons (pe_cal (cal_links_of T) (hr.mono (by decide)) (by rfl) (pa_cons (pv 0) pa_nil)) (pa_cons (pe_revT (pv 1)) pa_nil)))))), ?_⟩
    refine ⟨_, rfl, _, rfl, p, n, bv, bs, [wv], rfl, by simp, y, fun v hv => ⟨ws, by rw [List.mem_singleton.mp hv]; exact t, hw⟩, fun H1 s1 => ?_⟩
    refine ⟨_, rfl, p, n, bv, bs, rfl, y.same s1, va, fun v2 H2 s2 hlk => ?_⟩
    obtain ⟨wa, rfl, hwa⟩ := (t.same s1).same s2
    refine ⟨_, rfl, wa, _, rfl, hwa, fun r nr => ?_⟩
    have s3 := same_new (o := .tup (ws.map V.int).reverse) nr
    exact ⟨v2, .ref r, n.toNat, lkOf bs n, ws.reverse, us, rfl, hlk.same s3, ⟨r, rfl, .of (by rw [upd_same, List.map_reverse])⟩, lkOf_ok va, fun x hx => hw.in_ (by omega) x (List.mem_reverse.mp hx), by rw [List.length_reverse]; omega, hn, hl, fun v3 H3 s4 t3 => k _ _ (((s1.trans s2).trans s3).trans s4) t3⟩
theorem cal_product (T : Txt K mg C) : Cal P w K mg base "product" 7 (spProduct K C) := by
  refine T.d_product.cal (ps := ["system", "one", "other"]) (fun f fd D => ?_) (fun _ _ _ _ _ _ us hl => match us, hl with | [_, _, _], _ => rfl)
  refine D.ok sc_product (fun vs H Q E h => ?_) (fun cdv A outer s H vs Q E hr h => ?_)
  · obtain ⟨_, _, _, _, _, _, _, _, rfl, _⟩ := h
    rfl
  · obtain ⟨_, wv, zv, n, bs, ws, zs, us, rfl, ⟨p, bv, rfl, y, va, t, hw⟩, tz, hz, hn, hl, k⟩ := h
    have n1 := va.lo
    have h40 := hw.2
    have z40 := hz.2
    refine ⟨_, (pss_cons (ps_expr (pe_calR (cal_check_words T) (hr.mono (by decide)) (by rfl) (pa_cons (pv 0) (pa_cons (pv 1) (pa_cons (pv 2) pa_nil)))))
      (pss_cons (ps_set (i := 3) sc_product.nd rfl (Or.inl rfl) (pe_cal (cal_normal_word T) (hr.mono (by decide)) (by rfl) (pa_cons (pe_cal (cal_links_of T) (hr.mono (by decide)) (by rfl) (pa_cons (pv 0) pa_nil)) (pa_cons (pe_op op_catA (pv 1) (pv 2)) pa_nil))))
      (pss_cons (ps_if (pt_cmpR op_gt (pe_callB call_len_seq (by rfl) T.b_len (by decide +kernel) (pa_cons (pv 3) pa_nil)) (C8.pe_gc (v := .int 40) (by rfl) T.g_MAX_WORD) (nomark _)) (pss_one ps_never) pss_nil)
      (pss_one (ps_ret (pv 3)))))), ?_⟩
    refine ⟨_, rfl, _, rfl, _, rfl, p, n, bv, bs, [wv, zv], rfl, by simp, y, fun v hv => ?_, fun H1 s1 => ?_⟩
    · rcases List.mem_cons.mp hv with rfl | hv
      · exact ⟨ws, t, hw⟩
      · exact ⟨zs, by rw [List.mem_singleton.mp hv]; exact tz, hz⟩
    refine ⟨_, rfl, p, n, bv, bs, rfl, y.same s1, va, fun v2 H2 s2 hlk => ?_⟩
    obtain ⟨wa, rfl, hwa⟩ := (t.same s1).same s2
    obtain ⟨za, rfl, hza⟩ := (tz.same s1).same s2
    refine ⟨_, rfl, _, rfl, cat_any hwa hza (by rw [List.length_map, List.length_map]; omega) fun v2b H2b s3 hcat => ?_⟩
    obtain ⟨r, rfl, hr2⟩ := hcat
    rw [← List.map_append] at hr2
    refine ⟨v2, .ref r, n.toNat, lkOf bs n, ws ++ zs, us, rfl, hlk.same s3, ⟨r, rfl, hr2⟩, lkOf_ok va, fun x hx => ?_, by rw [List.length_append]; omega, hn, by omega, fun v3 H3 s4 t3 => ?_⟩
    · rcases List.mem_append.mp hx with hx | hx
      · exact hw.in_ (by omega) x hx
      · exact hz.in_ (by omega) x hx
    · obtain ⟨a3, rfl, h3⟩ := t3
      refine ⟨_, rfl, a3, _, rfl, .inr h3, _, _, rfl, rfl, _, rfl, ite2 (fun c => absurd (of_decide_eq_true c) (by rw [List.length_map]; omega)) (fun _ => ?_)⟩
      exact ⟨_, rfl, k _ _ (((s1.trans s2).trans s3).trans s4) ⟨a3, rfl, h3⟩⟩
theorem cal_left_letters (T : Txt K mg C) : Cal P w K mg base "left_letters" 7 (spLL K C) := by
  refine T.d_left_letters.cal (ps := ["system", "word"]) (fun f fd D => ?_) (fun _ _ _ _ _ _ us hl => match us, hl with | [_, _], _ => rfl)
  refine D.ok sc_left_letters (fun vs H Q E h => ?_) (fun cdv A outer s H vs Q E hr h => ?_)
  · obtain ⟨_, _, _, _, _, rfl, _⟩ := h
    rfl
  · obtain ⟨_, wv, n, bs, ws, rfl, ⟨p, bv, rfl, y, va, t, hw⟩, hf, k⟩ := h
    have n1 := va.lo
    have n4 := va.hi
    have h40 := hw.2
    refine ⟨_, (pss_cons (ps_expr (pe_calR (cal_check_words T) (hr.mono (by decide)) (by rfl) (pa_cons (pv 0) (pa_cons (pv 1) pa_nil))))
      (pss_one (ps_ret (pe_callTy call_tuple_of (by rfl) T.b_tuple (by decide +kernel) (pa_cons (pe_cal (cal_left_of T) (hr.mono (by decide)) (by rfl) (pa_cons (pe_cal (cal_state_of T) (hr.mono (by decide)) (by rfl) (pa_cons (pe_cal (cal_links_of T) (hr.mono (by decide)) (by rfl) (pa_cons (pv 0) pa_nil)) (pa_cons (pv 1) pa_nil))) pa_nil)) pa_nil))))), ?_⟩
    refine ⟨_, rfl, _, rfl, p, n, bv, bs, [wv], rfl, by simp, y, fun v hv => ⟨ws, by rw [List.mem_singleton.mp hv]; exact t, hw⟩, fun H1 s1 => ?_⟩
    refine ⟨_, rfl, p, n, bv, bs, rfl, y.same s1, va, fun v2 H2 s2 hlk => ?_⟩
    refine ⟨_, rfl, v2, wv, ws, n.toNat, lkOf bs n, rfl, hlk, (t.same s1).same s2, lkOf_ok va, hw.in_ (by omega), by omega, fun v3 H3 s3 hb => ?_⟩
    refine ⟨v3, _, n.toNat, rfl, hb, StOk.ahead _ _ (.first _), by omega, hf, fun a H4 s4 na ha => ?_⟩
    exact ⟨a, _, rfl, .inl ⟨.of ha, fun t nt => k _ _ ((((s1.trans s2).trans s3).trans s4).trans (same_new nt)) ⟨t, rfl, .of upd_same⟩⟩⟩
theorem cal_right_letters (T : Txt K mg C) : Cal P w K mg base "right_letters" 7 (spRL K C) := by
  refine T.d_right_letters.cal (ps := ["system", "word"]) (fun f fd D => ?_) (fun _ _ _ _ _ _ us hl => match us, hl with | [_, _], _ => rfl)
  refine D.ok sc_right_letters (fun vs H Q E h => ?_) (fun cdv A outer s H vs Q E hr h => ?_)
  · obtain ⟨_, _, _, _, _, rfl, _⟩ := h
    rfl
  · obtain ⟨_, wv, n, bs, ws, rfl, ⟨p, bv, rfl, y, va, t, hw⟩, hf, k⟩ := h
    have n1 := va.lo
    have n4 := va.hi
    have h40 := hw.2
    refine ⟨_, (pss_cons (ps_expr (pe_calR (cal_check_words T) (hr.mono (by decide)) (by rfl) (pa_cons (pv 0) (pa_cons (pv 1) pa_nil))))
      (pss_one (ps_ret (pe_callTy call_tuple_of (by rfl) T.b_tuple (by decide +kernel) (pa_cons (pe_cal (cal_left_of T) (hr.mono (by decide)) (by rfl) (pa_cons (pe_cal (cal_state_of T) (hr.mono (by decide)) (by rfl) (pa_cons (pe_cal (cal_links_of T) (hr.mono (by decide)) (by rfl) (pa_cons (pv 0) pa_nil)) (pa_cons (pe_revT (pv 1)) pa_nil))) pa_nil)) pa_nil))))), ?_⟩
    refine ⟨_, rfl, _, rfl, p, n, bv, bs, [wv], rfl, by simp, y, fun v hv => ⟨ws, by rw [List.mem_singleton.mp hv]; exact t, hw⟩, fun H1 s1 => ?_⟩
    refine ⟨_, rfl, p, n, bv, bs, rfl, y.same s1, va, fun v2 H2 s2 hlk => ?_⟩
    obtain ⟨wa, rfl, hwa⟩ := (t.same s1).same s2
    refine ⟨_, rfl, wa, _, rfl, hwa, fun r nr => ?_⟩
    have s2b := same_new (o := .tup (ws.map V.int).reverse) nr
    refine ⟨v2, .ref r, ws.reverse, n.toNat, lkOf bs n, rfl, hlk.same s2b, ⟨r, rfl, .of (by rw [upd_same, List.map_reverse])⟩, lkOf_ok va, fun x hx => hw.in_ (by omega) x (List.mem_reverse.mp hx), by rw [List.length_reverse]; omega, fun v3 H3 s3 hb => ?_⟩
    refine ⟨v3, _, n.toNat, rfl, hb, StOk.ahead _ _ (.first _), by omega, hf, fun a H4 s4 na ha => ?_⟩
    exact ⟨a, _, rfl, .inl ⟨.of ha, fun t nt => k _ _ (((((s1.trans s2).trans s2b).trans s3).trans s4).trans (same_new nt)) ⟨t, rfl, .of upd_same⟩⟩⟩
end
end Sk

namespace Rt
open Gd
/-! sums of golds above 0 -/
theorem pos_int_add {n t p : Int} (hn : 0 < n) (h : Pos t p) : Pos (n + t) p := by
  rcases h with ⟨h1, h2⟩ | ⟨h1, h2⟩
  · have := sq_le (x := t) (y := n + t) (by omega) (by omega)
    exact .inl ⟨by omega, by omega⟩
  · by_cases e : (n + t) * (n + t) < 5 * (p * p)
    · exact .inr ⟨e, h2⟩
    · have ne : (n + t) * (n + t) ≠ 5 * (p * p) := fun z => by
        have := (irr z).2
        omega
      refine .inl ⟨by omega, ?_⟩
      rcases Int.lt_or_le 0 (n + t) with g | g
      · exact g
      · exfalso
        have := sq_le (x := -(n + t)) (y := -t) (by omega) (by omega)
        rw [Int.neg_mul_neg, Int.neg_mul_neg] at this
        omega
theorem pos_scale {k t p : Int} (hk : 0 < k) (h : Pos t p) : Pos (k * t) (k * p) := by
  have h0 : Pos (2 * k) 0 := .inl ⟨by have := Int.mul_pos (show (0 : Int) < 2 * k by omega) (show (0 : Int) < 2 * k by omega); omega, by omega⟩
  exact pos_mul (by grind) (by grind) h h0
theorem pos_half {t p : Int} (h : Pos (2 * t) (2 * p)) : Pos t p := by
  rcases pos_tri t p with g | g | ⟨rfl, rfl⟩
  · exact g
  · have := pos_scale (k := 2) (by decide) g
    rw [Int.mul_neg, Int.mul_neg] at this
    exact absurd this (pos_not_neg h)
  · exact absurd h pos_zero
theorem pos_of_sg {t p : Int} (h : sg t p = 1) : Pos t p := by
  rcases sg_cases t p with ⟨_, g⟩ | ⟨e, _⟩ | ⟨e, _⟩
  · exact g
  · omega
  · omega
theorem pos_add {t p u q : Int} (h1 : Pos t p) (h2 : Pos u q) : Pos (t + u) (p + q) := by
  have key : ∀ t' p' N : Int, Pos t' p' → 0 < N → N = t * t' + 5 * (p * p') → t * p' + p * t' = 0 → Pos (t + u) (p + q) := fun t' p' N hx hN e1 e2 => by
    have y2 := pos_scale (k := 2) (by decide) h2
    have z : Pos (t' * u + 5 * (p' * q)) (t' * q + p' * u) := pos_mul (by grind) (by grind) hx y2
    have z2 := sg_pos (pos_int_add hN z)
    have m := sg_mul (t := t') (p := p') (u := 2 * (t + u)) (q := 2 * (p + q)) (T := N + (t' * u + 5 * (p' * q))) (P := t' * q + p' * u) (by grind) (by grind)
    rw [z2, sg_pos hx, Int.one_mul] at m
    exact pos_half (pos_of_sg m.symm)
  rcases h1 with ⟨a, b⟩ | ⟨a, b⟩
  · exact key t (-p) (t * t - 5 * (p * p)) (.inl ⟨by rw [Int.neg_mul_neg]; exact a, b⟩) (by omega) (by grind) (by grind)
  · exact key (-t) p (5 * (p * p) - t * t) (.inr ⟨by rw [Int.neg_mul_neg]; exact a, b⟩) (by omega) (by grind) (by grind)
/-! golds -/
abbrev G := Int × Int
def cm (c x : G) : G := (c.1 * x.1 + c.2 * x.2, c.1 * x.2 + c.2 * x.1 + c.2 * x.2)
def ad (x y : G) : G := (x.1 + y.1, x.2 + y.2)
def ng (x : G) : G := (-x.1, -x.2)
noncomputable def sn (x : G) : Int := gs x.1 x.2
def Nn (x : G) : Prop := sn x ≠ -1
theorem sn_val (x : G) : sn x = 1 ∨ sn x = -1 ∨ sn x = 0 := gs_val _ _
theorem sn_cm (c x : G) : sn (cm c x) = sn c * sn x := gs_mul _ _ _ _
theorem sn_ng (x : G) : sn (ng x) = - sn x := gs_opp _ _
theorem sn_zero {x : G} (h : sn x = 0) : x = (0, 0) := by
  have := gs_zero h
  exact Prod.ext this.1 this.2
theorem sn_00 : sn (0, 0) = 0 := gs_00
theorem sn_one {x : G} (h : sn x = 1) : Pos (2 * x.1 + x.2) x.2 := pos_of_sg h
theorem sn_ad1 {x y : G} (h1 : sn x = 1) (h2 : sn y = 1) : sn (ad x y) = 1 := by
  have := pos_add (sn_one h1) (sn_one h2)
  show sg (2 * (x.1 + y.1) + (x.2 + y.2)) (x.2 + y.2) = 1
  refine sg_pos ?_
  rw [show 2 * (x.1 + y.1) + (x.2 + y.2) = 2 * x.1 + x.2 + (2 * y.1 + y.2) by omega]
  exact this
theorem ad_0 (x : G) : ad x (0, 0) = x := by simp [ad]
theorem ad_0l (x : G) : ad (0, 0) x = x := by simp [ad]
theorem sn_adP {x y : G} (h1 : sn x = 1) (h2 : Nn y) : sn (ad x y) = 1 := by
  rcases sn_val y with e | e | e
  · exact sn_ad1 h1 e
  · exact absurd e h2
  · rw [sn_zero e, ad_0]
    exact h1
theorem ad_comm (x y : G) : ad x y = ad y x := by simp [ad, Int.add_comm]
theorem Nn.ad {x y : G} (h1 : Nn x) (h2 : Nn y) : Nn (ad x y) := by
  rcases sn_val x with e | e | e
  · intro z
    rw [sn_adP e h2] at z
    cases z
  · exact absurd e h1
  · rw [sn_zero e, ad_0l]
    exact h2
theorem Nn.cm {c x : G} (h1 : Nn c) (h2 : Nn x) : Nn (cm c x) := by
  intro z
  rw [sn_cm] at z
  rcases sn_val c with e | e | e <;> rcases sn_val x with f | f | f <;> rw [e, f] at z <;> first | exact h1 e | exact h2 f | (exact absurd z (by decide))
theorem Nn.zero : Nn (0, 0) := by
  intro z
  rw [sn_00] at z
  cases z
theorem sn_int (i : Int) (h : 0 < i) : sn (i, 0) = 1 := by
  show gs i 0 = 1
  rw [gs_part0, if_pos h, if_neg (by omega)]
  rfl
theorem Nn.int {i : Int} (h : 0 ≤ i) : Nn (i, 0) := by
  rcases Int.lt_or_eq_of_le h with g | g
  · intro z
    rw [sn_int i g] at z
    cases z
  · rw [← g]
    exact .zero
theorem sn_phi : sn (0, 1) = 1 := gs_ge (by omega) (by omega) (by omega)
theorem Nn.phi : Nn (0, 1) := by
  intro z
  rw [sn_phi] at z
  cases z
end Rt

namespace Rt
open Gd
/-! rows of golds, and what letters make of them -/
abbrev Vc := Nat → G
def sb (x y : G) : G := (x.1 - y.1, x.2 - y.2)
def va (x y : Vc) : Vc := fun k => ad (x k) (y k)
def vm (a : G) (x : Vc) : Vc := fun k => cm a (x k)
def v0 : Vc := fun _ => (0, 0)
def al (s : Nat) : Vc := fun k => if k = s then (1, 0) else (0, 0)
/-- the sum of the numbers that a letter adds to its own -/
def L (c : Nat → Nat → G) (s : Nat) : Nat → Vc → G
  | 0, _ => (0, 0)
  | n + 1, x => ad (L c s n x) (cm (c s n) (x n))
def rf (c : Nat → Nat → G) (n s : Nat) (x : Vc) : Vc := fun k => if k = s then ad (ng (x s)) (L c s n x) else x k
def act (c : Nat → Nat → G) (n : Nat) (w : List Nat) (x : Vc) : Vc := w.foldr (rf c n) x
theorem act_nil (c : Nat → Nat → G) (n : Nat) (x : Vc) : act c n [] x = x := rfl
theorem act_cons (c : Nat → Nat → G) (n s : Nat) (w : List Nat) (x : Vc) : act c n (s :: w) x = rf c n s (act c n w x) := rfl
theorem act_app (c : Nat → Nat → G) (n : Nat) (v w : List Nat) (x : Vc) : act c n (v ++ w) x = act c n v (act c n w x) := by unfold act; rw [List.foldr_append]
variable {c : Nat → Nat → G} {n : Nat}
theorem cm_ad (a x y : G) : cm a (ad x y) = ad (cm a x) (cm a y) := by
  ext <;> simp only [cm, ad] <;> grind
theorem cm_cm (a b x : G) : cm a (cm b x) = cm b (cm a x) := by
  ext <;> simp only [cm] <;> grind
theorem cm_ng (a x : G) : cm a (ng x) = ng (cm a x) := by
  ext <;> simp only [cm, ng] <;> grind
theorem ng_ad (x y : G) : ng (ad x y) = ad (ng x) (ng y) := by
  ext <;> simp only [ad, ng] <;> omega
theorem ad4 (x y z w : G) : ad (ad x y) (ad z w) = ad (ad x z) (ad y w) := by
  ext <;> simp only [ad] <;> omega
theorem ng_ng (x : G) : ng (ng x) = x := by ext <;> simp [ng]
theorem cm_0 (a : G) : cm a (0, 0) = (0, 0) := by ext <;> simp [cm]
theorem cm_1 (a : G) : cm a (1, 0) = a := by ext <;> simp [cm]
theorem cm_one (x : G) : cm (1, 0) x = x := by ext <;> simp [cm]
theorem cm_zero (x : G) : cm (0, 0) x = (0, 0) := by ext <;> simp [cm]
theorem L_va (s : Nat) (x y : Vc) : ∀ m, L c s m (va x y) = ad (L c s m x) (L c s m y)
  | 0 => by simp [L, ad]
  | m + 1 => by
    show ad (L c s m (va x y)) (cm (c s m) (ad (x m) (y m))) = _
    rw [L_va s x y m, cm_ad, ad4]
    rfl
theorem L_vm (s : Nat) (a : G) (x : Vc) : ∀ m, L c s m (vm a x) = cm a (L c s m x)
  | 0 => (cm_0 a).symm
  | m + 1 => by
    show ad (L c s m (vm a x)) (cm (c s m) (cm a (x m))) = cm a (ad (L c s m x) (cm (c s m) (x m)))
    rw [L_vm s a x m, cm_ad, cm_cm a]
theorem rf_at (s : Nat) (x : Vc) : rf c n s x s = ad (ng (x s)) (L c s n x) := if_pos rfl
theorem rf_ne {s k : Nat} (h : k ≠ s) (x : Vc) : rf c n s x k = x k := if_neg h
theorem rf_va (s : Nat) (x y : Vc) : rf c n s (va x y) = va (rf c n s x) (rf c n s y) := by
  funext k
  show rf c n s (va x y) k = ad (rf c n s x k) (rf c n s y k)
  by_cases h : k = s
  · subst h
    rw [rf_at, rf_at, rf_at, L_va, ad4, ← ng_ad]
    rfl
  · rw [rf_ne h, rf_ne h, rf_ne h]
    rfl
theorem rf_vm (s : Nat) (a : G) (x : Vc) : rf c n s (vm a x) = vm a (rf c n s x) := by
  funext k
  show rf c n s (vm a x) k = cm a (rf c n s x k)
  by_cases h : k = s
  · subst h
    rw [rf_at, rf_at, L_vm, cm_ad, cm_ng]
    rfl
  · rw [rf_ne h, rf_ne h]
    rfl
theorem act_va (w : List Nat) (x y : Vc) : act c n w (va x y) = va (act c n w x) (act c n w y) := by
  induction w with
  | nil => rfl
  | cons s w ih => rw [act_cons, act_cons, act_cons, ih, rf_va]
theorem act_vm (w : List Nat) (a : G) (x : Vc) : act c n w (vm a x) = vm a (act c n w x) := by
  induction w with
  | nil => rfl
  | cons s w ih => rw [act_cons, act_cons, ih, rf_vm]
/-- the sum hangs on the numbers alone that stand there -/
theorem L_congr {s : Nat} {x y : Vc} : ∀ {m : Nat}, (∀ k, k < m → x k = y k) → L c s m x = L c s m y
  | 0, _ => rfl
  | m + 1, h => by
    show ad (L c s m x) (cm (c s m) (x m)) = ad (L c s m y) (cm (c s m) (y m))
    rw [L_congr fun k hk => h k (by omega), h m (by omega)]
theorem L_upd {s t : Nat} {x : Vc} {z : G} : ∀ {m : Nat}, t < m → L c s m (fun k => if k = t then z else x k) = ad (L c s m x) (cm (c s t) (sb z (x t)))
  | m + 1, h => by
    show ad (L c s m fun k => if k = t then z else x k) (cm (c s m) (if m = t then z else x m)) = ad (ad (L c s m x) (cm (c s m) (x m))) (cm (c s t) (sb z (x t)))
    by_cases e : m = t
    · subst e
      rw [if_pos rfl, L_congr (y := x) fun k hk => if_neg (by omega)]
      ext <;> simp only [ad, cm, sb] <;> grind
    · rw [if_neg e, L_upd (m := m) (by omega)]
      ext <;> simp only [ad] <;> omega
/-- the numbers of two letters -/
structure Qd where
  x : G
  y : G
  u : G
  w : G
def qd (c : Nat → Nat → G) (n s t : Nat) (x : Vc) : Qd := ⟨x s, x t, L c s n x, L c t n x⟩
def qS (b : G) (q : Qd) : Qd := ⟨ad (ng q.x) q.u, q.y, q.u, ad q.w (cm b (sb (ad (ng q.x) q.u) q.x))⟩
def qT (a : G) (q : Qd) : Qd := ⟨q.x, ad (ng q.y) q.w, ad q.u (cm a (sb (ad (ng q.y) q.w) q.y)), q.w⟩
theorem qd_S {s t : Nat} (hs : s < n) (hn : s ≠ t) (h0 : c s s = (0, 0)) (x : Vc) : qd c n s t (rf c n s x) = qS (c t s) (qd c n s t x) := by
  unfold qd qS rf
  rw [if_pos rfl, if_neg (Ne.symm hn), L_upd hs, L_upd hs, h0, cm_zero, ad_0]
theorem qd_T {s t : Nat} (ht : t < n) (hn : s ≠ t) (h0 : c t t = (0, 0)) (x : Vc) : qd c n s t (rf c n t x) = qT (c s t) (qd c n s t x) := by
  unfold qd qT rf
  rw [if_pos rfl, if_neg hn, L_upd ht, L_upd ht, h0, cm_zero, ad_0]
theorem rf_rf {s : Nat} (hs : s < n) (h0 : c s s = (0, 0)) (x : Vc) : rf c n s (rf c n s x) = x := by
  funext k
  unfold rf
  by_cases h : k = s
  · subst h
    rw [if_pos rfl, if_pos rfl, L_upd hs, h0, cm_zero, ad_0]
    ext <;> simp only [ad, ng] <;> omega
  · rw [if_neg h, if_neg h]
/-- words of two letters by turns, of so many letters, with t at the end -/
def altE : Nat → Nat → Nat → List Nat
  | 0, _, _ => []
  | k + 1, s, t => altE k t s ++ [t]
theorem altE_len : ∀ (k s t : Nat), (altE k s t).length = k
  | 0, _, _ => rfl
  | k + 1, s, t => by
    show (altE k t s ++ [t]).length = k + 1
    rw [List.length_append, altE_len k t s]
    rfl
/-- steps of the numbers of two letters, t ahead -/
def itT (a b : G) : Nat → Qd → Qd
  | 0, q => q
  | 1, q => qT a q
  | k + 2, q => itT a b k (qS b (qT a q))
def itS (a b : G) : Nat → Qd → Qd
  | 0, q => q
  | 1, q => qS b q
  | k + 2, q => itS a b k (qT a (qS b q))
theorem qd_altT {s t : Nat} (hs : s < n) (ht : t < n) (hn : s ≠ t) (h0 : c s s = (0, 0)) (h1 : c t t = (0, 0)) : ∀ (k : Nat) (x : Vc), qd c n s t (act c n (altE k s t) x) = itT (c s t) (c t s) k (qd c n s t x)
  | 0, x => rfl
  | 1, x => qd_T ht hn h1 x
  | k + 2, x => by
    show qd c n s t (act c n ((altE k s t ++ [s]) ++ [t]) x) = _
    rw [act_app, act_app, qd_altT hs ht hn h0 h1 k]
    show itT (c s t) (c t s) k (qd c n s t (rf c n s (rf c n t x))) = itT (c s t) (c t s) k (qS (c t s) (qT (c s t) (qd c n s t x)))
    rw [qd_S hs hn h0, qd_T ht hn h1]
theorem qd_altS {s t : Nat} (hs : s < n) (ht : t < n) (hn : s ≠ t) (h0 : c s s = (0, 0)) (h1 : c t t = (0, 0)) : ∀ (k : Nat) (x : Vc), qd c n s t (act c n (altE k t s) x) = itS (c s t) (c t s) k (qd c n s t x)
  | 0, x => rfl
  | 1, x => qd_S hs hn h0 x
  | k + 2, x => by
    show qd c n s t (act c n ((altE k t s ++ [t]) ++ [s]) x) = _
    rw [act_app, act_app, qd_altS hs ht hn h0 h1 k]
    show itS (c s t) (c t s) k (qd c n s t (rf c n t (rf c n s x))) = itS (c s t) (c t s) k (qT (c s t) (qS (c t s) (qd c n s t x)))
    rw [qd_T ht hn h1, qd_S hs hn h0]
/-- other letters' numbers stay -/
theorem act_off {s t k : Nat} (h1 : k ≠ s) (h2 : k ≠ t) : ∀ (m : Nat) (x : Vc), act c n (altE m s t) x k = x k ∧ act c n (altE m t s) x k = x k
  | 0, x => ⟨rfl, rfl⟩
  | m + 1, x => by
    have ih := act_off h1 h2 m
    constructor
    · show act c n (altE m t s ++ [t]) x k = x k
      rw [act_app, (ih _).2]
      show rf c n t x k = x k
      unfold rf
      rw [if_neg h2]
    · show act c n (altE m s t ++ [s]) x k = x k
      rw [act_app, (ih _).1]
      show rf c n s x k = x k
      unfold rf
      rw [if_neg h1]
/-- what is asked of two letters with a bond: words by turns of so many letters do the same, shorter ones lead the root of the one into the angle -/
structure Dih (a b : G) (m : Nat) : Prop where
  br : m ≠ 0 → ∀ q : Qd, (itT a b m q).x = (itS a b m q).x ∧ (itT a b m q).y = (itS a b m q).y
  nn : ∀ k, (m = 0 ∨ k < m) → Nn (itT a b k ⟨(1, 0), (0, 0), (0, 0), b⟩).x ∧ Nn (itT a b k ⟨(1, 0), (0, 0), (0, 0), b⟩).y
theorem braid {s t m : Nat} (hs : s < n) (ht : t < n) (hn : s ≠ t) (h0 : c s s = (0, 0)) (h1 : c t t = (0, 0)) (D : Dih (c s t) (c t s) m) (hm : m ≠ 0) (x : Vc) : act c n (altE m s t) x = act c n (altE m t s) x := by
  have e1 := qd_altT hs ht hn h0 h1 m x
  have e2 := qd_altS hs ht hn h0 h1 m x
  have b := D.br hm (qd c n s t x)
  rw [← e1, ← e2] at b
  funext k
  by_cases ks : k = s
  · subst ks
    exact b.1
  · by_cases kt : k = t
    · subst kt
      exact b.2
    · rw [(act_off ks kt m x).1, (act_off ks kt m x).2]
theorem L_al (s t : Nat) : ∀ m, L c s m (al t) = if t < m then c s t else (0, 0)
  | 0 => rfl
  | m + 1 => by
    show ad (L c s m (al t)) (cm (c s m) (al t m)) = _
    rw [L_al s t m]
    unfold al
    by_cases e : m = t
    · subst e
      rw [if_pos rfl, if_neg (by omega), if_pos (by omega), cm_1, ad_0l]
    · rw [if_neg e, cm_0, ad_0]
      by_cases h : t < m
      · rw [if_pos h, if_pos (by omega)]
      · rw [if_neg h, if_neg (by omega)]
theorem dih_root {s t m k : Nat} (hs : s < n) (ht : t < n) (hn : s ≠ t) (h0 : c s s = (0, 0)) (h1 : c t t = (0, 0)) (D : Dih (c s t) (c t s) m) (hk : m = 0 ∨ k < m) :
    ∃ A B : G, Nn A ∧ Nn B ∧ act c n (altE k s t) (al s) = va (vm A (al s)) (vm B (al t)) := by
  have e1 := qd_altT hs ht hn h0 h1 k (al s)
  have e0 : qd c n s t (al s) = ⟨(1, 0), (0, 0), (0, 0), c t s⟩ := by
    unfold qd
    rw [L_al, L_al, if_pos hs, if_pos hs, h0]
    unfold al
    rw [if_pos rfl, if_neg (Ne.symm hn)]
  rw [e0] at e1
  have d := D.nn k hk
  rw [← e1] at d
  refine ⟨_, _, d.1, d.2, ?_⟩
  funext j
  unfold va vm
  show _ = ad (cm (act c n (altE k s t) (al s) s) (al s j)) (cm (act c n (altE k s t) (al s) t) (al t j))
  by_cases js : j = s
  · subst js
    rw [show al j j = (1, 0) from if_pos rfl, show al t j = (0, 0) from if_neg hn, cm_1, cm_0, ad_0]
  · by_cases jt : j = t
    · subst jt
      rw [show al j j = (1, 0) from if_pos rfl, show al s j = (0, 0) from if_neg js, cm_1, cm_0, ad_0l]
    · rw [show al s j = (0, 0) from if_neg js, show al t j = (0, 0) from if_neg jt, cm_0, cm_0, ad_0, (act_off js jt k _).1]
      exact if_neg js
end Rt

namespace Rt
open Gd
/-! words that do the same, lengths, and where letters lead roots -/
structure Sys (c : Nat → Nat → G) (n : Nat) (m : Nat → Nat → Nat) : Prop where
  h0 : ∀ s, c s s = (0, 0)
  sym : ∀ s t, m s t = m t s
  dih : ∀ s t, s < n → t < n → s ≠ t → Dih (c s t) (c t s) (m s t)
def In (n : Nat) (w : List Nat) : Prop := ∀ x ∈ w, x < n
inductive Cg (n : Nat) (m : Nat → Nat → Nat) : List Nat → List Nat → Prop
  | rfl (w) : Cg n m w w
  | symm {v w} : Cg n m v w → Cg n m w v
  | trans {u v w} : Cg n m u v → Cg n m v w → Cg n m u w
  | ss (u v) {s} : s < n → Cg n m (u ++ [s, s] ++ v) (u ++ v)
  | br (u v) {s t} : s < n → t < n → s ≠ t → m s t ≠ 0 → Cg n m (u ++ altE (m s t) s t ++ v) (u ++ altE (m s t) t s ++ v)
variable {c : Nat → Nat → G} {n : Nat} {m : Nat → Nat → Nat}
theorem Cg.act (S : Sys c n m) {v w : List Nat} (h : Cg n m v w) : ∀ x, act c n v x = act c n w x := by
  induction h with
  | rfl => intro x; rfl
  | symm _ ih => exact fun x => (ih x).symm
  | trans _ _ i1 i2 => exact fun x => (i1 x).trans (i2 x)
  | ss u v hs =>
    intro x
    rw [act_app, act_app, act_app]
    show Rt.act c n u (rf c n _ (rf c n _ (Rt.act c n v x))) = _
    rw [rf_rf hs (S.h0 _)]
  | br u v hs ht hn hm =>
    intro x
    rw [act_app, act_app, act_app, act_app, braid hs ht hn (S.h0 _) (S.h0 _) (S.dih _ _ hs ht hn) hm]
theorem Cg.par {v w : List Nat} (h : Cg n m v w) : v.length % 2 = w.length % 2 := by
  induction h with
  | rfl => rfl
  | symm _ ih => exact ih.symm
  | trans _ _ i1 i2 => exact i1.trans i2
  | ss u v hs => simp only [List.length_append, List.length_cons, List.length_nil]; omega
  | br u v hs ht hn hm => simp only [List.length_append, altE_len]
theorem Cg.app {v w : List Nat} (h : Cg n m v w) (p q : List Nat) : Cg n m (p ++ v ++ q) (p ++ w ++ q) := by
  induction h with
  | rfl => exact .rfl _
  | symm _ ih => exact .symm ih
  | trans _ _ i1 i2 => exact .trans i1 i2
  | @ss u v s hs =>
    have := Cg.ss (n := n) (m := m) (p ++ u) (v ++ q) hs
    simpa only [List.append_assoc] using this
  | @br u v s t hs ht hn hm =>
    have := Cg.br (n := n) (m := m) (p ++ u) (v ++ q) hs ht hn hm
    simpa only [List.append_assoc] using this
theorem Cg.left {v w : List Nat} (h : Cg n m v w) (p : List Nat) : Cg n m (p ++ v) (p ++ w) := by
  have := h.app p []
  rwa [List.append_nil, List.append_nil] at this
theorem Cg.right {v w : List Nat} (h : Cg n m v w) (q : List Nat) : Cg n m (v ++ q) (w ++ q) := by
  have := h.app [] q
  rwa [List.nil_append, List.nil_append] at this
theorem altE_in {s t : Nat} (hs : s < n) (ht : t < n) : ∀ k, In n (altE k s t) ∧ In n (altE k t s)
  | 0 => ⟨fun x h => (by cases h), fun x h => (by cases h)⟩
  | k + 1 => by
    have ih := altE_in hs ht k
    refine ⟨fun x h => ?_, fun x h => ?_⟩
    · rcases List.mem_append.mp h with h | h
      · exact ih.2 x h
      · rw [List.mem_singleton.mp h]
        exact ht
    · rcases List.mem_append.mp h with h | h
      · exact ih.1 x h
      · rw [List.mem_singleton.mp h]
        exact hs
theorem In.app {v w : List Nat} : In n (v ++ w) ↔ In n v ∧ In n w := by
  unfold In
  simp only [List.mem_append]
  exact ⟨fun h => ⟨fun x hx => h x (.inl hx), fun x hx => h x (.inr hx)⟩, fun h x hx => hx.elim (h.1 x) (h.2 x)⟩
theorem Cg.in_ {v w : List Nat} (h : Cg n m v w) : In n v ↔ In n w := by
  induction h with
  | rfl => exact .rfl
  | symm _ ih => exact ih.symm
  | trans _ _ i1 i2 => exact i1.trans i2
  | @ss u v s hs =>
    rw [In.app, In.app, In.app]
    refine ⟨fun h => ⟨h.1.1, h.2⟩, fun h => ⟨⟨h.1, fun x hx => ?_⟩, h.2⟩⟩
    simp at hx
    omega
  | @br u v s t hs ht hn hm =>
    rw [In.app, In.app, In.app, In.app]
    have := altE_in hs ht (m s t)
    exact ⟨fun h => ⟨⟨h.1.1, this.2⟩, h.2⟩, fun h => ⟨⟨h.1.1, this.1⟩, h.2⟩⟩
theorem altE_rev : ∀ (k s t : Nat), (altE k s t).reverse = if k % 2 = 1 then altE k s t else altE k t s
  | 0, _, _ => rfl
  | 1, _, _ => rfl
  | k + 2, s, t => by
    have cons : ∀ (k s t : Nat), altE (k + 1) s t = (if k % 2 = 0 then t else s) :: altE k s t := fun k => by
      induction k with
      | zero => intro s t; rfl
      | succ k ih =>
        intro s t
        show altE (k + 1) t s ++ [t] = _
        rw [ih t s, List.cons_append]
        show _ :: altE (k + 1) s t = _
        congr 1
        by_cases h : k % 2 = 0
        · rw [if_pos h, if_neg (by omega)]
        · rw [if_neg h, if_pos (by omega)]
    have e : altE (k + 2) s t = altE (k + 1) t s ++ [t] := rfl
    rw [e, List.reverse_append, altE_rev (k + 1) t s, List.reverse_cons, List.reverse_nil, List.nil_append, List.singleton_append]
    by_cases h : k % 2 = 1
    · rw [if_neg (by omega), if_pos (by omega)]
      have := cons (k + 1) s t
      rw [if_pos (by omega)] at this
      exact this.symm
    · rw [if_pos (by omega), if_neg (by omega)]
      have := cons (k + 1) t s
      rw [if_neg (by omega)] at this
      exact this.symm
theorem Cg.rev {v w : List Nat} (h : Cg n m v w) : Cg n m v.reverse w.reverse := by
  induction h with
  | rfl => exact .rfl _
  | symm _ ih => exact .symm ih
  | trans _ _ i1 i2 => exact .trans i1 i2
  | @ss u v s hs =>
    have := Cg.ss (n := n) (m := m) v.reverse u.reverse hs
    simpa [List.reverse_append] using this
  | @br u v s t hs ht hn hm =>
    rw [List.reverse_append, List.reverse_append, List.reverse_append, List.reverse_append, altE_rev, altE_rev, ← List.append_assoc, ← List.append_assoc]
    by_cases k : m s t % 2 = 1
    · rw [if_pos k, if_pos k]
      exact .br _ _ hs ht hn hm
    · rw [if_neg k, if_neg k]
      exact .symm (.br _ _ hs ht hn hm)
/-! lengths -/
theorem exists_min {P : Nat → Prop} : ∀ {N : Nat}, P N → ∃ d, P d ∧ d ≤ N ∧ ∀ e, e < d → ¬ P e := by
  intro N
  induction N using Nat.strongRecOn with
  | _ N ih =>
    intro h
    by_cases q : ∃ e, e < N ∧ P e
    · obtain ⟨e, he, pe⟩ := q
      obtain ⟨d, pd, hd, mn⟩ := ih e he pe
      exact ⟨d, pd, by omega, mn⟩
    · exact ⟨N, h, Nat.le_refl _, fun e he pe => q ⟨e, he, pe⟩⟩
def Has (n : Nat) (m : Nat → Nat → Nat) (w : List Nat) (N : Nat) : Prop := ∃ r, Cg n m w r ∧ r.length = N
theorem has_min (n : Nat) (m : Nat → Nat → Nat) (w : List Nat) : ∃ d, Has n m w d ∧ ∀ e, e < d → ¬ Has n m w e := by
  obtain ⟨d, h1, _, h2⟩ := exists_min (P := Has n m w) (N := w.length) ⟨w, .rfl w, rfl⟩
  exact ⟨d, h1, h2⟩
noncomputable def len (n : Nat) (m : Nat → Nat → Nat) (w : List Nat) : Nat := Classical.choose (has_min n m w)
theorem len_has (w : List Nat) : ∃ r, Cg n m w r ∧ r.length = len n m w := (Classical.choose_spec (has_min n m w)).1
theorem len_le {w r : List Nat} (h : Cg n m w r) : len n m w ≤ r.length := by
  rcases Nat.lt_or_ge r.length (len n m w) with g | g
  · exact absurd ⟨r, h, rfl⟩ ((Classical.choose_spec (has_min n m w)).2 _ g)
  · exact g
theorem len_congr {v w : List Nat} (h : Cg n m v w) : len n m v = len n m w := by
  obtain ⟨r, h1, e1⟩ := len_has (n := n) (m := m) v
  obtain ⟨q, h2, e2⟩ := len_has (n := n) (m := m) w
  have a := len_le (h.symm.trans h1)
  have b := len_le (h.trans h2)
  omega
theorem len_self (w : List Nat) : len n m w ≤ w.length := len_le (.rfl w)
theorem len_par (w : List Nat) : len n m w % 2 = w.length % 2 := by
  obtain ⟨r, h1, e1⟩ := len_has (n := n) (m := m) w
  rw [← e1, h1.par]
theorem len_app (v w : List Nat) : len n m (v ++ w) ≤ len n m v + len n m w := by
  obtain ⟨r, h1, e1⟩ := len_has (n := n) (m := m) v
  obtain ⟨q, h2, e2⟩ := len_has (n := n) (m := m) w
  have := len_le ((h1.right w).trans (h2.left r))
  rw [List.length_append] at this
  omega
theorem drop2 {s : Nat} (hs : s < n) (w : List Nat) : Cg n m ((w ++ [s]) ++ [s]) w := by
  have := Cg.ss (n := n) (m := m) w [] hs
  simpa using this
theorem len_snoc {s : Nat} (hs : s < n) (w : List Nat) : len n m (w ++ [s]) = len n m w + 1 ∨ len n m (w ++ [s]) + 1 = len n m w := by
  have a := len_app (n := n) (m := m) w [s]
  have b := len_app (n := n) (m := m) (w ++ [s]) [s]
  have d := len_self (n := n) (m := m) [s]
  have e := len_congr (drop2 (m := m) hs w)
  have p1 := len_par (n := n) (m := m) w
  have p2 := len_par (n := n) (m := m) (w ++ [s])
  rw [List.length_append] at p2
  simp only [List.length_cons, List.length_nil] at p2 d
  omega
theorem len_rev (w : List Nat) : len n m w.reverse = len n m w := by
  have h : ∀ w, len n m w.reverse ≤ len n m w := fun w => by
    obtain ⟨r, h1, e1⟩ := len_has (n := n) (m := m) w
    have := len_le h1.rev
    rw [List.length_reverse] at this
    omega
  have a := h w
  have b := h w.reverse
  rw [List.reverse_reverse] at b
  omega
/-- words of two letters -/
theorem two_letters {s t : Nat} (hs : s < n) (ht : t < n) (u : List Nat) : (∀ x ∈ u, x = s ∨ x = t) → (u = altE u.length s t ∨ u = altE u.length t s) ∨ ∃ u', Cg n m u u' ∧ u'.length < u.length := by
  have go : ∀ r : List Nat, (∀ x ∈ r.reverse, x = s ∨ x = t) → (r.reverse = altE r.reverse.length s t ∨ r.reverse = altE r.reverse.length t s) ∨ ∃ u', Cg n m r.reverse u' ∧ u'.length < r.reverse.length := by
    intro r
    induction r with
    | nil => intro _; exact .inl (.inl rfl)
    | cons x r ih =>
      intro h
      rw [List.reverse_cons] at h ⊢
      have hr : ∀ y ∈ r.reverse, y = s ∨ y = t := fun y hy => h y (List.mem_append_left _ hy)
      have hx := h x (by simp)
      have ll : (r.reverse ++ [x]).length = r.reverse.length + 1 := by simp
      rw [ll]
      have base : ∀ p q : Nat, p < n → q < n → r.reverse = altE r.reverse.length p q → (x = p ∨ x = q) → (r.reverse ++ [x] = altE (r.reverse.length + 1) p q ∨ r.reverse ++ [x] = altE (r.reverse.length + 1) q p) ∨ ∃ u', Cg n m (r.reverse ++ [x]) u' ∧ u'.length < r.reverse.length + 1 := fun p q hp hq e hx => by
        rcases hx with rfl | rfl
        · refine .inl (.inr ?_)
          show _ = altE r.reverse.length x q ++ [x]
          rw [← e]
        · cases hk : r.reverse.length with
          | zero =>
            have : r.reverse = [] := List.eq_nil_of_length_eq_zero hk
            rw [this]
            exact .inl (.inl rfl)
          | succ k =>
            rw [hk] at e
            refine .inr ⟨altE k x p, ?_, by rw [altE_len]; omega⟩
            rw [e]
            exact drop2 hq _
      rcases ih hr with (e | e) | ⟨u', h1, h2⟩
      · exact base s t hs ht e hx
      · rcases base t s ht hs e hx.symm with h | h
        · exact .inl h.symm
        · exact .inr h
      · exact .inr ⟨u' ++ [x], h1.right _, by simp; simpa using h2⟩
  intro h
  have := go u.reverse
  rw [List.reverse_reverse] at this
  exact this h
theorem altE_split (j : Nat) : ∀ (k s t : Nat), ∃ p : List Nat, altE (j + k) s t = p ++ altE k s t ∧ p.length = j
  | 0, s, t => ⟨altE j s t, by simp [altE], altE_len _ _ _⟩
  | k + 1, s, t => by
    obtain ⟨p, e, h⟩ := altE_split j k t s
    refine ⟨p, ?_, h⟩
    show altE (j + k) t s ++ [t] = p ++ (altE k t s ++ [t])
    rw [e, List.append_assoc]
theorem al_nn (s k : Nat) : Nn (al s k) := by
  unfold al
  by_cases h : k = s
  · rw [if_pos h]
    exact .int (by decide)
  · rw [if_neg h]
    exact .zero
/-- a letter that makes a member longer at its end has its root led above 0 -/
theorem pos_main (S : Sys c n m) : ∀ (N : Nat) (w : List Nat) (s : Nat), In n w → s < n → len n m w = N → len n m w < len n m (w ++ [s]) → ∀ k, Nn (act c n w (al s) k) := by
  intro N
  induction N using Nat.strongRecOn with
  | _ N ih =>
    intro w s hw hs hN hlt
    obtain ⟨r, hr, er⟩ := len_has (n := n) (m := m) w
    rcases List.eq_nil_or_concat r with e | ⟨r', t, e⟩
    · intro k
      rw [hr.act S, e]
      exact al_nn s k
    rw [List.concat_eq_append] at e
    subst e
    have inr := hr.in_.mp hw
    rw [In.app] at inr
    have ht : t < n := inr.2 t (by simp)
    rw [List.length_append] at er
    simp only [List.length_cons, List.length_nil] at er
    have hts : s ≠ t := by
      rintro rfl
      have := len_le ((hr.right [s]).trans (drop2 hs r'))
      omega
    obtain ⟨d, ⟨v, u, inv, inu, cg, hl, hd⟩, dN, mn⟩ := exists_min (P := fun d => ∃ v u : List Nat, In n v ∧ (∀ x ∈ u, x = s ∨ x = t) ∧ Cg n m w (v ++ u) ∧ v.length + u.length = N ∧ v.length = d) (N := N - 1)
      ⟨r', [t], inr.1, fun x hx => .inr (List.mem_singleton.mp hx), hr, by simp; omega, by omega⟩
    have lv : len n m v = d := by
      have a := len_self (n := n) (m := m) v
      have b := len_app (n := n) (m := m) v u
      have e := len_congr cg
      have f := len_self (n := n) (m := m) u
      omega
    have up : ∀ q, q = s ∨ q = t → q < n → len n m v < len n m (v ++ [q]) := fun q hq hqn => by
      rcases len_snoc (m := m) hqn v with g | g
      · omega
      · exfalso
        obtain ⟨v', h1, e1⟩ := len_has (n := n) (m := m) (v ++ [q])
        refine mn (d - 1) (by omega) ⟨v', q :: u, h1.in_.mp (In.app.mpr ⟨inv, fun x hx => by rw [List.mem_singleton.mp hx]; exact hqn⟩), fun x hx => ?_, ?_, by simp only [List.length_cons]; omega, by omega⟩
        · rcases List.mem_cons.mp hx with rfl | hx
          · exact hq
          · exact inu x hx
        · refine cg.trans (.trans (.symm ?_) (.trans (h1.right (q :: u)) (.rfl _)))
          have := Cg.ss (n := n) (m := m) v u hqn
          simpa using this
    have pv : ∀ q, q = s ∨ q = t → q < n → ∀ k, Nn (act c n v (al q) k) := fun q hq hqn => ih d (by omega) v q inv hqn lv (up q hq hqn)
    have noshort : ∀ z : List Nat, Cg n m w z → ¬ z.length < N := fun z hz g => by
      have := len_le hz
      omega
    have noshort2 : ∀ z : List Nat, Cg n m (w ++ [s]) z → ¬ z.length < N := fun z hz g => by
      have := len_le hz
      omega
    rcases two_letters (m := m) hs ht u inu with (e | e) | ⟨u', h1, h2⟩
    · -- t at the end
      have kb : m s t = 0 ∨ u.length < m s t := by
        by_cases z : m s t = 0
        · exact .inl z
        · right
          rcases Nat.lt_or_ge u.length (m s t) with g | g
          · exact g
          · exfalso
            obtain ⟨p, ep, lp⟩ := altE_split (u.length - m s t) (m s t) s t
            rw [show u.length - m s t + m s t = u.length by omega] at ep
            obtain ⟨k, ek⟩ : ∃ k, m s t = k + 1 := ⟨m s t - 1, by omega⟩
            have e1 : Cg n m u ((p ++ altE k s t) ++ [s]) := by
              have := Cg.br (n := n) (m := m) p [] hs ht hts z
              rw [List.append_nil, List.append_nil] at this
              rw [e, ep]
              refine this.trans ?_
              rw [ek]
              show Cg n m (p ++ (altE k s t ++ [s])) _
              rw [List.append_assoc]
              exact .rfl _
            have e2 : Cg n m (w ++ [s]) (v ++ (p ++ altE k s t)) := by
              refine ((cg.trans (e1.left v)).right [s]).trans ?_
              have := drop2 (m := m) hs (v ++ (p ++ altE k s t))
              simpa only [List.append_assoc] using this
            refine noshort2 _ e2 ?_
            simp only [List.length_append, altE_len]
            omega
      obtain ⟨A, B, nA, nB, eq⟩ := dih_root hs ht hts (S.h0 s) (S.h0 t) (S.dih s t hs ht hts) kb
      intro k
      rw [cg.act S, act_app, e, eq, act_va, act_vm, act_vm]
      exact (nA.cm (pv s (.inl rfl) hs k)).ad (nB.cm (pv t (.inr rfl) ht k))
    · -- s at the end
      exfalso
      cases hk : u.length with
      | zero => omega
      | succ k =>
        rw [hk] at e
        refine noshort2 (v ++ altE k s t) ?_ (by simp only [List.length_append, altE_len]; omega)
        rw [e] at cg
        refine (cg.right [s]).trans ?_
        have := drop2 (m := m) hs (v ++ altE k s t)
        simpa only [altE, List.append_assoc] using this
    · exfalso
      refine noshort (v ++ u') (cg.trans (h1.left v)) ?_
      rw [List.length_append]
      omega
end Rt

namespace Rt
open Gd
/-! the bonds -/
theorem nn_of {q : Qd} {i j : Nat} (h : q.x = ((i : Int), 0) ∧ q.y = ((j : Int), 0)) : Nn q.x ∧ Nn q.y := by
  rw [h.1, h.2]
  exact ⟨.int (by omega), .int (by omega)⟩
theorem dih2 : Dih (0, 0) (0, 0) 2 := by
  refine ⟨fun _ q => ?_, fun k hk => ?_⟩
  · obtain ⟨⟨a, b⟩, ⟨d, e⟩, ⟨f, g⟩, ⟨h, i⟩⟩ := q
    simp only [itT, itS, qS, qT, cm, ad, ng, sb, Prod.mk.injEq]
    omega
  · rcases k with _ | _ | k
    · exact nn_of (i := 1) (j := 0) (by decide)
    · exact nn_of (i := 1) (j := 0) (by decide)
    · omega
theorem dih3 : Dih (1, 0) (1, 0) 3 := by
  refine ⟨fun _ q => ?_, fun k hk => ?_⟩
  · obtain ⟨⟨a, b⟩, ⟨d, e⟩, ⟨f, g⟩, ⟨h, i⟩⟩ := q
    simp only [itT, itS, qS, qT, cm, ad, ng, sb, Prod.mk.injEq]
    omega
  · rcases k with _ | _ | _ | k
    · exact nn_of (i := 1) (j := 0) (by decide)
    · exact nn_of (i := 1) (j := 1) (by decide)
    · exact nn_of (i := 0) (j := 1) (by decide)
    · omega
theorem dih4 : Dih (1, 0) (2, 0) 4 := by
  refine ⟨fun _ q => ?_, fun k hk => ?_⟩
  · obtain ⟨⟨a, b⟩, ⟨d, e⟩, ⟨f, g⟩, ⟨h, i⟩⟩ := q
    simp only [itT, itS, qS, qT, cm, ad, ng, sb, Prod.mk.injEq]
    omega
  · rcases k with _ | _ | _ | _ | k
    · exact nn_of (i := 1) (j := 0) (by decide)
    · exact nn_of (i := 1) (j := 2) (by decide)
    · exact nn_of (i := 1) (j := 2) (by decide)
    · exact nn_of (i := 1) (j := 0) (by decide)
    · omega
theorem dih4' : Dih (2, 0) (1, 0) 4 := by
  refine ⟨fun _ q => ?_, fun k hk => ?_⟩
  · obtain ⟨⟨a, b⟩, ⟨d, e⟩, ⟨f, g⟩, ⟨h, i⟩⟩ := q
    simp only [itT, itS, qS, qT, cm, ad, ng, sb, Prod.mk.injEq]
    omega
  · rcases k with _ | _ | _ | _ | k
    · exact nn_of (i := 1) (j := 0) (by decide)
    · exact nn_of (i := 1) (j := 1) (by decide)
    · exact nn_of (i := 1) (j := 1) (by decide)
    · exact nn_of (i := 1) (j := 0) (by decide)
    · omega
theorem dih6 : Dih (1, 0) (3, 0) 6 := by
  refine ⟨fun _ q => ?_, fun k hk => ?_⟩
  · obtain ⟨⟨a, b⟩, ⟨d, e⟩, ⟨f, g⟩, ⟨h, i⟩⟩ := q
    simp only [itT, itS, qS, qT, cm, ad, ng, sb, Prod.mk.injEq]
    omega
  · rcases k with _ | _ | _ | _ | _ | _ | k
    · exact nn_of (i := 1) (j := 0) (by decide)
    · exact nn_of (i := 1) (j := 3) (by decide)
    · exact nn_of (i := 2) (j := 3) (by decide)
    · exact nn_of (i := 2) (j := 3) (by decide)
    · exact nn_of (i := 1) (j := 3) (by decide)
    · exact nn_of (i := 1) (j := 0) (by decide)
    · omega
theorem dih6' : Dih (3, 0) (1, 0) 6 := by
  refine ⟨fun _ q => ?_, fun k hk => ?_⟩
  · obtain ⟨⟨a, b⟩, ⟨d, e⟩, ⟨f, g⟩, ⟨h, i⟩⟩ := q
    simp only [itT, itS, qS, qT, cm, ad, ng, sb, Prod.mk.injEq]
    omega
  · rcases k with _ | _ | _ | _ | _ | _ | k
    · exact nn_of (i := 1) (j := 0) (by decide)
    · exact nn_of (i := 1) (j := 1) (by decide)
    · exact nn_of (i := 2) (j := 1) (by decide)
    · exact nn_of (i := 2) (j := 1) (by decide)
    · exact nn_of (i := 1) (j := 1) (by decide)
    · exact nn_of (i := 1) (j := 0) (by decide)
    · omega
theorem dih5 : Dih (0, 1) (0, 1) 5 := by
  refine ⟨fun _ q => ?_, fun k hk => ?_⟩
  · obtain ⟨⟨a, b⟩, ⟨d, e⟩, ⟨f, g⟩, ⟨h, i⟩⟩ := q
    simp only [itT, itS, qS, qT, cm, ad, ng, sb, Prod.mk.injEq]
    omega
  · rcases k with _ | _ | _ | _ | _ | k
    · exact nn_of (i := 1) (j := 0) (by decide)
    · rw [show itT (0, 1) (0, 1) (0 + 1) ⟨(1, 0), (0, 0), (0, 0), (0, 1)⟩ = ⟨(1, 0), (0, 1), (1, 1), (0, 1)⟩ from rfl]
      exact ⟨.int (i := 1) (by decide), .phi⟩
    · rw [show itT (0, 1) (0, 1) (0 + 1 + 1) ⟨(1, 0), (0, 0), (0, 0), (0, 1)⟩ = ⟨(0, 1), (0, 1), (1, 1), (1, 1)⟩ from rfl]
      exact ⟨.phi, .phi⟩
    · rw [show itT (0, 1) (0, 1) (0 + 1 + 1 + 1) ⟨(1, 0), (0, 0), (0, 0), (0, 1)⟩ = ⟨(0, 1), (1, 0), (0, 1), (1, 1)⟩ from rfl]
      exact ⟨.phi, .int (i := 1) (by decide)⟩
    · exact nn_of (i := 0) (j := 1) (by decide)
    · omega
theorem dih0 : Dih (2, 0) (2, 0) 0 := by
  refine ⟨fun h => absurd rfl h, fun k _ => ?_⟩
  have go : ∀ k (i : Int), 0 ≤ i → Nn (itT (2, 0) (2, 0) k ⟨(i + 1, 0), (i, 0), (2 * i, 0), (2 * i + 2, 0)⟩).x ∧ Nn (itT (2, 0) (2, 0) k ⟨(i + 1, 0), (i, 0), (2 * i, 0), (2 * i + 2, 0)⟩).y := by
    intro k
    induction k using Nat.strongRecOn with
    | _ k ih =>
      intro i hi
      rcases k with _ | _ | k
      · exact ⟨.int (by omega), .int hi⟩
      · have e : itT (2, 0) (2, 0) (0 + 1) ⟨(i + 1, 0), (i, 0), (2 * i, 0), (2 * i + 2, 0)⟩ = ⟨(i + 1, 0), (i + 2, 0), (2 * i + 4, 0), (2 * i + 2, 0)⟩ := by
          simp only [itT, qT, cm, ad, ng, sb, Qd.mk.injEq, Prod.mk.injEq]
          refine ⟨trivial, ⟨?_, ?_⟩, ⟨?_, ?_⟩, trivial⟩ <;> omega
        rw [e]
        exact ⟨.int (by omega), .int (by omega)⟩
      · have e : itT (2, 0) (2, 0) (k + 1 + 1) ⟨(i + 1, 0), (i, 0), (2 * i, 0), (2 * i + 2, 0)⟩ = itT (2, 0) (2, 0) k ⟨(i + 2 + 1, 0), (i + 2, 0), (2 * (i + 2), 0), (2 * (i + 2) + 2, 0)⟩ := by
          show itT (2, 0) (2, 0) k (qS (2, 0) (qT (2, 0) _)) = _
          congr 1
          simp only [qS, qT, cm, ad, ng, sb, Qd.mk.injEq, Prod.mk.injEq]
          omega
        rw [e]
        exact ih k (by omega) (i + 2) (by omega)
  exact go k 0 (by decide)
/-! below 0 -/
variable {c : Nat → Nat → G} {n : Nat} {m : Nat → Nat → Nat}
theorem act_rev (S : Sys c n m) : ∀ {w : List Nat}, In n w → ∀ x, act c n w.reverse (act c n w x) = x
  | [], _, x => rfl
  | s :: w, h, x => by
    rw [List.reverse_cons, act_app, act_cons]
    show act c n w.reverse (rf c n s (rf c n s (act c n w x))) = x
    rw [rf_rf (h s (by simp)) (S.h0 s), act_rev S (fun y hy => h y (by simp [hy]))]
theorem act_far {w : List Nat} (h : In n w) (x : Vc) {k : Nat} (hk : n ≤ k) : act c n w x k = x k := by
  induction w with
  | nil => rfl
  | cons s w ih =>
    rw [act_cons, rf_ne (by have := h s (by simp); omega), ih fun y hy => h y (by simp [hy])]
theorem L_v0 (s : Nat) : ∀ k, L c s k v0 = (0, 0)
  | 0 => rfl
  | k + 1 => by
    show ad (L c s k v0) (cm (c s k) (0, 0)) = _
    rw [L_v0 s k, cm_0, ad_0]
theorem act_v0 (w : List Nat) : act c n w v0 = v0 := by
  induction w with
  | nil => rfl
  | cons s w ih =>
    rw [act_cons, ih]
    funext k
    by_cases h : k = s
    · subst h
      rw [rf_at, L_v0]
      rfl
    · rw [rf_ne h]
theorem act_ne (S : Sys c n m) {w : List Nat} (h : In n w) {s : Nat} (hs : s < n) : ∃ k, k < n ∧ act c n w (al s) k ≠ (0, 0) := by
  refine Classical.byContradiction fun no => ?_
  have z : act c n w (al s) = v0 := by
    funext k
    rcases Nat.lt_or_ge k n with g | g
    · exact Classical.byContradiction fun q => no ⟨k, g, q⟩
    · rw [act_far h _ g]
      exact if_neg (by omega)
  have := act_rev S h (al s)
  rw [z, act_v0] at this
  have := congrFun this s
  rw [show al s s = (1, 0) from if_pos rfl] at this
  cases this
theorem rf_al (S : Sys c n m) {s : Nat} (hs : s < n) : rf c n s (al s) = vm (-1, 0) (al s) := by
  funext k
  unfold vm
  by_cases h : k = s
  · subst h
    rw [rf_at, L_al, if_pos hs, S.h0, show al k k = (1, 0) from if_pos rfl]
    rfl
  · rw [rf_ne h, show al s k = (0, 0) from if_neg h, cm_0]
theorem act_snoc (S : Sys c n m) {s : Nat} (hs : s < n) (w : List Nat) : act c n (w ++ [s]) (al s) = vm (-1, 0) (act c n w (al s)) := by
  rw [act_app]
  show act c n w (rf c n s (al s)) = _
  rw [rf_al S hs, act_vm]
theorem cm_m1 (x : G) : cm (-1, 0) x = ng x := by ext <;> simp [cm, ng]
/-- a letter that makes a member shorter at its end has its root led below 0 -/
theorem neg_main (S : Sys c n m) {w : List Nat} {s : Nat} (hw : In n w) (hs : s < n) (h : len n m (w ++ [s]) < len n m w) (k : Nat) : Nn (ng (act c n w (al s) k)) := by
  have e := len_congr (drop2 (m := m) hs w)
  have := pos_main S _ (w ++ [s]) s (In.app.mpr ⟨hw, fun x hx => by rw [List.mem_singleton.mp hx]; exact hs⟩) hs rfl (by omega) k
  rw [act_snoc S hs] at this
  unfold vm at this
  rw [cm_m1] at this
  exact this
/-- some number of a row is below 0 -/
def Low (n : Nat) (x : Vc) : Prop := ∃ k, k < n ∧ sn (x k) = -1
theorem sn_neg {x : G} (h : Nn (ng x)) (h2 : x ≠ (0, 0)) : sn x = -1 := by
  rcases sn_val x with e | e | e
  · exact absurd (by rw [sn_ng, e]) h
  · exact e
  · exact absurd (sn_zero e) h2
theorem low_iff (S : Sys c n m) {w : List Nat} {s : Nat} (hw : In n w) (hs : s < n) : Low n (act c n w (al s)) ↔ len n m (w ++ [s]) < len n m w := by
  rcases len_snoc (m := m) hs w with g | g
  · constructor
    · rintro ⟨k, _, e⟩
      exact absurd e (pos_main S _ w s hw hs rfl (by omega) k)
    · intro h
      omega
  · refine ⟨fun _ => by omega, fun h => ?_⟩
    obtain ⟨k, hk, ne⟩ := act_ne S hw hs
    exact ⟨k, hk, sn_neg (neg_main S hw hs h k) ne⟩
/-- the sum of the numbers of a row -/
def Sm : Nat → Vc → G
  | 0, _ => (0, 0)
  | k + 1, x => ad (Sm k x) (x k)
theorem Sm_nn {x : Vc} (h : ∀ k, Nn (x k)) : ∀ k, Nn (Sm k x)
  | 0 => .zero
  | k + 1 => (Sm_nn h k).ad (h k)
theorem Sm_pos {x : Vc} (h : ∀ k, Nn (x k)) {j : Nat} (hj : sn (x j) = 1) : ∀ {k : Nat}, j < k → sn (Sm k x) = 1
  | k + 1, hk => by
    show sn (ad (Sm k x) (x k)) = 1
    rcases Nat.lt_or_ge j k with g | g
    · exact sn_adP (Sm_pos h hj g) (h k)
    · have : j = k := by omega
      subst this
      rw [ad_comm]
      exact sn_adP hj (Sm_nn h j)
theorem Sm_vm (a : G) (x : Vc) : ∀ k, Sm k (vm a x) = cm a (Sm k x)
  | 0 => (cm_0 a).symm
  | k + 1 => by
    show ad (Sm k (vm a x)) (cm a (x k)) = cm a (ad (Sm k x) (x k))
    rw [Sm_vm a x k, cm_ad]
theorem Sm_va (x y : Vc) : ∀ k, Sm k (va x y) = ad (Sm k x) (Sm k y)
  | 0 => by simp [Sm, ad]
  | k + 1 => by
    show ad (Sm k (va x y)) (ad (x k) (y k)) = _
    rw [Sm_va x y k, ad4]
    rfl
theorem sum_iff (S : Sys c n m) {w : List Nat} {s : Nat} (hw : In n w) (hs : s < n) : sn (Sm n (act c n w (al s))) = -1 ↔ len n m (w ++ [s]) < len n m w := by
  rcases len_snoc (m := m) hs w with g | g
  · constructor
    · intro e
      exact absurd e (Sm_nn (pos_main S _ w s hw hs rfl (by omega)) n)
    · intro h
      omega
  · refine ⟨fun _ => by omega, fun h => ?_⟩
    obtain ⟨k, hk, ne⟩ := act_ne S hw hs
    have e := sn_neg (neg_main S hw hs h k) ne
    have hn : ∀ j, Nn (vm (-1, 0) (act c n w (al s)) j) := fun j => by
      unfold vm
      rw [cm_m1]
      exact neg_main S hw hs h j
    have := Sm_pos hn (j := k) (by unfold vm; rw [cm_m1, sn_ng, e]; rfl) hk
    rw [Sm_vm, cm_m1, sn_ng] at this
    omega
end Rt

namespace Rt
open Gd
variable {c : Nat → Nat → G} {n : Nat} {m : Nat → Nat → Nat}
/-! letters ahead -/
theorem len_cons {s : Nat} (hs : s < n) (w : List Nat) : len n m (s :: w) = len n m w + 1 ∨ len n m (s :: w) + 1 = len n m w := by
  have := len_snoc (m := m) hs w.reverse
  rw [← List.reverse_cons, len_rev, len_rev] at this
  exact this
theorem In.rev {w : List Nat} (h : In n w) : In n w.reverse := fun x hx => h x (List.mem_reverse.mp hx)
theorem In.tail {s : Nat} {w : List Nat} (h : In n (s :: w)) : In n w := fun x hx => h x (by simp [hx])
theorem In.cons {s : Nat} {w : List Nat} (hs : s < n) (h : In n w) : In n (s :: w) := fun x hx => by
  rcases List.mem_cons.mp hx with rfl | hx
  · exact hs
  · exact h x hx
/-- the frame of a member: where the undone member leads the roots of the letters -/
def fr (c : Nat → Nat → G) (n : Nat) (w : List Nat) (i : Nat) : Vc := act c n w.reverse (al i)
theorem left_iff (S : Sys c n m) {w : List Nat} {s : Nat} (hw : In n w) (hs : s < n) : Low n (fr c n w s) ↔ len n m (s :: w) < len n m w := by
  have := low_iff S hw.rev hs
  rw [← List.reverse_cons, len_rev, len_rev] at this
  exact this
theorem leftS_iff (S : Sys c n m) {w : List Nat} {s : Nat} (hw : In n w) (hs : s < n) : sn (Sm n (fr c n w s)) = -1 ↔ len n m (s :: w) < len n m w := by
  have := sum_iff S hw.rev hs
  rw [← List.reverse_cons, len_rev, len_rev] at this
  exact this
theorem cons2 {s : Nat} (hs : s < n) (w : List Nat) : Cg n m (s :: s :: w) w := by
  have := Cg.ss (n := n) (m := m) [] w hs
  simpa using this
theorem Cg.cons {v w : List Nat} (h : Cg n m v w) (s : Nat) : Cg n m (s :: v) (s :: w) := h.left [s]
theorem has_left {w : List Nat} (hw : In n w) (h : 0 < len n m w) : ∃ s, s < n ∧ len n m (s :: w) < len n m w := by
  obtain ⟨r, hr, er⟩ := len_has (n := n) (m := m) w
  cases r with
  | nil => simp at er; omega
  | cons s r =>
    have ir := hr.in_.mp hw
    have hs := ir s (by simp)
    refine ⟨s, hs, ?_⟩
    have := len_le ((hr.cons s).trans (cons2 hs r))
    rw [List.length_cons] at er
    omega
/-- the least left letter, time after time -/
inductive Nf (n : Nat) (m : Nat → Nat → Nat) : List Nat → List Nat → Prop
  | done {w} : (∀ s, s < n → ¬ len n m (s :: w) < len n m w) → Nf n m w []
  | step {w us s} : s < n → len n m (s :: w) < len n m w → (∀ t, t < s → ¬ len n m (t :: w) < len n m w) → Nf n m (s :: w) us → Nf n m w (s :: us)
theorem Nf.ex : ∀ (N : Nat) {w : List Nat}, In n w → len n m w = N → ∃ us, Nf n m w us
  | N, w, hw, e => by
    induction N using Nat.strongRecOn generalizing w with
    | _ N ih =>
      by_cases h : ∃ s, s < n ∧ len n m (s :: w) < len n m w
      · obtain ⟨s, hs⟩ := h
        obtain ⟨d, ⟨d1, d2⟩, dle, mn⟩ := exists_min (P := fun s => s < n ∧ len n m (s :: w) < len n m w) hs
        obtain ⟨us, hu⟩ := ih (len n m (d :: w)) (by omega) (d :: w) (In.cons d1 hw) rfl
        exact ⟨d :: us, .step d1 d2 (fun t ht z => mn t ht ⟨by omega, z⟩) hu⟩
      · exact ⟨[], .done fun s hs z => h ⟨s, hs, z⟩⟩
theorem Nf.cg {w us : List Nat} (h : Nf n m w us) : In n w → Cg n m w us ∧ us.length = len n m w := by
  induction h with
  | @done w h =>
    intro hw
    have z : len n m w = 0 := by
      rcases Nat.eq_zero_or_pos (len n m w) with g | g
      · exact g
      · obtain ⟨s, hs, q⟩ := has_left hw g
        exact absurd q (h s hs)
    obtain ⟨r, hr, er⟩ := len_has (n := n) (m := m) w
    rw [z] at er
    rw [List.eq_nil_of_length_eq_zero er] at hr
    exact ⟨hr, z.symm⟩
  | @step w us s hs hl _ _ ih =>
    intro hw
    have i := ih (In.cons hs hw)
    refine ⟨(cons2 hs w).symm.trans (i.1.cons s), ?_⟩
    rw [List.length_cons, i.2]
    rcases len_cons (m := m) hs w with g | g <;> omega
/-- frames tell members -/
theorem fr_cons (S : Sys c n m) {s : Nat} (hs : s < n) (w : List Nat) {i : Nat} (hi : i < n) : fr c n (s :: w) i = if i = s then vm (-1, 0) (fr c n w s) else va (fr c n w i) (vm (c s i) (fr c n w s)) := by
  unfold fr
  rw [List.reverse_cons, act_app]
  show act c n w.reverse (rf c n s (al i)) = _
  by_cases h : i = s
  · subst h
    rw [if_pos rfl, rf_al S hs, act_vm]
  · rw [if_neg h, ← act_vm, ← act_va]
    congr 1
    funext k
    unfold va vm
    by_cases ks : k = s
    · subst ks
      rw [rf_at, L_al]
      rw [show al i k = (0, 0) from if_neg (Ne.symm h), show al k k = (1, 0) from if_pos rfl, cm_1]
      rw [if_pos hi]
      simp [ad, ng]
    · rw [rf_ne ks, show al s k = (0, 0) from if_neg ks, cm_0, ad_0]
theorem Nf.same (S : Sys c n m) {w us : List Nat} (h : Nf n m w us) : ∀ {v : List Nat}, In n w → In n v → (∀ i, i < n → fr c n v i = fr c n w i) → Nf n m v us := by
  induction h with
  | @done w h =>
    intro v hw hv e
    refine .done fun s hs z => h s hs ?_
    rw [← left_iff S hv hs, e s hs, left_iff S hw hs] at z
    exact z
  | @step w us s hs hl hm _ ih =>
    intro v hw hv e
    refine .step hs ?_ (fun t ht z => hm t ht ?_) (ih (In.cons hs hw) (In.cons hs hv) fun i hi => ?_)
    · rw [← left_iff S hv hs, e s hs, left_iff S hw hs]
      exact hl
    · have htn : t < n := by omega
      rw [← left_iff S hv htn, e t htn, left_iff S hw htn] at z
      exact z
    · rw [fr_cons S hs _ hi, fr_cons S hs _ hi, e s hs, e i hi]
theorem faith (S : Sys c n m) {v w : List Nat} (hv : In n v) (hw : In n w) (e : ∀ i, i < n → fr c n v i = fr c n w i) : Cg n m v w := by
  obtain ⟨us, hu⟩ := Nf.ex (m := m) _ hw rfl
  exact ((hu.same S hw hv e).cg hv).1.trans (hu.cg hw).1.symm
theorem Cg.fr (S : Sys c n m) {v w : List Nat} (h : Cg n m v w) (i : Nat) : Rt.fr c n v i = Rt.fr c n w i := h.rev.act S (al i)
theorem Nf.det : ∀ {w us vs : List Nat}, Nf n m w us → Nf n m w vs → us = vs
  | _, _, _, .done _, .done _ => rfl
  | _, _, _, .done h, .step hs hl _ _ => absurd hl (h _ hs)
  | _, _, _, .step hs hl _ _, .done h => absurd hl (h _ hs)
  | _, _, _, .step (s := s) hs hl hm k, .step (s := t) ht hl' hm' k' => by
    have : s = t := by
      rcases Nat.lt_trichotomy s t with g | g | g
      · exact absurd hl (hm' s g)
      · exact g
      · exact absurd hl' (hm t g)
    subst this
    rw [Nf.det k k']
/-! leaving out two letters -/
theorem cm_cancel {g y : G} (hg : sn g = 1) (h : cm g y = (0, 0)) : y = (0, 0) := by
  refine sn_zero ?_
  have := sn_cm g y
  rw [h, hg, sn_00] at this
  omega
theorem nn_both {x : G} (h1 : Nn x) (h2 : Nn (ng x)) : x = (0, 0) := by
  rcases sn_val x with e | e | e
  · exact absurd (by rw [sn_ng, e]) h2
  · exact absurd e h1
  · exact sn_zero e
theorem dich (S : Sys c n m) {w : List Nat} (hw : In n w) {s : Nat} (hs : s < n) : (∀ k, Nn (act c n w (al s) k)) ∨ (∀ k, Nn (ng (act c n w (al s) k))) := by
  rcases len_snoc (m := m) hs w with g | g
  · exact .inl (pos_main S _ w s hw hs rfl (by omega))
  · exact .inr (neg_main S hw hs (by omega))
/-- a root that one letter turns is that letter's own -/
theorem turned (S : Sys c n m) {b : List Nat} {x q : Nat} (hb : In n b) (hx : x < n) (hq : q < n) (h1 : len n m b < len n m (b ++ [q])) (h2 : len n m (x :: b ++ [q]) < len n m (x :: b)) :
    ∃ g, sn g = 1 ∧ act c n b (al q) = vm g (al x) := by
  have p := pos_main S _ b q hb hq rfl h1
  have nn := neg_main S (In.cons hx hb) hq h2
  have other : ∀ k, k ≠ x → act c n b (al q) k = (0, 0) := fun k hk => by
    have := nn k
    rw [act_cons, rf_ne hk] at this
    exact nn_both (p k) this
  refine ⟨act c n b (al q) x, ?_, ?_⟩
  · obtain ⟨k, hk, ne⟩ := act_ne S hb hq
    have kx : k = x := Classical.byContradiction fun z => ne (other k z)
    subst kx
    rcases sn_val (act c n b (al q) k) with e | e | e
    · exact e
    · exact absurd e (p k)
    · exact absurd (sn_zero e) ne
  · funext k
    unfold vm
    by_cases h : k = x
    · subst h
      rw [show al k k = (1, 0) from if_pos rfl, cm_1]
    · rw [show al x k = (0, 0) from if_neg h, cm_0, other k h]
theorem rf_add (s : Nat) (y : Vc) : rf c n s y = va y (vm (ad (ng (y s)) (sb (L c s n y) (y s))) (al s)) := by
  funext k
  unfold va vm
  by_cases h : k = s
  · subst h
    rw [rf_at, show al k k = (1, 0) from if_pos rfl, cm_1]
    ext <;> simp only [ad, ng, sb] <;> omega
  · rw [rf_ne h, show al s k = (0, 0) from if_neg h, cm_0, ad_0]
theorem exchange (S : Sys c n m) {b : List Nat} {x q : Nat} (hb : In n b) (hx : x < n) (hq : q < n) (h1 : len n m b < len n m (b ++ [q])) (h2 : len n m (x :: b ++ [q]) < len n m (x :: b)) :
    Cg n m (x :: b ++ [q]) b := by
  obtain ⟨γ, hγ, eβ⟩ := turned S hb hx hq h1 h2
  have inT : In n (b ++ [q] ++ b.reverse) := In.app.mpr ⟨In.app.mpr ⟨hb, fun y hy => by rw [List.mem_singleton.mp hy]; exact hq⟩, hb.rev⟩
  have ing : In n (x :: (b ++ [q] ++ b.reverse)) := In.cons hx inT
  -- the turned one
  have tT : ∀ z : Vc, ∃ τ : G, act c n (b ++ [q] ++ b.reverse) z = va z (vm τ (al x)) := fun z => by
    rw [act_app, act_app]
    show ∃ τ, act c n b (rf c n q (act c n b.reverse z)) = _
    rw [rf_add, act_va, act_vm, eβ]
    have := act_rev S hb.rev z
    rw [List.reverse_reverse] at this
    rw [this]
    refine ⟨cm (ad (ng (act c n b.reverse z q)) (sb (L c q n (act c n b.reverse z)) (act c n b.reverse z q))) γ, ?_⟩
    congr 1
    funext k
    unfold vm
    by_cases h : k = x
    · subst h
      rw [show al k k = (1, 0) from if_pos rfl, cm_1, cm_1]
    · rw [show al x k = (0, 0) from if_neg h, cm_0, cm_0, cm_0]
  have gz : ∀ z : Vc, ∃ τ : G, act c n (x :: (b ++ [q] ++ b.reverse)) z = va z (vm τ (al x)) := fun z => by
    obtain ⟨τ, e⟩ := tT z
    rw [act_cons, e, rf_add]
    refine ⟨ad τ (ad (ng (va z (vm τ (al x)) x)) (sb (L c x n (va z (vm τ (al x)))) (va z (vm τ (al x)) x))), ?_⟩
    funext k
    unfold va vm
    by_cases h : k = x
    · subst h
      rw [show al k k = (1, 0) from if_pos rfl, cm_1, cm_1, cm_1]
      ext <;> simp only [ad] <;> omega
    · rw [show al x k = (0, 0) from if_neg h, cm_0, cm_0, cm_0, ad_0, ad_0]
  -- it keeps the letter's root
  have tx : act c n (b ++ [q] ++ b.reverse) (al x) = vm (-1, 0) (al x) := by
    have e1 : act c n (b ++ [q] ++ b.reverse) (vm γ (al x)) = vm (-1, 0) (vm γ (al x)) := by
      rw [← eβ, act_app, act_rev S hb, act_snoc S hq]
    obtain ⟨τ, e⟩ := tT (al x)
    rw [act_vm, e] at e1
    have e2 := congrFun e1 x
    unfold vm va at e2
    have e2 : cm γ (ad (al x x) (cm τ (al x x))) = cm (-1, 0) (cm γ (al x x)) := e2
    rw [show al x x = (1, 0) from if_pos rfl, cm_1, cm_1, cm_m1] at e2
    have e3 : cm γ (ad (ad (1, 0) τ) (1, 0)) = (0, 0) := by
      rw [cm_ad, e2, cm_1]
      ext <;> simp only [ad, ng] <;> omega
    have e4 := cm_cancel hγ e3
    rw [e]
    funext k
    unfold va vm
    by_cases h : k = x
    · subst h
      rw [show al k k = (1, 0) from if_pos rfl, cm_1, cm_1]
      have z := e4
      simp only [ad, Prod.mk.injEq] at z ⊢
      omega
    · rw [show al x k = (0, 0) from if_neg h, cm_0, cm_0, ad_0]
  have gx : act c n (x :: (b ++ [q] ++ b.reverse)) (al x) = al x := by
    rw [act_cons, tx, rf_vm, rf_al S hx]
    funext k
    unfold vm
    rw [cm_m1, cm_m1, ng_ng]
  -- it keeps all roots
  have gk : ∀ k, k < n → act c n (x :: (b ++ [q] ++ b.reverse)) (al k) = al k := fun k hk => by
    by_cases kx : k = x
    · subst kx
      exact gx
    obtain ⟨τ, e⟩ := gz (al k)
    have one : ∀ {w : List Nat} {σ : G}, In n w → act c n w (al k) = va (al k) (vm σ (al x)) → Nn σ := fun {w σ} hw e => by
      rcases dich S hw hk with d | d
      · have := d x
        rw [e] at this
        unfold va vm at this
        rw [show al k x = (0, 0) from if_neg (Ne.symm kx), show al x x = (1, 0) from if_pos rfl, cm_1, ad_0l] at this
        exact this
      · have := d k
        rw [e] at this
        unfold va vm at this
        rw [show al k k = (1, 0) from if_pos rfl, show al x k = (0, 0) from if_neg kx, cm_0, ad_0] at this
        exact absurd (by rw [sn_ng, sn_int 1 (by decide)]) this
    have a1 := one ing e
    have inv : act c n (x :: (b ++ [q] ++ b.reverse)).reverse (al k) = va (al k) (vm (ng τ) (al x)) := by
      have g2 : act c n (x :: (b ++ [q] ++ b.reverse)) (va (al k) (vm (ng τ) (al x))) = al k := by
        rw [act_va, act_vm, gx, e]
        funext j
        unfold va vm
        by_cases h : j = x
        · subst h
          rw [show al j j = (1, 0) from if_pos rfl, cm_1, cm_1]
          ext <;> simp only [ad, ng] <;> omega
        · rw [show al x j = (0, 0) from if_neg h, cm_0, cm_0, ad_0, ad_0]
      have := act_rev S ing (va (al k) (vm (ng τ) (al x)))
      rw [g2] at this
      exact this
    have a2 := one ing.rev inv
    have τ0 := nn_both a1 a2
    rw [e, τ0]
    funext j
    unfold va vm
    rw [cm_zero, ad_0]
  have c1 : Cg n m (x :: (b ++ [q] ++ b.reverse)).reverse [] := faith S ing.rev (fun y hy => by cases hy) fun i hi => by
    unfold fr
    rw [List.reverse_reverse, gk i hi]
    rfl
  have c2 : Cg n m (x :: (b ++ [q] ++ b.reverse)) [] := by
    have := c1.rev
    rw [List.reverse_reverse] at this
    exact this
  have back : Cg n m (b.reverse ++ b) [] := by
    refine faith S (In.app.mpr ⟨hb.rev, hb⟩) (fun y hy => by cases hy) fun i _ => ?_
    unfold fr
    rw [List.reverse_append, List.reverse_reverse, act_app, act_rev S hb]
    rfl
  have e1 : Cg n m (x :: b ++ [q]) ((x :: (b ++ [q] ++ b.reverse)) ++ b) := by
    have := (back.symm).left (x :: b ++ [q])
    rw [List.append_nil] at this
    refine this.trans ?_
    rw [show x :: b ++ [q] ++ (b.reverse ++ b) = (x :: (b ++ [q] ++ b.reverse)) ++ b by simp]
    exact .rfl _
  exact e1.trans (c2.right b)
/-- a word that is not a shortest one: two letters can be left out -/
theorem leave_two (S : Sys c n m) {w : List Nat} (hw : In n w) (h : len n m w < w.length) : ∃ a x b q d, w = a ++ x :: b ++ q :: d ∧ Cg n m w (a ++ b ++ d) := by
  -- the shortest beginning that is not shortest
  obtain ⟨N, ⟨p, q, d, ew, el⟩, _, mn⟩ := exists_min (P := fun N => ∃ p q d, w = p ++ q :: d ∧ len n m (p ++ [q]) < p.length + 1 ∧ p.length = N) (N := w.length - 1) (by
    rcases List.eq_nil_or_concat w with e | ⟨p, q, e⟩
    · rw [e] at h
      simp at h
    · rw [List.concat_eq_append] at e
      refine ⟨p, q, [], e, ?_, ?_⟩
      · rw [← e]
        rw [e, List.length_append] at h
        simpa [e] using h
      · rw [e]
        simp)
  obtain ⟨el, eN⟩ := el
  have inw := hw
  rw [ew] at inw
  have inp := (In.app.mp inw).1
  have hq : q < n := inw q (by simp)
  have lp : len n m p = p.length := by
    rcases Nat.lt_or_ge (len n m p) p.length with g | g
    · exfalso
      rcases List.eq_nil_or_concat p with e | ⟨p', q', e⟩
      · rw [e] at g
        simp at g
      · rw [List.concat_eq_append] at e
        refine mn p'.length (by rw [← eN, e]; simp) ⟨p', q', q :: d, by rw [ew, e]; simp, ?_, rfl⟩
        rw [← e]
        rw [e] at g ⊢
        simpa using g
    · exact Nat.le_antisymm (len_self p) g
  have down : len n m (p ++ [q]) < len n m p := by
    rcases len_snoc (m := m) hq p with g | g <;> omega
  -- where it turns
  have find : ∀ p : List Nat, In n p → len n m (p ++ [q]) < len n m p → ∃ a x b, p = a ++ x :: b ∧ len n m b < len n m (b ++ [q]) ∧ len n m (x :: b ++ [q]) < len n m (x :: b) := fun p => by
    induction p with
    | nil =>
      intro _ h
      have := len_self (n := n) (m := m) []
      simp at this
      omega
    | cons x p ih =>
      intro hi h
      rcases len_snoc (m := m) hq p with g | g
      · exact ⟨[], x, p, rfl, by omega, h⟩
      · obtain ⟨a, y, b, e, h1, h2⟩ := ih hi.tail (by omega)
        exact ⟨x :: a, y, b, by rw [e]; rfl, h1, h2⟩
  obtain ⟨a, x, b, ep, h1, h2⟩ := find p inp down
  have inb : In n b := fun y hy => inp y (by rw [ep]; simp [hy])
  have hx : x < n := inp x (by rw [ep]; simp)
  refine ⟨a, x, b, q, d, by rw [ew, ep], ?_⟩
  have := (exchange S inb hx hq h1 h2).app a d
  rw [ew, ep]
  simpa using this
end Rt

namespace Sk
open PySem L2 Ow
/-! systems as matrices of golds -/
def gl (x : List Int) : Rt.G := (x.getD 0 0, x.getD 1 0)
def cB (bs : List (List Int)) (i j : Nat) : Rt.G := if i = j then (0, 0) else gl (fac bs i j)
def cT (bs : List (List Int)) (i j : Nat) : Rt.G := cB bs j i
def mB (bs : List (List Int)) (i j : Nat) : Nat := (bondOf bs i j).toNat
theorem bondOf_symm (bs : List (List Int)) (i j : Int) : bondOf bs i j = bondOf bs j i := by
  unfold bondOf
  have : isPr i j = isPr j i := by
    funext t
    unfold isPr
    rw [Bool.or_comm]
  rw [this]
theorem dih_of {n : Int} {bs : List (List Int)} (va : Valid n bs) {s t : Nat} (h : s ≠ t) : Rt.Dih (cB bs s t) (cB bs t s) (mB bs s t) := by
  have ok := bondOf_ok va s t
  unfold cB mB
  rw [if_neg h, if_neg (Ne.symm h)]
  unfold fac
  rw [bondOf_symm bs t s]
  rcases Nat.lt_or_gt_of_ne h with g | g
  · rw [if_pos (show (s : Int) < t by omega), if_neg (show ¬ (t : Int) < s by omega)]
    rcases ok with e | e | e | e | e | e <;> rw [e]
    · exact Rt.dih0
    · exact Rt.dih2
    · exact Rt.dih3
    · exact Rt.dih4
    · exact Rt.dih5
    · exact Rt.dih6
  · rw [if_neg (show ¬ (s : Int) < t by omega), if_pos (show (t : Int) < s by omega)]
    rcases ok with e | e | e | e | e | e <;> rw [e]
    · exact Rt.dih0
    · exact Rt.dih2
    · exact Rt.dih3
    · exact Rt.dih4'
    · exact Rt.dih5
    · exact Rt.dih6'
theorem sysB {n : Int} {bs : List (List Int)} (va : Valid n bs) : Rt.Sys (cB bs) n.toNat (mB bs) :=
  ⟨fun s => if_pos rfl, fun s t => by unfold mB; rw [bondOf_symm], fun s t _ _ h => dih_of va h⟩
theorem sysT {n : Int} {bs : List (List Int)} (va : Valid n bs) : Rt.Sys (cT bs) n.toNat (mB bs) :=
  ⟨fun s => if_pos rfl, fun s t => by unfold mB; rw [bondOf_symm], fun s t _ _ h => by
    have := dih_of va (Ne.symm h)
    have e : mB bs t s = mB bs s t := by unfold mB; rw [bondOf_symm]
    rw [e] at this
    exact this⟩
theorem c_small {n : Int} {bs : List (List Int)} (va : Valid n bs) (i j : Nat) : 0 ≤ (cB bs i j).1 ∧ (cB bs i j).1 ≤ 3 ∧ 0 ≤ (cB bs i j).2 ∧ (cB bs i j).2 ≤ 3 := by
  unfold cB
  split
  · decide
  · obtain ⟨w, p, e, b⟩ := fac_two va i j
    rw [e]
    show 0 ≤ w ∧ w ≤ 3 ∧ 0 ≤ p ∧ p ≤ 3
    omega
/-! states as sums -/
def pr2 (x : Rt.G) : List Int := [x.1, x.2]
def stL (n : Nat) (S : Nat → Rt.G) : List (List Int) := (List.range n).map fun i => pr2 (S i)
theorem stL_len (n : Nat) (S : Nat → Rt.G) : (stL n S).length = n := by unfold stL; rw [List.length_map, List.length_range]
theorem stL_get {n : Nat} {S : Nat → Rt.G} {i : Nat} (h : i < n) : (stL n S)[i]? = some (pr2 (S i)) := by
  unfold stL
  rw [List.getElem?_map, List.getElem?_range h]
  rfl
theorem stL_getD {n : Nat} {S : Nat → Rt.G} {i : Nat} (h : i < n) : (stL n S).getD i [] = pr2 (S i) := by
  rw [List.getD_eq_getElem?_getD, stL_get h]
  rfl
theorem stL_ok (n : Nat) (S : Nat → Rt.G) : StOk n (stL n S) := ⟨stL_len n S, fun x hx => by
  unfold stL at hx
  obtain ⟨i, _, rfl⟩ := List.mem_map.mp hx
  exact ⟨_, _, rfl⟩⟩
theorem eq_stL {n : Nat} {st : List (List Int)} {S : Nat → Rt.G} (hl : st.length = n) (h : ∀ i, i < n → st.getD i [] = pr2 (S i)) : st = stL n S := by
  refine List.ext_getElem? fun i => ?_
  rcases Nat.lt_or_ge i n with g | g
  · rw [stL_get g, ← h i g, List.getD_eq_getElem?_getD, List.getElem?_eq_getElem (by omega)]
    rfl
  · rw [List.getElem?_eq_none (by omega), List.getElem?_eq_none (by rw [stL_len]; omega)]
def updG (f : List Int) (g : Rt.G) (x : List Int) : List Int := [x.getD 0 0 + f.getD 0 0 * g.1 + f.getD 1 0 * g.2, x.getD 1 0 + f.getD 0 0 * g.2 + f.getD 1 0 * (g.1 + g.2)]
theorem getD_set {α : Type} {xs : List α} {i k : Nat} {x d : α} (hk : k < xs.length) : (xs.set i x).getD k d = if k = i then x else xs.getD k d := by
  rw [List.getD_eq_getElem?_getD, List.getElem?_set, List.getD_eq_getElem?_getD]
  by_cases h : i = k
  · subst h
    rw [if_pos rfl, if_pos hk, if_pos rfl]
    rfl
  · rw [if_neg h, if_neg (Ne.symm h)]
theorem step_fac {n : Int} {bs : List (List Int)} (va : Valid n bs) (g : Rt.G) (ns : List (List Int)) (o l : Int) : step1 g.1 g.2 ns (o :: fac bs o l) = ns.set o.toNat (updG (fac bs o l) g (ns.getD o.toNat [])) := by
  obtain ⟨w, p, e, _⟩ := fac_two va o l
  rw [e]
  rfl
theorem fold_put {n : Int} {bs : List (List Int)} (va : Valid n bs) (g : Rt.G) (l : Int) : ∀ (os : List Int) (ns : List (List Int)), os.Nodup → (∀ o ∈ os, 0 ≤ o) → ∀ k, k < ns.length →
    ((os.map fun o => o :: fac bs o l).foldl (step1 g.1 g.2) ns).getD k [] = if (k : Int) ∈ os then updG (fac bs k l) g (ns.getD k []) else ns.getD k []
  | [], ns, _, _, k, _ => by simp
  | o :: os, ns, hn, h0, k, hk => by
    rw [List.map_cons, List.foldl_cons, step_fac va]
    have nd := List.nodup_cons.mp hn
    rw [fold_put va g l os _ nd.2 (fun x hx => h0 x (by simp [hx])) k (by rw [List.length_set]; exact hk), getD_set hk]
    have o0 := h0 o (by simp)
    by_cases e : k = o.toNat
    · have e2 : (k : Int) = o := by omega
      rw [if_pos e, e2, if_neg nd.1, if_pos (by simp), e]
    · have e2 : (k : Int) ≠ o := by omega
      rw [if_neg e]
      have : ((k : Int) ∈ o :: os) ↔ (k : Int) ∈ os := by simp [e2]
      by_cases q : (k : Int) ∈ os
      · rw [if_pos q, if_pos (this.mpr q)]
      · rw [if_neg q, if_neg (fun z => q (this.mp z))]
theorem upto_nodup (n : Int) : (upto n).Nodup := by
  unfold upto List.Nodup
  rw [List.pairwise_map]
  exact (List.pairwise_lt_range (n := n.toNat)).imp fun {a b} h => by omega
theorem put_stL {n : Int} {bs : List (List Int)} (va : Valid n bs) (S : Nat → Rt.G) {l : Nat} (hl : l < n.toNat) :
    putA (lkOf bs n) (stL n.toNat S) l = stL n.toNat fun o => if o = l then Rt.ng (S l) else Rt.ad (S o) (Rt.cm (cB bs o l) (S l)) := by
  have hl2 : (l : Int).toNat = l := by omega
  have lkl : (lkOf bs n).getD l [] = trip bs n l := by
    unfold lkOf
    rw [List.getD_eq_getElem?_getD, List.getElem?_map, upto_get hl]
    show trip bs n (0 + (l : Nat)) = _
    rw [Int.zero_add]
  refine eq_stL (StOk.put (stL_ok _ S) _ _).len fun k hk => ?_
  unfold putA
  rw [hl2, lkl, stL_getD hl]
  show (List.foldl (step1 (S l).1 (S l).2) ((stL n.toNat S).set l [-(S l).1, -(S l).2]) (trip bs n l)).getD k [] = _
  have nd : ((oth n l).filter fun o => nz (fac bs o l)).Nodup := by
    unfold oth
    exact ((upto_nodup n).filter _).filter _
  unfold trip
  rw [fold_put va (S l) l _ _ nd (fun o ho => by
    have := (mem_oth.mp (List.mem_filter.mp ho).1).1
    omega) k (by rw [List.length_set, stL_len]; exact hk), getD_set (by rw [stL_len]; exact hk), stL_getD hk]
  by_cases e : k = l
  · subst e
    rw [if_pos rfl, if_pos rfl, if_neg]
    · rfl
    · intro z
      exact (mem_oth.mp (List.mem_filter.mp z).1).2 rfl
  · rw [if_neg e, if_neg e]
    have ce : cB bs k l = gl (fac bs k l) := if_neg e
    obtain ⟨w, p, ef, _⟩ := fac_two va (k : Int) (l : Int)
    have mo : (k : Int) ∈ oth n l := mem_oth.mpr ⟨by omega, by omega⟩
    rw [ce, ef]
    by_cases z : nz (fac bs k l) = true
    · rw [if_pos (List.mem_filter.mpr ⟨mo, z⟩)]
      show [_, _] = [_, _]
      congr 1
      · show (S k).1 + w * (S l).1 + p * (S l).2 = (S k).1 + (w * (S l).1 + p * (S l).2)
        omega
      · congr 1
        show (S k).2 + w * (S l).2 + p * ((S l).1 + (S l).2) = (S k).2 + (w * (S l).2 + p * (S l).1 + p * (S l).2)
        rw [Int.mul_add]
        omega
    · have zz : ¬ (k : Int) ∈ (oth n l).filter fun o => nz (fac bs o l) := fun q => z (List.mem_filter.mp q).2
      rw [if_neg zz]
      rw [ef] at z
      have wz : w = 0 ∧ p = 0 := by
        have z' : ¬ (w != 0 || p != 0) = true := z
        simpa using z'
      rw [wz.1, wz.2]
      show pr2 (S k) = pr2 (Rt.ad (S k) (Rt.cm (0, 0) (S l)))
      rw [Rt.cm_zero, Rt.ad_0]
def castW (w : List Nat) : List Int := w.map fun i : Nat => (i : Int)
theorem Sm_al {n i : Nat} (h : i < n) : Rt.Sm n (Rt.al i) = (1, 0) := by
  have go : ∀ k, Rt.Sm k (Rt.al i) = if i < k then (1, 0) else (0, 0) := fun k => by
    induction k with
    | zero => rfl
    | succ k ih =>
      show Rt.ad (Rt.Sm k (Rt.al i)) (Rt.al i k) = _
      rw [ih]
      unfold Rt.al
      by_cases e : k = i
      · subst e
        rw [if_neg (by omega), if_pos rfl, if_pos (by omega)]
        rfl
      · rw [if_neg e, Rt.ad_0]
        by_cases g : i < k
        · rw [if_pos g, if_pos (by omega)]
        · rw [if_neg g, if_neg (by omega)]
  rw [go n, if_pos h]
/-- the number of a member at a letter -/
def nb_ (bs : List (List Int)) (n : Nat) (w : List Nat) (i : Nat) : Rt.G := Rt.Sm n (Rt.fr (cT bs) n w i)
theorem nb_cons {n : Int} {bs : List (List Int)} (va : Valid n bs) {l : Nat} (hl : l < n.toNat) (w : List Nat) {o : Nat} (ho : o < n.toNat) : nb_ bs n.toNat (l :: w) o = if o = l then Rt.ng (nb_ bs n.toNat w l) else Rt.ad (nb_ bs n.toNat w o) (Rt.cm (cB bs o l) (nb_ bs n.toNat w l)) := by
  unfold nb_
  rw [Rt.fr_cons (sysT va) hl w ho]
  by_cases q : o = l
  · rw [if_pos q, if_pos q, Rt.Sm_vm, Rt.cm_m1]
  · rw [if_neg q, if_neg q, Rt.Sm_va, Rt.Sm_vm]
    rfl
theorem st_word {n : Int} {bs : List (List Int)} (va : Valid n bs) : ∀ {w : List Nat}, Rt.In n.toNat w → stOf bs n (castW w) = stL n.toNat (nb_ bs n.toNat w)
  | [], _ => by
    refine eq_stL (StOk.first _).len fun i hi => ?_
    show (List.replicate n.toNat [(1 : Int), 0]).getD i [] = _
    unfold nb_ Rt.fr
    show _ = pr2 (Rt.Sm n.toNat (Rt.al i))
    rw [Sm_al hi, List.getD_eq_getElem?_getD, List.getElem?_replicate, if_pos hi]
    rfl
  | l :: w, h => by
    have hl := h l (by simp)
    have e : stOf bs n (castW (l :: w)) = putA (lkOf bs n) (stOf bs n (castW w)) l := by
      unfold stOf aheadW castW
      rw [List.map_cons, List.reverse_cons, List.foldl_append]
      rfl
    rw [e, st_word va h.tail, put_stL va _ hl]
    unfold stL
    refine List.map_congr_left fun o ho => ?_
    have ho := List.mem_range.mp ho
    rw [nb_cons va hl w ho]
/-! how great the numbers are -/
def Bg (k : Nat) (x : Rt.G) : Prop := x.1.natAbs ≤ 2 ^ k ∧ x.2.natAbs ≤ 2 ^ k
theorem Bg.mono {k l : Nat} {x : Rt.G} (h : Bg k x) (hk : k ≤ l) : Bg l x := by
  have := Nat.pow_le_pow_right (show 0 < 2 by decide) hk
  exact ⟨Nat.le_trans h.1 this, Nat.le_trans h.2 this⟩
theorem Bg.ng {k : Nat} {x : Rt.G} (h : Bg k x) : Bg k (Rt.ng x) := by
  unfold Bg Rt.ng at *
  simp only [Int.natAbs_neg]
  exact h
theorem mul3 {c x : Int} {M : Nat} (h0 : 0 ≤ c) (h3 : c ≤ 3) (h : x.natAbs ≤ M) : (c * x).natAbs ≤ 3 * M := by
  rw [Int.natAbs_mul]
  exact Nat.mul_le_mul (by omega) h
theorem Bg.cm {k : Nat} {c x : Rt.G} (h0 : 0 ≤ c.1) (h1 : c.1 ≤ 3) (h2 : 0 ≤ c.2) (h3 : c.2 ≤ 3) (h : Bg k x) : Bg (k + 4) (Rt.cm c x) := by
  have a := mul3 h0 h1 h.1
  have b := mul3 h2 h3 h.2
  have d := mul3 h0 h1 h.2
  have e := mul3 h2 h3 h.1
  unfold Bg Rt.cm
  rw [Nat.pow_add]
  constructor <;> (simp only; omega)
theorem Bg.ad {k : Nat} {x y : Rt.G} (h1 : Bg k x) (h2 : Bg k y) : Bg (k + 1) (Rt.ad x y) := by
  unfold Bg Rt.ad at *
  rw [Nat.pow_succ]
  constructor <;> (simp only; omega)
theorem nb_big {n : Int} {bs : List (List Int)} (va : Valid n bs) : ∀ {w : List Nat}, Rt.In n.toNat w → ∀ i, i < n.toNat → Bg (5 * w.length) (nb_ bs n.toNat w i)
  | [], _, i, hi => by
    unfold nb_ Rt.fr
    show Bg 0 (Rt.Sm n.toNat (Rt.al i))
    rw [Sm_al hi]
    exact ⟨by decide, by decide⟩
  | l :: w, h, i, hi => by
    have hl := h l (by simp)
    rw [nb_cons va hl w hi, List.length_cons]
    have c := c_small va i l
    have a := nb_big va h.tail l hl
    have b := nb_big va h.tail i hi
    split
    · exact (a.ng).mono (by omega)
    · have := (b.mono (show 5 * w.length ≤ 5 * w.length + 4 by omega)).ad (a.cm c.1 c.2.1 c.2.2.1 c.2.2.2)
      exact this.mono (by omega)
theorem Bg.b {k : Nat} {x : Rt.G} (h : Bg k x) (hk : k < 1000) : B 1000 x.1 ∧ B 1000 x.2 := by
  have : 2 ^ k < 2 ^ 1000 := Nat.pow_lt_pow_right (by decide) hk
  exact ⟨Nat.lt_of_le_of_lt h.1 this, Nat.lt_of_le_of_lt h.2 this⟩
theorem bel_sn (x : Rt.G) : bel (pr2 x) = true ↔ Rt.sn x = -1 := by
  unfold bel pr2
  show (if x.2 = 0 then decide (x.1 < 0) else decide (Gd.gsI x.1 x.2 < 0)) = true ↔ Gd.gs x.1 x.2 = -1
  have v := Gd.gs_val x.1 x.2
  by_cases h : x.2 = 0
  · rw [if_pos h, decide_eq_true_iff, h, Gd.gs_part0]
    constructor
    · intro g
      rw [if_neg (by omega), if_pos g]
      rfl
    · intro g
      by_cases q : x.1 < 0
      · exact q
      · rw [if_neg q] at g
        split at g <;> omega
  · rw [if_neg h, decide_eq_true_iff, Gd.gsI_eq]
    omega
theorem filter_head {α : Type} {p : α → Bool} {A B : List α} {s : α} (h : ∀ a ∈ A, p a = false) (hs : p s = true) : (A ++ s :: B).filter p = s :: B.filter p := by
  rw [List.filter_append, List.filter_cons_of_pos hs]
  have : A.filter p = [] := List.filter_eq_nil_iff.mpr fun a ha => by rw [h a ha]; exact Bool.false_ne_true
  rw [this]
  rfl
theorem upto_split {n : Nat} {s : Nat} (h : s < n) : ∃ B, upto (n : Nat) = upto (s : Nat) ++ (s : Int) :: B := by
  refine ⟨(upto (n : Nat)).drop (s + 1), ?_⟩
  have hl : s < (upto (n : Nat)).length := by rw [upto_length]; omega
  have e : (upto (n : Nat)).take s = upto (s : Nat) := by
    unfold upto
    rw [← List.map_take, List.take_range]
    congr 2
    omega
  have g : (upto (n : Nat))[s] = (s : Int) := by
    have := List.getElem?_eq_getElem hl
    rw [upto_get (by omega)] at this
    have := Option.some.inj this
    omega
  conv => lhs; rw [← List.take_append_drop s (upto (n : Nat)), List.drop_eq_getElem_cons hl, e, g]
theorem lefts_word {n : Int} {bs : List (List Int)} (va : Valid n bs) {w : List Nat} (hw : Rt.In n.toNat w) {i : Nat} (hi : i < n.toNat) : bel ((stOf bs n (castW w)).getD i []) = true ↔ Rt.len n.toNat (mB bs) (i :: w) < Rt.len n.toNat (mB bs) w := by
  rw [st_word va hw, stL_getD hi, bel_sn]
  exact Rt.leftS_iff (sysT va) hw hi
theorem fine_word {n : Int} {bs : List (List Int)} (va : Valid n bs) {w : List Nat} (hw : Rt.In n.toNat w) (hl : w.length < 200) : Fine (stOf bs n (castW w)) := by
  rw [st_word va hw]
  intro x hx
  unfold stL at hx
  obtain ⟨i, hi, rfl⟩ := List.mem_map.mp hx
  exact .inr ((nb_big va hw i (List.mem_range.mp hi)).b (by omega))
theorem runs_nf {n : Int} {bs : List (List Int)} (va : Valid n bs) {w us : List Nat} (h : Rt.Nf n.toNat (mB bs) w us) : Rt.In n.toNat w → w.length + us.length < 200 → Runs (lkOf bs n) (stOf bs n (castW w)) (castW us) := by
  have n0 := va.lo
  induction h with
  | @done w h =>
    intro hw hl
    refine .done (fine_word va hw (by simp at hl; omega)) ?_
    unfold lefts
    rw [List.filter_eq_nil_iff]
    intro i hi
    have m := mem_upto.mp hi
    rw [st_word va hw, stL_len] at m
    intro z
    have := (lefts_word va hw (i := i.toNat) (by omega)).mp z
    exact h _ (by omega) this
  | @step w us s hs hl hm _ ih =>
    intro hw hlen
    rw [List.length_cons] at hlen
    have e : (stOf bs n (castW w)).length = n.toNat := by rw [st_word va hw, stL_len]
    obtain ⟨B, eB⟩ := upto_split hs
    refine .step (r := B.filter fun i => bel ((stOf bs n (castW w)).getD i.toNat [])) (fine_word va hw (by omega)) ?_ ?_
    · unfold lefts
      rw [e, eB]
      refine filter_head (fun a ha => ?_) ?_
      · have m := mem_upto.mp ha
        rw [Bool.eq_false_iff]
        intro z
        exact hm a.toNat (by omega) ((lefts_word va hw (by omega)).mp z)
      · exact (lefts_word va hw hs).mpr hl
    · have := ih (Rt.In.cons hs hw) (by rw [List.length_cons]; omega)
      have q : putA (lkOf bs n) (stOf bs n (castW w)) s = stOf bs n (castW (s :: w)) := by
        unfold stOf aheadW castW
        rw [List.map_cons, List.reverse_cons, List.foldl_append]
        rfl
      rw [q]
      exact this
end Sk

namespace Sk
open PySem L2 Ow
theorem sh_L (ns : List Int) : SeqAt.shaped (.list (ns.map PyData.int)) = true := by
  unfold SeqAt.shaped
  have h1 : (PyData.list (ns.map PyData.int)).canLay0 = true := by simp [PyData.canLay0, lay_ints]
  have h2 : (PyData.list (ns.map PyData.int)).depth ≤ 64 := by have := dep_ints ns; simp [PyData.depth]; omega
  rw [h1, decide_eq_true h2]
  rfl
theorem eqv_ints : ∀ a b : List Int, PyData.eqvAll (a.map PyData.int) (b.map PyData.int) = decide (a = b)
  | [], [] => by simp [PyData.eqvAll]
  | [], _ :: _ => by simp [PyData.eqvAll]
  | _ :: _, [] => by simp [PyData.eqvAll]
  | x :: a, y :: b => by
    have h := eqv_ints a b
    by_cases e : x = y
    · subst e
      simp [PyData.eqvAll, PyData.eqv, h]
    · simp [PyData.eqvAll, PyData.eqv, h, e]
theorem eqv_dT (a b : List Int) : PyData.eqv (dT a) (dT b) = decide (a = b) := by
  unfold dT
  rw [show PyData.eqv (.tuple (a.map PyData.int)) (.tuple (b.map PyData.int)) = PyData.eqvAll (a.map PyData.int) (b.map PyData.int) from by simp [PyData.eqv]]
  exact eqv_ints a b
theorem eqv_dTs : ∀ a b : List (List Int), PyData.eqvAll (a.map dT) (b.map dT) = decide (a = b)
  | [], [] => by simp [PyData.eqvAll]
  | [], _ :: _ => by simp [PyData.eqvAll]
  | _ :: _, [] => by simp [PyData.eqvAll]
  | x :: a, y :: b => by
    have h := eqv_dTs a b
    have h2 := eqv_dT x y
    by_cases e : x = y
    · subst e
      simp [PyData.eqvAll, h2, h]
    · simp [PyData.eqvAll, h2, h, e]
theorem eqv_L (a b : List Int) : PyData.eqv (.list (a.map PyData.int)) (.list (b.map PyData.int)) = decide (a = b) := by
  rw [show PyData.eqv (.list (a.map PyData.int)) (.list (b.map PyData.int)) = PyData.eqvAll (a.map PyData.int) (b.map PyData.int) from by simp [PyData.eqv]]
  exact eqv_ints a b
/-- a list of tuples of ints, as data -/
def dL (bs : List (List Int)) : PyData := .list (bs.map dT)
theorem sh_dL (bs : List (List Int)) : SeqAt.shaped (dL bs) = true := by
  unfold SeqAt.shaped
  have h1 : (dL bs).canLay0 = true := by simp [dL, PyData.canLay0, lay_dTs]
  have h2 : (dL bs).depth ≤ 64 := by have := dep_dTs bs; simp [dL, PyData.depth]; omega
  rw [h1, decide_eq_true h2]
  rfl
theorem eqv_dL (a b : List (List Int)) : PyData.eqv (dL a) (dL b) = decide (a = b) := by
  unfold dL
  rw [show PyData.eqv (.list (a.map dT)) (.list (b.map dT)) = PyData.eqvAll (a.map dT) (b.map dT) from by simp [PyData.eqv]]
  exact eqv_dTs a b
/-- a list of tuples of ints at l -/
def LT (K : PySem.W.Frag) (H : Hp) (l : Addr) (bs : List (List Int)) : Prop := ∃ xs, H l = some (.lst xs) ∧ TIs K H xs bs
theorem LT.same {K : PySem.W.Frag} {H H' : Hp} {l : Addr} {bs : List (List Int)} (h : LT K H l bs) (s : Same H H') : LT K H' l bs := h.elim fun xs ⟨e, t⟩ => ⟨xs, s _ _ e, t.same s⟩
theorem LT.dp {K : PySem.W.Frag} {H : Hp} {l : Addr} {bs : List (List Int)} (h : LT K H l bs) : Dp K H (.ref l) (dL bs) := h.elim fun xs ⟨e, t⟩ => .lst (.of e) t.dp
theorem any_dT (x : List Int) : ∀ bs : List (List Int), ((bs.map dT).any fun z => PyData.eqv z (dT x)) = decide (x ∈ bs)
  | [] => by simp
  | b :: r => by
    rw [List.map_cons, List.any_cons, any_dT x r, eqv_dT]
    by_cases e : b = x
    · subst e; simp
    · simp [e, Ne.symm e]
/-- the draws' list -/
def VatAt (H : Hp) (p : Addr) : Prop := ∃ b0 b1 b2 : Int, H p = some (.lst [.int b0, .int b1, .int b2])
theorem Off.refl {D : Addr} {H : Hp} : Off D H H := fun _ _ _ h => h
theorem Off.trans {D : Addr} {H H1 H2 : Hp} (a : Off D H H1) (b : Off D H1 H2) : Off D H H2 := fun q o n h => b q o n (a q o n h)
theorem Off.of_same {D : Addr} {H H1 : Hp} (a : Same H H1) : Off D H H1 := fun q o _ h => a q o h
theorem TI.but {K : PySem.W.Frag} {H H' : Hp} {v : V} {ns : List Int} {p : Addr} (h : TI K H v ns) (o : Off p H H') (b : VatAt H p) : TI K H' v ns := h.elim fun a ⟨e, q⟩ => ⟨a, e, by
  obtain ⟨_, _, _, hp⟩ := b
  exact o.sqT hp q⟩
theorem VatAt.same {H H' : Hp} {p : Addr} (b : VatAt H p) (s : Same H H') : VatAt H' p := b.elim fun b0 ⟨b1, b2, e⟩ => ⟨b0, b1, b2, s _ _ e⟩
theorem vat_ne {H : Hp} {p q : Addr} (b : VatAt H p) (n : H q = none) : q ≠ p := fun e => by
  obtain ⟨_, _, _, h⟩ := b
  rw [e, h] at n
  cases n
theorem VatAt.but {H H' : Hp} {p D : Addr} (b : VatAt H p) (o : Off D H H') (n : p ≠ D) : VatAt H' p := b.elim fun b0 ⟨b1, b2, e⟩ => ⟨b0, b1, b2, o _ _ n e⟩
end Sk

namespace Sk
open PySem L2 Ow
theorem cut1 (ns : List Int) : cutV (ns.map V.int) none (some 1) = (ns.take 1).map V.int := by
  show ((ns.map V.int).drop 0).take (HT.sIx (ns.map V.int).length (ns.map V.int).length (some ((1 : Nat) : Int)) - 0) = (ns.take 1).map V.int
  rw [HT.sIx_nat]
  cases ns with
  | nil => rfl
  | cons n ns =>
    rw [Nat.min_eq_left (by simp)]
    rfl
/-! the draws -/
theorem fm {i n : Int} (h : 0 < n) : 0 ≤ i.fmod n ∧ i.fmod n < n := by
  rw [Int.fmod_eq_emod_of_nonneg i (Int.le_of_lt h)]
  exact ⟨Int.emod_nonneg i (by omega), Int.emod_lt_of_pos i h⟩
theorem em {i n : Int} (h : 0 < n) : 0 ≤ i % n ∧ i % n < n := ⟨Int.emod_nonneg i (by omega), Int.emod_lt_of_pos i h⟩
/-- a pair of a number of letters and bonds -/
def SysD (K : PySem.W.Frag) (H : Hp) (v : V) (n : Int) (bs : List (List Int)) : Prop := ∃ a bv, v = .ref a ∧ SqT K H a [.int n, bv] ∧ BsAt K H bv bs
theorem SysD.same {K : PySem.W.Frag} {H H' : Hp} {v : V} {n : Int} {bs : List (List Int)} (h : SysD K H v n bs) (s : Same H H') : SysD K H' v n bs := h.elim fun a ⟨bv, e, q, b⟩ => ⟨a, bv, e, sqT_same s q, b.same s⟩
theorem SysD.off {K : PySem.W.Frag} {D : Addr} {H H' : Hp} {acc : List V} {v : V} {n : Int} {bs : List (List Int)} (h : SysD K H v n bs) (o : Off D H H') (hD : H D = some (.lst acc)) : SysD K H' v n bs := h.elim fun a ⟨bv, e, q, b⟩ => ⟨a, bv, e, o.sqT hD q, o.bs hD b⟩
def spVat (K : PySem.W.Frag) : Sp := fun vs H Q _ => ∃ (sa : Addr) (at_ : Int) (ns : List Int), vs = [.ref sa, .int at_] ∧ SqL K H sa (ns.map V.int) ∧ 0 ≤ at_ ∧
  ∀ (p : Addr) (H' : Hp), Same H H' → H p = none → VatAt H' p → Q (.ref p) H'
def spTap : Sp := fun vs H Q _ => ∃ (p : Addr) (n : Int), vs = [.ref p, .int n] ∧ 0 < n ∧ n ≤ 1000 ∧ VatAt H p ∧ ∀ (r : Int) (H' : Hp), 0 ≤ r → r < n → Off p H H' → VatAt H' p → Q (.int r) H'
def spTaste : Sp := fun vs H Q _ => ∃ (p l : Addr) (xs : List V), vs = [.ref p, .ref l] ∧ VatAt H p ∧ H l = some (.lst xs) ∧ l ≠ p ∧ 0 < xs.length ∧ xs.length ≤ 1000 ∧
  ∀ (v : V) (H' : Hp), v ∈ xs → Off p H H' → VatAt H' p → Q v H'
section
variable {P : Program} {w : World} {K : PySem.W.Frag} {mg : Str → Option Value} {base : Heap} {C : Addr}
theorem cal_l_tap (T : Txt K mg C) : Cal P w K mg base "_law_tap" 1 spTap := by
  refine T.d_l_tap.cal (ps := ["_law_vat_here", "_law_total"]) (fun f fd D => ?_) (fun _ _ _ _ _ _ us hl => match us, hl with | [_, _], _ => rfl)
  refine D.ok sc_l_tap (fun vs H Q E h => ?_) (fun cdv A outer s H vs Q E hr h => ?_)
  · obtain ⟨p, n, rfl, _⟩ := h
    rfl
  · obtain ⟨p, n, rfl, hn, hm, ⟨b0, b1, b2, hp⟩, k⟩ := h
    refine ⟨_, (pss_cons (ps_if (pt_cmpR op_gt (pe_ix ix_list (pv 0) pe_int (fun _ _ => rfl)) pe_int (nomark _)) (pss_cons (ps_set (i := 2) sc_l_tap.nd rfl (Or.inl rfl) (pe_op op_modN (pe_callTy call_int1 (by rfl) T.b_int (by decide +kernel) (pa_cons (pe_ix ix_list (pv 0) pe_int (fun _ _ => rfl)) pa_nil)) (pv 1)))
      (pss_cons (ps_asg (pe_op op_fdivW (pe_ix ix_list (pv 0) pe_int (fun _ _ => rfl)) (pv 1)) (pg_sub (pv 0) pe_int set_list))
      (pss_one (ps_ret (pv 2))))) pss_nil)
      (pss_cons (ps_asg (pe_op op_add (pe_ix ix_list (pv 0) pe_int (fun _ _ => rfl)) pe_int) (pg_sub (pv 0) pe_int set_list))
      (pss_cons (ps_set (i := 3) sc_l_tap.nd rfl (Or.inl rfl) (pe_op op_mod (pe_callTy call_int1 (by rfl) T.b_int (by decide +kernel) (pa_cons (pe_op op_add (pe_ix ix_list (pv 0) pe_int (fun _ _ => rfl)) (pe_op op_mul pe_int (pe_ix ix_list (pv 0) pe_int (fun _ _ => rfl)))) pa_nil)) pe_int))
      (pss_cons (ps_set (i := 4) sc_l_tap.nd rfl (Or.inl rfl) (pe_op op_mod (pe_callTy call_int1 (by rfl) T.b_int (by decide +kernel) (pa_cons (pe_op op_add (pe_op op_add (pe_op op_mulW (pv 3) (pv 3)) (pe_op op_mul pe_int (pe_ix ix_list (pv 0) pe_int (fun _ _ => rfl)))) pe_int) pa_nil)) pe_int))
      (pss_one (ps_ret (pe_op op_modN (pe_callTy call_int1 (by rfl) T.b_int (by decide +kernel) (pa_cons (pe_op op_fdiv (pe_op op_mulW (pv 4) (pe_op op_add (pe_op op_mod (pv 3) pe_int) pe_int)) pe_int) pa_nil)) (pv 1)))))))), ?_⟩
    have bn : n.natAbs < 2 ^ 10 := by omega
    refine ⟨_, rfl, _, _, _, _, rfl, rfl, .of hp, rfl, _, _, rfl, rfl, _, rfl, ite2 (fun hpos => ?_) (fun _ => ?_)⟩
    · refine ⟨_, rfl, _, _, _, _, rfl, rfl, .of hp, rfl, .inl ⟨_, rfl, _, rfl, _, _, rfl, rfl, (by omega), ?_⟩⟩
      refine ⟨_, rfl, _, _, _, _, rfl, rfl, .of hp, rfl, _, rfl, _, _, rfl, rfl, wide_div hn bn (by decide) (by decide), _, rfl, _, _, _, _, rfl, rfl, hp, rfl, ?_⟩
      refine ⟨_, rfl, k _ _ (fm hn).1 (fm hn).2 off_upd ⟨_, _, _, upd_same⟩⟩
    · refine ⟨_, rfl, _, _, _, _, rfl, rfl, .of hp, rfl, _, _, rfl, rfl, _, rfl, _, _, _, _, rfl, rfl, hp, rfl, ?_⟩
      have hq : upd H p (.lst [.int b0, .int b1, .int (b2 + 1)]) p = some (.lst [.int b0, .int b1, .int (b2 + 1)]) := upd_same
      refine ⟨_, rfl, _, _, _, _, rfl, rfl, .of hq, rfl, _, rfl, _, _, _, _, rfl, rfl, .of hq, rfl, _, _, rfl, rfl, .inl ⟨by decide, by decide⟩, _, _, rfl, rfl, .inl ⟨_, rfl, _, _, rfl, rfl, show (0 : Int) < 2305843009213693669 by decide, ?_⟩⟩
      have b61 : ∀ i m : Int, 0 < m → m ≤ 2305843009213693951 → (i % m).natAbs < 2 ^ 61 := fun i m h0 h1 => by
        have := em (i := i) h0
        omega
      have bo := b61 (b1 + 67867967 * (b2 + 1)) 2305843009213693669 (by decide) (by decide)
      refine ⟨_, rfl, _, rfl, _, _, rfl, rfl, wide_mul bo bo (by decide) (by decide) (by decide), _, rfl, _, _, _, _, rfl, rfl, .of hq, rfl, _, _, rfl, rfl, .inl ⟨by decide, by decide⟩, _, _, rfl, rfl, _, _, rfl, rfl, .inl ⟨_, rfl, _, _, rfl, rfl, show (0 : Int) < 2305843009213693613 by decide, ?_⟩⟩
      refine ⟨_, rfl, _, rfl, _, _, rfl, rfl, show (0 : Int) < 773 by decide, _, _, rfl, rfl, _, _, rfl, rfl, wide_mul (b := 11) (b61 _ _ (by decide) (by decide)) ?_ (by decide) (by decide) (by decide), _, _, rfl, rfl, ⟨by decide, by decide⟩, .inl ⟨_, rfl, _, rfl, _, _, rfl, rfl, (by omega), ?_⟩⟩
      · have := em (i := (b1 + 67867967 * (b2 + 1)) % 2305843009213693669) (n := 773) (by decide)
        omega
      · exact k _ _ (fm hn).1 (fm hn).2 off_upd ⟨_, _, _, upd_same⟩
theorem cal_l_taste (T : Txt K mg C) : Cal P w K mg base "_law_taste" 2 spTaste := by
  refine T.d_l_taste.cal (ps := ["_law_vat_here", "_law_items"]) (fun f fd D => ?_) (fun _ _ _ _ _ _ us hl => match us, hl with | [_, _], _ => rfl)
  refine D.ok sc_l_taste (fun vs H Q E h => ?_) (fun cdv A outer s H vs Q E hr h => ?_)
  · obtain ⟨p, l, xs, rfl, _⟩ := h
    rfl
  · obtain ⟨p, l, xs, rfl, hb, hl, ne, h0, h1, k⟩ := h
    refine ⟨_, (pss_one (ps_ret (pe_ix ix_list (pv 1) (pe_cal (cal_l_tap T) (hr.mono (by decide)) (by rfl) (pa_cons (pv 0) (pa_cons (pe_callB call_len_seq (by rfl) T.b_len (by decide +kernel) (pa_cons (pv 1) pa_nil)) pa_nil))) (fun _ _ => rfl)))), ?_⟩
    refine ⟨_, rfl, _, rfl, _, rfl, _, _, rfl, .inl (.of hl), p, _, rfl, by omega, by omega, hb, fun r H1 r0 r1 same b1 => ?_⟩
    have hi : r.toNat < xs.length := by omega
    refine ⟨_, _, _, _, rfl, rfl, .of (same _ _ ne hl), at_of (j := r.toNat) (by omega) (List.getElem?_eq_getElem hi), k _ _ (List.getElem_mem hi) same b1⟩
theorem cal_l_vat (T : Txt K mg C) : Cal P w K mg base "_law_vat" 1 (spVat K) := by
  refine T.d_l_vat.cal (ps := ["_law_script", "_law_spot"]) (fun f fd D => ?_) (fun _ _ _ _ _ _ us hl => match us, hl with | [_, _], _ => rfl)
  refine D.ok sc_l_vat (fun vs H Q E h => ?_) (fun cdv A outer s H vs Q E hr h => ?_)
  · obtain ⟨p, n, ns, rfl, _⟩ := h
    rfl
  · obtain ⟨sa, z, ns, rfl, hs, hz, k⟩ := h
    refine ⟨_, (pss_cons (ps_set (i := 2) sc_l_vat.nd rfl (Or.inl rfl) (pe_ifExp (pt_cmpR op_lt (pv 1) (pe_callB call_len_seq (by rfl) T.b_len (by decide +kernel) (pa_cons (pv 0) pa_nil)) (nomark _)) (pe_callTy call_int1 (by rfl) T.b_int (by decide +kernel) (pa_cons (pe_ix ix_list (pv 0) (pv 1) (fun _ _ => rfl)) pa_nil)) (pe_op op_add (pe_op op_add (pe_op op_mul pe_int (pv 1)) pe_int) (pe_op op_mod (pe_callTy call_int1 (by rfl) T.b_int (by decide +kernel) (pa_cons (pe_callB (cr_sum rfl) (by rfl) T.b_sum (by decide +kernel) (pa_cons (pe_slice sl_list (pv 0) po_none (po_some pe_int)) pa_nil)) pa_nil)) pe_int))))
      (pss_cons (ps_set (i := 3) sc_l_vat.nd rfl (Or.inl rfl) (pe_op op_modN (pe_callB call_abs (by rfl) T.b_abs (by decide +kernel) (pa_cons (pv 2) pa_nil)) (pe_op op_powW (pe_op op_pow pe_int pe_int) pe_int)))
      (pss_cons (ps_set (i := 4) sc_l_vat.nd rfl (Or.inl rfl) (pe_op op_add (pe_op op_add (pe_op op_add (pe_op op_mul (pe_op op_mod (pv 3) pe_int) pe_int) (pe_op op_mul pe_int (pv 1))) (pe_op op_mul pe_int (pe_callTy call_int1 (by rfl) T.b_int (by decide +kernel) (pa_cons (pe_cmpR op_lt (pv 2) pe_int (nomark _)) pa_nil)))) pe_int))
      (pss_one (ps_ret (pe_lst (pa_cons (pe_callB (call_max2 rfl) (by rfl) T.b_max (by decide +kernel) (pa_cons pe_int (pa_cons (pe_op op_sub (pv 3) (pe_op op_pow pe_int pe_int)) pa_nil))) (pa_cons (pv 4) (pa_cons pe_int pa_nil))))))))), ?_⟩
    have hP : CPowW ((10 : Int) ^ (55 : Int).toNat) 8 := ⟨by decide, by decide +kernel⟩
    have hQ : ((10 : Int) ^ (55 : Int).toNat) ^ (8 : Int).toNat ≠ 0 := by decide +kernel
    refine ⟨_, rfl, _, rfl, _, _, rfl, .inl hs, _, _, rfl, rfl, _, rfl, ite2 (fun h => ?_) (fun h => ?_)⟩
    · have hlt : z < ((ns.map V.int).length : Int) := of_decide_eq_true h
      rw [List.length_map] at hlt
      have hi : z.toNat < ns.length := by omega
      have hget : atI (ns.map V.int) z = some (.int ns[z.toNat]) := at_of (j := z.toNat) (by omega) (by rw [List.getElem?_map, List.getElem?_eq_getElem hi]; rfl)
      refine ⟨_, rfl, _, rfl, _, _, _, _, rfl, rfl, hs, hget, .inl ⟨_, rfl, ?_⟩⟩
      refine ⟨_, rfl, _, rfl, _, _, rfl, rfl, ⟨by decide, by decide, by decide⟩, _, _, rfl, rfl, hP, _, _, rfl, rfl, hQ, ?_⟩
      refine ⟨_, rfl, _, _, rfl, rfl, show (0 : Int) < 1152921504606846703 by decide, _, _, rfl, rfl, .inr ⟨by decide, by decide⟩, _, rfl, _, _, rfl, rfl, .inl ⟨by decide, by decide⟩, _, _, rfl, rfl, _, rfl, _, _, rfl, rfl, .inr ⟨_, rfl, _, _, rfl, rfl, .inl ⟨by decide, by decide⟩, _, _, rfl, rfl, _, _, rfl, rfl, ?_⟩⟩
      refine ⟨_, rfl, _, _, rfl, rfl, ⟨by decide, by decide, by decide⟩, _, _, rfl, rfl, _, _, rfl, _, rfl, show 3 ≤ sizeLine by decide, fun p np => ?_⟩
      exact k p _ (same_new np) np ⟨_, _, _, upd_same⟩
    · refine ⟨_, rfl, _, _, rfl, rfl, .inl ⟨by decide, by decide⟩, _, _, rfl, rfl, _, rfl, _, rfl, _, _, rfl, hs, fun p0 n0 => ?_⟩
      refine ⟨_, ns.take 1, rfl, .of (by rw [upd_same, cut1]), .inl ⟨_, rfl, _, _, rfl, rfl, show (0 : Int) < 1000121 by decide, _, _, rfl, rfl, ?_⟩⟩
      refine ⟨_, rfl, _, rfl, _, _, rfl, rfl, ⟨by decide, by decide, by decide⟩, _, _, rfl, rfl, hP, _, _, rfl, rfl, hQ, ?_⟩
      refine ⟨_, rfl, _, _, rfl, rfl, show (0 : Int) < 1152921504606846703 by decide, _, _, rfl, rfl, .inr ⟨by decide, by decide⟩, _, rfl, _, _, rfl, rfl, .inl ⟨by decide, by decide⟩, _, _, rfl, rfl, _, rfl, _, _, rfl, rfl, .inr ⟨_, rfl, _, _, rfl, rfl, .inl ⟨by decide, by decide⟩, _, _, rfl, rfl, _, _, rfl, rfl, ?_⟩⟩
      refine ⟨_, rfl, _, _, rfl, rfl, ⟨by decide, by decide, by decide⟩, _, _, rfl, rfl, _, _, rfl, _, rfl, show 3 ≤ sizeLine by decide, fun p np => ?_⟩
      exact k p _ ((same_new n0).trans (same_new np)) ((same_new n0).free np) ⟨_, _, _, upd_same⟩
end
end Sk

namespace Sk
open PySem L2 Ow
/-! written data -/
def Ds (K : PySem.W.Frag) (H : Hp) : List V → List Dat → Prop
  | [], [] => True
  | x :: xs, d :: ds => SysD K H x d.1 d.2 ∧ Ds K H xs ds
  | _, _ => False
theorem Ds.same {K : PySem.W.Frag} {H H' : Hp} (s : Same H H') : ∀ {xs : List V} {ds : List Dat}, Ds K H xs ds → Ds K H' xs ds
  | [], [], _ => trivial
  | _ :: _, _ :: _, h => ⟨h.1.same s, Ds.same s h.2⟩
theorem Ds.app {K : PySem.W.Frag} {H : Hp} : ∀ {xs ys : List V} {ds es : List Dat}, Ds K H xs ds → Ds K H ys es → Ds K H (xs ++ ys) (ds ++ es)
  | [], _, [], _, _, k => k
  | _ :: _, _, _ :: _, _, h, k => ⟨h.1, Ds.app h.2 k⟩
theorem Ds.len {K : PySem.W.Frag} {H : Hp} : ∀ {xs : List V} {ds : List Dat}, Ds K H xs ds → xs.length = ds.length
  | [], [], _ => rfl
  | _ :: _, _ :: _, h => congrArg Nat.succ (Ds.len h.2)
theorem Ds.mem {K : PySem.W.Frag} {H : Hp} : ∀ {xs : List V} {ds : List Dat} {x : V}, Ds K H xs ds → x ∈ xs → ∃ d ∈ ds, SysD K H x d.1 d.2
  | x :: xs, d :: ds, y, h, m => by
    rcases List.mem_cons.mp m with e | m
    · exact ⟨d, List.mem_cons_self .., e ▸ h.1⟩
    · obtain ⟨d', m', h'⟩ := Ds.mem h.2 m
      exact ⟨d', List.mem_cons_of_mem _ m', h'⟩
  | [], [], y, _, m => by cases m
/-- any value of which R holds, all that stood kept -/
def tD (R : Hp → V → Prop) : TE := fun _ H Q => ∀ (v : V) (H' : Hp), Same H H' → R H' v → Q v H'
def tDs (R : Hp → List V → Prop) : TA := fun _ H Q => ∀ (xs : List V) (H' : Hp), Same H H' → R H' xs → Q xs H'
theorem pe_imp {X : Cx} {e : Expr} {t t' : TE} (h : PE X e t) (i : ∀ σ H Q, t' σ H Q → t σ H Q) : PE X e t' := ⟨fun pins s σ H Q I q => h.run pins s σ H Q I (i _ _ _ q)⟩
theorem pa_imp {X : Cx} {es : List Expr} {t t' : TA} (h : PA X es t) (i : ∀ σ H Q, t' σ H Q → t σ H Q) : PA X es t' := ⟨fun pos pins s σ H Q I q => h.run pos pins s σ H Q I (i _ _ _ q)⟩
section
variable {X : Cx} {e : Expr} {es : List Expr} {pos : Pos} {x1 : Nat}
theorem pe_ti3 {a b c : Int} {k1 k2 k3 : Nat} {p1 p2 p3 : Pos} : PE X (.Tuple [.Constant (.int a) k1 p1, .Constant (.int b) k2 p2, .Constant (.int c) k3 p3] x1 pos) (tD fun H v => TI X.K H v [a, b, c]) :=
  pe_imp (pe_tup (pa_cons pe_int (pa_cons pe_int (pa_cons pe_int pa_nil)))) fun σ H Q q => ⟨show 3 ≤ sizeLine by decide, fun p np => q _ _ (same_new np) ⟨p, rfl, .of upd_same⟩⟩
theorem pas_nil : PA X [] (tDs fun H xs => TIs X.K H xs []) := pa_imp pa_nil fun σ H Q q => q [] H (.refl H) trivial
theorem pas_cons {t : List Int} {bs : List (List Int)} (h : PE X e (tD fun H v => TI X.K H v t)) (r : PA X es (tDs fun H xs => TIs X.K H xs bs)) (hs : starEach (e :: es) X.env = (false, eval e X.env) :: starEach es X.env := by rfl) : PA X (e :: es) (tDs fun H xs => TIs X.K H xs (t :: bs)) :=
  pa_imp (pa_cons h r hs) fun σ H Q q v H1 s1 r1 xs H2 s2 r2 => q (v :: xs) H2 (s1.trans s2) ⟨r1.same s2, r2⟩
theorem pe_bs {bs : List (List Int)} (h : PA X es (tDs fun H xs => TIs X.K H xs bs)) (hl : bs.length ≤ 1000 := by decide) : PE X (.Tuple es x1 pos) (tD fun H v => BsAt X.K H v bs) :=
  pe_imp (pe_tup h) fun σ H Q q xs H1 s1 r1 => ⟨Nat.le_trans (r1.len ▸ hl) (by decide), fun p np => q _ _ (s1.trans (same_new np)) ⟨p, xs, rfl, .of upd_same, r1.same (same_new np)⟩⟩
theorem pe_sd {n : Int} {k1 : Nat} {p1 : Pos} {bs : List (List Int)} (h : PE X e (tD fun H v => BsAt X.K H v bs)) (hs : starEach [.Constant (.int n) k1 p1, e] X.env = (false, eval (.Constant (.int n) k1 p1) X.env) :: starEach [e] X.env := by rfl)
    (hs2 : starEach [e] X.env = (false, eval e X.env) :: starEach [] X.env := by rfl) : PE X (.Tuple [.Constant (.int n) k1 p1, e] x1 pos) (tD fun H v => SysD X.K H v n bs) :=
  pe_imp (pe_tup (pa_cons pe_int (pa_cons h pa_nil hs2) hs)) fun σ H Q q v H1 s1 r1 => ⟨show 2 ≤ sizeLine by decide, fun p np => q _ _ (s1.trans (same_new np)) ⟨p, v, rfl, .of upd_same, r1.same (same_new np)⟩⟩
theorem pads_nil : PA X [] (tDs fun H xs => Ds X.K H xs []) := pa_imp pa_nil fun σ H Q q => q [] H (.refl H) trivial
theorem pads_cons {n : Int} {bs : List (List Int)} {ds : List Dat} (h : PE X e (tD fun H v => SysD X.K H v n bs)) (r : PA X es (tDs fun H xs => Ds X.K H xs ds)) (hs : starEach (e :: es) X.env = (false, eval e X.env) :: starEach es X.env := by rfl) : PA X (e :: es) (tDs fun H xs => Ds X.K H xs ((n, bs) :: ds)) :=
  pa_imp (pa_cons h r hs) fun σ H Q q v H1 s1 r1 xs H2 s2 r2 => q (v :: xs) H2 (s1.trans s2) ⟨r1.same s2, r2⟩
/-- a written list of such: new -/
def tL (K : PySem.W.Frag) (ds : List Dat) : TE := fun _ H Q => ∀ (p : Addr) (xs : List V) (H' : Hp), Same H H' → H p = none → H' p = some (.lst xs) → Ds K H' xs ds → Q (.ref p) H'
theorem pe_lsd {ds : List Dat} (h : PA X es (tDs fun H xs => Ds X.K H xs ds)) (hl : ds.length ≤ 1000 := by decide) : PE X (.List es pos) (tL X.K ds) :=
  pe_imp (pe_lst h) fun σ H Q q xs H1 s1 r1 => ⟨Nat.le_trans (r1.len ▸ hl) (by decide), fun p np => q p xs _ (s1.trans (same_new np)) (s1.free np) upd_same (r1.same (same_new np))⟩
end
def spTold (K : PySem.W.Frag) : Sp := fun vs H Q _ => vs = [] ∧ ∀ (p : Addr) (xs : List V) (H' : Hp), Same H H' → H p = none → H' p = some (.lst xs) → (∀ v ∈ xs, ∃ d : Dat, SysD K H' v d.1 d.2 ∧ Valid d.1 d.2) → 0 < xs.length → xs.length ≤ 1000 → Q (.ref p) H'
section
variable {P : Program} {w : World} {K : PySem.W.Frag} {mg : Str → Option Value} {base : Heap} {C : Addr}
theorem cal_l_told_systems (T : Txt K mg C) : Cal P w K mg base "_law_told_systems" 1 (spTold K) := by
  refine T.d_l_told_systems.cal (ps := []) (fun f fd D => ?_) (fun _ _ _ _ _ _ us hl => match us, hl with | [], _ => rfl)
  refine D.ok sc_l_told_systems (fun vs H Q E h => ?_) (fun cdv A outer s H vs Q E hr h => ?_)
  · obtain ⟨rfl, _⟩ := h
    rfl
  · obtain ⟨rfl, k⟩ := h
    refine ⟨_, (pss_cons (ps_set (i := 0) sc_l_told_systems.nd rfl (Or.inl rfl) (pe_lsd (pads_cons (pe_sd (pe_bs pas_nil)) (pads_cons (pe_sd (pe_bs (pas_cons pe_ti3 pas_nil))) (pads_cons (pe_sd (pe_bs (pas_cons pe_ti3 (pas_cons pe_ti3 pas_nil)))) (pads_cons (pe_sd (pe_bs (pas_cons pe_ti3 (pas_cons pe_ti3 (pas_cons pe_ti3 pas_nil))))) pads_nil))))))
      (pss_cons (ps_set (i := 0) sc_l_told_systems.nd rfl (Or.inl rfl) (pe_op op_cat (pv 0) (pe_lsd (pads_cons (pe_sd (pe_bs (pas_cons pe_ti3 pas_nil))) (pads_cons (pe_sd (pe_bs (pas_cons pe_ti3 (pas_cons pe_ti3 pas_nil)))) (pads_cons (pe_sd (pe_bs (pas_cons pe_ti3 (pas_cons pe_ti3 pas_nil)))) (pads_cons (pe_sd (pe_bs (pas_cons pe_ti3 pas_nil))) pads_nil)))))))
      (pss_cons (ps_set (i := 0) sc_l_told_systems.nd rfl (Or.inl rfl) (pe_op op_cat (pv 0) (pe_lsd (pads_cons (pe_sd (pe_bs (pas_cons pe_ti3 pas_nil))) (pads_cons (pe_sd (pe_bs (pas_cons pe_ti3 pas_nil))) (pads_cons (pe_sd (pe_bs (pas_cons pe_ti3 (pas_cons pe_ti3 (pas_cons pe_ti3 pas_nil))))) (pads_cons (pe_sd (pe_bs pas_nil)) (pads_cons (pe_sd (pe_bs pas_nil)) pads_nil))))))))
      (pss_one (ps_ret (pe_op op_cat (pv 0) (pe_lsd (pads_cons (pe_sd (pe_bs (pas_cons pe_ti3 pas_nil))) (pads_cons (pe_sd (pe_bs (pas_cons pe_ti3 (pas_cons pe_ti3 pas_nil)))) (pads_cons (pe_sd (pe_bs (pas_cons pe_ti3 (pas_cons pe_ti3 (pas_cons pe_ti3 pas_nil))))) pads_nil)))))))))), ?_⟩
    intro p1 x1 H1 s1 _ h1 d1
    have l1 : x1.length = 4 := d1.len
    refine ⟨_, rfl, fun p2 x2 H2 s2 _ h2 d2 => ?_⟩
    have l2 : x2.length = 4 := d2.len
    refine ⟨_, _, _, _, rfl, rfl, s2 _ _ h1, h2, szl (by omega), fun p3 n3 => ?_⟩
    have D3 := Ds.app (d1.same s2) d2
    have S3 := (s1.trans s2).trans (same_new (o := .lst (x1 ++ x2)) n3)
    refine ⟨_, rfl, fun p4 x4 H4 s4 _ h4 d4 => ?_⟩
    have l4 : x4.length = 5 := d4.len
    refine ⟨_, _, _, _, rfl, rfl, s4 _ _ upd_same, h4, szl (by rw [List.length_append]; omega), fun p5 n5 => ?_⟩
    have D5 := Ds.app ((D3.same (same_new n3)).same s4) d4
    have S5 := (S3.trans s4).trans (same_new (o := .lst (x1 ++ x2 ++ x4)) n5)
    refine ⟨_, rfl, fun p6 x6 H6 s6 _ h6 d6 => ?_⟩
    have l6 : x6.length = 3 := d6.len
    refine ⟨_, _, _, _, rfl, rfl, s6 _ _ upd_same, h6, szl (by rw [List.length_append, List.length_append]; omega), fun p7 n7 => ?_⟩
    have D7 := (Ds.app ((D5.same (same_new n5)).same s6) d6).same (same_new (o := .lst (x1 ++ x2 ++ x4 ++ x6)) n7)
    have S7 := (S5.trans s6).trans (same_new (o := .lst (x1 ++ x2 ++ x4 ++ x6)) n7)
    refine k p7 _ _ S7 ((S5.trans s6).free n7) upd_same (fun v hv => ?_) (by simp only [List.length_append]; omega) (by simp only [List.length_append]; omega)
    obtain ⟨d, hd, hs⟩ := D7.mem hv
    refine ⟨d, hs, okB_valid ?_⟩
    refine List.all_eq_true.mp ?_ d hd
    decide
end
end Sk

namespace Sk
open PySem L2 Ow
def spSystem (K : PySem.W.Frag) : Sp := fun vs H Q _ => ∃ p : Addr, vs = [.ref p] ∧ VatAt H p ∧ ∀ (v : V) (n : Int) (bs : List (List Int)) (H' : Hp), Off p H H' → VatAt H' p → SysD K H' v n bs → Valid n bs → Q v H'
section
variable {P : Program} {w : World} {K : PySem.W.Frag} {mg : Str → Option Value} {base : Heap} {C : Addr}
theorem cal_l_system (T : Txt K mg C) : Cal P w K mg base "_law_system" 3 (spSystem K) := by
  refine T.d_l_system.cal (ps := ["_law_vat_here"]) (fun f fd D => ?_) (fun _ _ _ _ _ _ us hl => match us, hl with | [_], _ => rfl)
  refine D.ok sc_l_system (fun vs H Q E h => ?_) (fun cdv A outer s H vs Q E hr h => ?_)
  · obtain ⟨p, rfl, _⟩ := h
    rfl
  · obtain ⟨p, rfl, hb, k⟩ := h
    refine ⟨_, (pss_cons (ps_if (pt_cmpR op_gt (pe_cal (cal_l_tap T) (hr.mono (by decide)) (by rfl) (pa_cons (pv 0) (pa_cons pe_int pa_nil))) pe_int (nomark _)) (pss_one (ps_ret (pe_cal (cal_l_taste T) (hr.mono (by decide)) (by rfl) (pa_cons (pv 0) (pa_cons (pe_cal0 (cal_l_told_systems T) (hr.mono (by decide)) (by rfl)) pa_nil))))) pss_nil)
      (pss_cons (ps_par (i := 1) (j := 2) rfl sc_l_system.nd rfl rfl (by decide) rfl rfl (pa_cons (pe_op op_add pe_int (pe_cal (cal_l_tap T) (hr.mono (by decide)) (by rfl) (pa_cons (pv 0) (pa_cons pe_int pa_nil)))) (pa_cons (pe_lst pa_nil) pa_nil)) rfl)
      (pss_cons (ps_for PassesOwn.never rfl (pi_range1 (by rfl) T.b_range (pa_cons (pv 1) pa_nil)) (pg_name (i := 3) sc_l_system.nd rfl (Or.inl rfl)) (pss_one (ps_for PassesOwn.never rfl (pi_range2 (by rfl) T.b_range (pa_cons (pe_op op_add (pv 3) pe_int) (pa_cons (pv 1) pa_nil))) (pg_name (i := 4) sc_l_system.nd rfl (Or.inl rfl)) (pss_cons (ps_set (i := 5) sc_l_system.nd rfl (Or.inl rfl) (pe_cal (cal_l_taste T) (hr.mono (by decide)) (by rfl) (pa_cons (pv 0) (pa_cons (pe_lst (pa_cons pe_int (pa_cons pe_int (pa_cons pe_int (pa_cons pe_int (pa_cons pe_int (pa_cons pe_int (pa_cons pe_int (pa_cons pe_int pa_nil))))))))) pa_nil))))
      (pss_one (ps_if (pt_cmpR op_ne (pv 5) pe_int (nomark _)) (pss_one (ps_expr (pe_bm PySem.F.plainAttrs_list PySem.F.slot_list_append PySem.F.type_list_append mt_append (pv 2) (pa_cons (pe_tup (pa_cons (pv 3) (pa_cons (pv 4) (pa_cons (pv 5) pa_nil)))) pa_nil)))) pss_nil))))))
      (pss_one (ps_ret (pe_tup (pa_cons (pv 1) (pa_cons (pe_callTy call_tuple_of (by rfl) T.b_tuple (by decide +kernel) (pa_cons (pv 2) pa_nil)) pa_nil)))))))), ?_⟩
    refine ⟨_, rfl, p, _, rfl, by decide, by decide, hb, fun r H1 r0 r1 o1 b1 => ?_⟩
    refine ⟨_, _, rfl, rfl, _, rfl, ite2 (fun _ => ?_) (fun _ => ?_)⟩
    · refine ⟨_, rfl, rfl, fun l xs H2 s2 n2 h2 hv l0 l1 => ?_⟩
      have b2 := b1.same s2
      refine ⟨p, l, xs, rfl, b2, h2, vat_ne b1 n2, l0, l1, fun v H3 hm o3 b3 => ?_⟩
      obtain ⟨d, hd, va⟩ := hv v hm
      obtain ⟨c0, c1, c2, e2⟩ := b2
      exact k v _ _ H3 (o1.trans ((Off.of_same s2).trans o3)) b3 (hd.off o3 e2) va
    · refine ⟨_, rfl, p, _, rfl, by decide, by decide, b1, fun r2 H2 q0 q1 o2 b2 => ?_⟩
      refine ⟨_, _, rfl, rfl, Nat.zero_le _, fun l nl => ⟨_, _, rfl, ?_⟩⟩
      have nlp := vat_ne b2 nl
      have nlH : ∀ z, H l ≠ some z := fun z e => by
        have := (o1.trans o2) l z nlp e
        rw [nl] at this
        cases this
      refine ⟨_, rfl, _, rfl, by omega, by omega, for_range (lo := 0) (n := (1 + r2).toNat) (fun i σ H' => ∃ (xs : List V) (bs : List (List Int)) (v3 v4 v5 : Option V), σ = [some (.ref p), some (.int (1 + r2)), some (.ref l), v3, v4, v5] ∧ Off p H H' ∧ VatAt H' p ∧ H' l = some (.lst xs) ∧ TIs K H' xs bs ∧
        (∀ t ∈ bs, trOk (1 + r2) t ∧ t.getD 0 0 < (i : Int)) ∧ (bs.map (·.take 2)).Pairwise (fun p q => HT.lexLt p q = true) ∧ bs.length ≤ 4 * i) ?_ ?_ ?_⟩
      · refine ⟨[], [], none, none, none, rfl, ?_, b2.same (same_new nl), upd_same, trivial, (fun t h => by cases h), List.Pairwise.nil, Nat.zero_le _⟩
        exact (o1.trans o2).trans (.of_same (same_new nl))
      · rintro i σ H' hi ⟨xs, bs, v3, v4, v5, rfl, oo, bb, hl, hx, hbs, hpw, hln⟩
        refine ⟨_, rfl, _, _, rfl, rfl, _, rfl, _, _, rfl, ⟨by omega, by omega, by omega, by omega⟩, for_range (lo := 0 + (i : Int) + 1) (n := (1 + r2 - (0 + (i : Int) + 1)).toNat) (fun j σ H' => ∃ (xs : List V) (bs : List (List Int)) (v4 v5 : Option V), σ = [some (.ref p), some (.int (1 + r2)), some (.ref l), some (.int (0 + (i : Int))), v4, v5] ∧ Off p H H' ∧ VatAt H' p ∧ H' l = some (.lst xs) ∧ TIs K H' xs bs ∧
          (∀ t ∈ bs, trOk (1 + r2) t ∧ (t.getD 0 0 < (i : Int) ∨ (t.getD 0 0 = (i : Int) ∧ t.getD 1 0 < (i : Int) + 1 + (j : Int)))) ∧ (bs.map (·.take 2)).Pairwise (fun p q => HT.lexLt p q = true) ∧ bs.length ≤ 4 * i + j) ?_ ?_ ?_⟩
        · exact ⟨xs, bs, v4, v5, rfl, oo, bb, hl, hx, fun t h => ⟨(hbs t h).1, .inl (hbs t h).2⟩, hpw, hln⟩
        · rintro j σ H3 hj ⟨xs, bs, v4, v5, rfl, oo, bb, hl, hx, hbs, hpw, hln⟩
          refine ⟨_, rfl, show 8 ≤ sizeLine by decide, fun m nm => ?_⟩
          refine ⟨p, m, _, rfl, bb.same (same_new nm), upd_same, vat_ne bb nm, (by show 0 < 8; decide), (by show 8 ≤ 1000; decide), fun v H4 hv o4 b4 => ?_⟩
          obtain ⟨b, rfl, hb2⟩ : ∃ b : Int, v = .int b ∧ (b = 2 ∨ b = 0 ∨ b = 3 ∨ b = 4 ∨ b = 5 ∨ b = 6) := by
            simp only [List.mem_cons, List.not_mem_nil, or_false] at hv
            rcases hv with rfl | rfl | rfl | rfl | rfl | rfl | rfl | rfl
            all_goals exact ⟨_, rfl, by decide⟩
          have S4 : Off p H3 H4 := (Off.of_same (same_new nm)).trans o4
          have hl4 : H4 l = some (.lst xs) := S4 _ _ nlp hl
          have hx4 : TIs K H4 xs bs := by
            obtain ⟨c0, c1, c2, e2⟩ := bb.same (same_new (o := .lst [.int 2, .int 2, .int 3, .int 3, .int 4, .int 5, .int 6, .int 0]) nm)
            exact o4.tis e2 (hx.same (same_new nm))
          have oo4 := oo.trans S4
          refine ⟨_, rfl, rfl, _, rfl, ?_⟩
          have grow : ∀ t ∈ bs, trOk (1 + r2) t ∧ (t.getD 0 0 < (i : Int) ∨ (t.getD 0 0 = (i : Int) ∧ t.getD 1 0 < (i : Int) + 1 + ((j + 1 : Nat) : Int))) := fun t h => ⟨(hbs t h).1, by have := (hbs t h).2; omega⟩
          refine ite2 (fun hne => ?_) (fun _ => ?_)
          · have b2' : b ≠ 2 := fun e => by rw [e] at hne; exact absurd hne (by decide)
            refine ⟨_, rfl, .inl ⟨rfl, _, .of hl4⟩, _, rfl, _, rfl, _, rfl, show 3 ≤ sizeLine by decide, fun q nq => ?_⟩
            have hl5 := same_new (o := .tup [.int (0 + (i : Int)), .int (0 + (i : Int) + 1 + (j : Int)), .int b]) nq _ _ hl4
            refine ⟨l, _, _, rfl, rfl, hl5, ?_, ?_⟩
            · rw [hx4.len]
              exact small1000 (by omega)
            · have t0 : trOk (1 + r2) [0 + (i : Int), 0 + (i : Int) + 1 + (j : Int), b] := ⟨_, _, _, rfl, by omega, by omega, by omega, by omega⟩
              refine ⟨xs ++ [.ref q], bs ++ [[0 + (i : Int), 0 + (i : Int) + 1 + (j : Int), b]], _, _, rfl, ?_, (b4.same (same_new nq)).but off_upd nlp.symm, upd_same, ?_, ?_, ?_, ?_⟩
              · intro u z hu hz
                have := same_new (o := .tup [.int (0 + (i : Int)), .int (0 + (i : Int) + 1 + (j : Int)), .int b]) nq _ _ (oo4 u z hu hz)
                rw [upd_ne (show u ≠ l from fun e => nlH z (by rw [← e]; exact hz))]
                exact this
              · exact (off_upd.tis hl5 (hx4.same (same_new nq))).snoc (off_upd.ti hl5 ⟨q, rfl, .of upd_same⟩)
              · intro t ht
                rcases List.mem_append.mp ht with ht | ht
                · exact grow t ht
                · obtain rfl := List.mem_singleton.mp ht
                  exact ⟨t0, .inr ⟨by show 0 + (i : Int) = i; omega, by show 0 + (i : Int) + 1 + (j : Int) < _; omega⟩⟩
              · rw [List.map_append, List.pairwise_append]
                refine ⟨hpw, List.pairwise_singleton _ _, fun x hx y hy => ?_⟩
                obtain rfl := List.mem_singleton.mp hy
                obtain ⟨t, ht, rfl⟩ := List.mem_map.mp hx
                obtain ⟨⟨a, c, d, rfl, _⟩, hh⟩ := hbs t ht
                show HT.lexLt [a, c] [0 + (i : Int), 0 + (i : Int) + 1 + (j : Int)] = true
                have hh' : a < (i : Int) ∨ (a = (i : Int) ∧ c < (i : Int) + 1 + (j : Int)) := hh
                rw [HT.lexLt_cons]
                split
                · rw [HT.lexLt_cons]
                  split
                  · omega
                  · exact decide_eq_true (by omega)
                · exact decide_eq_true (by omega)
              · rw [List.length_append, List.length_singleton]
                omega
          · exact ⟨xs, bs, _, _, rfl, oo4, b4, hl4, hx4, grow, hpw, by omega⟩
        · rintro σ H3 ⟨xs, bs, v4, v5, rfl, oo, bb, hl, hx, hbs, hpw, hln⟩
          refine ⟨xs, bs, _, _, _, rfl, oo, bb, hl, hx, fun t h => ⟨(hbs t h).1, ?_⟩, hpw, ?_⟩
          · have := (hbs t h).2
            omega
          · omega
      · rintro σ H' ⟨xs, bs, v3, v4, v5, rfl, oo, bb, hl, hx, hbs, hpw, hln⟩
        refine ⟨_, rfl, _, rfl, _, _, rfl, .inl ⟨.of hl, fun q nq => ⟨show 2 ≤ sizeLine by decide, fun u nu => ?_⟩⟩⟩
        have S := (same_new (o := .tup xs) nq).trans (same_new (o := .tup [.int (1 + r2), .ref q]) nu)
        refine k _ (1 + r2) bs _ (oo.trans (.of_same S)) (bb.same S) ⟨u, .ref q, rfl, .of upd_same, q, xs, rfl, .of (same_new nu _ _ upd_same), hx.same S⟩ ⟨by omega, by omega, fun t h => (hbs t h).1, hpw, by omega⟩
end
end Sk

namespace Sk
open PySem L2 Ow
/-! tables of golds -/
def frL (n : Nat) (F : Nat → Rt.Vc) : List (List (List Int)) := (List.range n).map fun i => stL n (F i)
theorem frL_len (n : Nat) (F : Nat → Rt.Vc) : (frL n F).length = n := by unfold frL; rw [List.length_map, List.length_range]
theorem frL_get {n : Nat} {F : Nat → Rt.Vc} {i : Nat} (h : i < n) : (frL n F)[i]? = some (stL n (F i)) := by
  unfold frL
  rw [List.getElem?_map, List.getElem?_range h]
  rfl
theorem pr2_inj {x y : Rt.G} (h : pr2 x = pr2 y) : x = y := by
  unfold pr2 at h
  injection h with h1 h2
  injection h2 with h2 _
  exact Prod.ext h1 h2
theorem stL_eq {n : Nat} {x y : Rt.Vc} : stL n x = stL n y ↔ ∀ i, i < n → x i = y i := by
  constructor
  · intro h i hi
    have := stL_get (S := x) hi
    rw [h, stL_get hi] at this
    exact (pr2_inj (Option.some.inj this)).symm
  · intro h
    unfold stL
    refine List.map_congr_left fun i hi => ?_
    rw [h i (List.mem_range.mp hi)]
theorem frL_eq {n : Nat} {F G : Nat → Rt.Vc} : frL n F = frL n G ↔ ∀ i, i < n → ∀ k, k < n → F i k = G i k := by
  constructor
  · intro h i hi
    have := frL_get (F := F) hi
    rw [h, frL_get hi] at this
    exact stL_eq.mp (Option.some.inj this).symm
  · intro h
    unfold frL
    refine List.map_congr_left fun i hi => ?_
    rw [stL_eq.mpr (h i (List.mem_range.mp hi))]
/-- whether some number is below 0 -/
noncomputable def lowB (n : Nat) (x : Rt.Vc) : Bool := (List.range n).any fun i => decide (Rt.sn (x i) = -1)
theorem lowB_iff {n : Nat} {x : Rt.Vc} : lowB n x = true ↔ Rt.Low n x := by
  unfold lowB Rt.Low
  rw [List.any_eq_true]
  constructor
  · rintro ⟨i, hi, h⟩
    exact ⟨i, List.mem_range.mp hi, of_decide_eq_true h⟩
  · rintro ⟨i, hi, h⟩
    exact ⟨i, List.mem_range.mpr hi, decide_eq_true h⟩
theorem lowB_false {n : Nat} {x : Rt.Vc} (h : ∀ i, i < n → Rt.sn (x i) ≠ -1) : lowB n x = false := by
  cases e : lowB n x with
  | false => rfl
  | true =>
    obtain ⟨i, hi, h2⟩ := lowB_iff.mp e
    exact absurd h2 (h i hi)
/-! a list of lists of tuples -/
def FcAt (K : PySem.W.Frag) (H : Hp) (v : V) (L : List (List (List Int))) : Prop := ∃ a xs, v = .ref a ∧ H a = some (.lst xs) ∧ A2 (fun x r => ∃ l, x = V.ref l ∧ LT K H l r) xs L
theorem FcAt.same {K : PySem.W.Frag} {H H' : Hp} {v : V} {L : List (List (List Int))} (h : FcAt K H v L) (s : Same H H') : FcAt K H' v L := h.elim fun a ⟨xs, e, q, t⟩ => ⟨a, xs, e, s _ _ q, t.imp fun _ _ ⟨l, e, z⟩ => ⟨l, e, z.same s⟩⟩
theorem A2.imp_mem {α : Type} {R S : V → α → Prop} : ∀ {xs : List V} {as : List α}, (∀ x a, x ∈ xs → R x a → S x a) → A2 R xs as → A2 S xs as
  | [], [], _, _ => trivial
  | x :: _, _ :: _, h, z => ⟨h _ _ (by simp) z.1, A2.imp_mem (fun y a m => h y a (by simp [m])) z.2⟩
theorem LT.but {K : PySem.W.Frag} {H H' : Hp} {l p : Addr} {r : List (List Int)} (h : LT K H l r) (o : Off p H H') (b : VatAt H p) : LT K H' l r := by
  obtain ⟨xs, e, t⟩ := h
  obtain ⟨b0, b1, b2, hp⟩ := b
  have ne : l ≠ p := by
    intro z
    subst z
    rw [hp] at e
    cases e
    cases r with
    | nil => exact t
    | cons c r => exact (t.1.elim fun a z => by cases z.1)
  exact ⟨xs, o _ _ ne e, o.tis hp t⟩
theorem FcAt.but {K : PySem.W.Frag} {H H' : Hp} {v : V} {p : Addr} {L : List (List (List Int))} (h : FcAt K H v L) (o : Off p H H') (b : VatAt H p) : FcAt K H' v L := by
  obtain ⟨a, xs, rfl, q, t⟩ := h
  have bb := b
  obtain ⟨b0, b1, b2, hp⟩ := b
  have ne : a ≠ p := by
    intro z
    subst z
    rw [hp] at q
    cases q
    cases L with
    | nil => exact t
    | cons c r => exact (t.1.elim fun a z => by cases z.1)
  exact ⟨a, xs, rfl, o _ _ ne q, t.imp fun _ _ ⟨l, e, z⟩ => ⟨l, e, z.but o bb⟩⟩
theorem LkAt.but {K : PySem.W.Frag} {H H' : Hp} {v : V} {p : Addr} {lk : List (List (List Int))} (h : LkAt K H v lk) (o : Off p H H') (b : VatAt H p) : LkAt K H' v lk := by
  obtain ⟨a, xs, rfl, q, t⟩ := h
  obtain ⟨b0, b1, b2, hp⟩ := b
  exact ⟨a, xs, rfl, o.sqT hp q, t.imp fun _ _ z => o.bs hp z⟩
/-- the factors of a system -/
def fcL (bs : List (List Int)) (n : Nat) : List (List (List Int)) := (List.range n).map fun i => stL n (cB bs i)
theorem fcL_len (bs : List (List Int)) (n : Nat) : (fcL bs n).length = n := by unfold fcL; rw [List.length_map, List.length_range]
theorem fcL_get {bs : List (List Int)} {n : Nat} {i : Nat} (h : i < n) : (fcL bs n)[i]? = some (stL n (cB bs i)) := by
  unfold fcL
  rw [List.getElem?_map, List.getElem?_range h]
  rfl
theorem FcAt.get {K : PySem.W.Frag} {H : Hp} {v : V} {bs : List (List Int)} {n i : Nat} (h : FcAt K H v (fcL bs n)) (hi : i < n) : ∃ a xs l, v = .ref a ∧ H a = some (.lst xs) ∧ xs[i]? = some (.ref l) ∧ LT K H l (stL n (cB bs i)) := by
  obtain ⟨a, xs, rfl, q, t⟩ := h
  obtain ⟨x, ex, l, rfl, hl⟩ := t.at_ (fcL_get hi)
  exact ⟨a, xs, l, rfl, q, ex, hl⟩
theorem LT.get {K : PySem.W.Frag} {H : Hp} {l : Addr} {n i : Nat} {x : Rt.Vc} (h : LT K H l (stL n x)) (hi : i < n) : ∃ xs v, SqL K H l xs ∧ xs[i]? = some v ∧ TI K H v (pr2 (x i)) := by
  obtain ⟨xs, q, t⟩ := h
  obtain ⟨v, ev, tv⟩ := (A2.of_tis t).at_ (stL_get hi)
  exact ⟨xs, v, .of q, ev, tv⟩
theorem row_get {K : PySem.W.Frag} {H : Hp} {v : V} {n i : Nat} {x : Rt.Vc} (h : BsAt K H v (stL n x)) (hi : i < n) : ∃ a xs y, v = .ref a ∧ SqT K H a xs ∧ xs[i]? = some y ∧ TI K H y (pr2 (x i)) := by
  obtain ⟨a, xs, rfl, q, t⟩ := h
  obtain ⟨y, ey, ty⟩ := (A2.of_tis t).at_ (stL_get hi)
  exact ⟨a, xs, y, rfl, q, ey, ty⟩
theorem at0 {a b : Int} : atI ((pr2 (a, b)).map V.int) 0 = some (.int a) := at_of (j := 0) rfl rfl
theorem at1 {a b : Int} : atI ((pr2 (a, b)).map V.int) 1 = some (.int b) := at_of (j := 1) rfl rfl
def spAdd2 (K : PySem.W.Frag) : Sp := fun vs H Q _ => ∃ (a b : V) (x y : Rt.G), vs = [a, b] ∧ TI K H a (pr2 x) ∧ TI K H b (pr2 y) ∧ ∀ v H', Same H H' → TI K H' v (pr2 (Rt.ad x y)) → Q v H'
def spTimes (K : PySem.W.Frag) : Sp := fun vs H Q _ => ∃ (a b : V) (x y : Rt.G), vs = [a, b] ∧ TI K H a (pr2 x) ∧ TI K H b (pr2 y) ∧ (B 1000 x.1 ∧ B 1000 x.2) ∧ (B 1000 y.1 ∧ B 1000 y.2) ∧ ∀ v H', Same H H' → TI K H' v (pr2 (Rt.cm x y)) → Q v H'
def spLow (K : PySem.W.Frag) : Sp := fun vs H Q _ => ∃ (v : V) (n : Nat) (x : Rt.Vc), vs = [v] ∧ BsAt K H v (stL n x) ∧ (∀ i, i < n → B 1000 (x i).1 ∧ B 1000 (x i).2) ∧ Q (.bl (lowB n x)) H
def spLFirst (K : PySem.W.Frag) : Sp := fun vs H Q _ => ∃ (v : V) (n : Nat) (bs : List (List Int)), vs = [v] ∧ FcAt K H v (fcL bs n) ∧ n ≤ 4 ∧ ∀ v H', Same H H' → LkAt K H' v (frL n Rt.al) → Q v H'
section
variable {P : Program} {w : World} {K : PySem.W.Frag} {mg : Str → Option Value} {base : Heap} {C : Addr}
theorem cal_l_added (T : Txt K mg C) : Cal P w K mg base "_law_added" 1 (spAdd2 K) := by
  refine T.d_l_added.cal (ps := ["_law_one", "_law_other"]) (fun f fd D => ?_) (fun _ _ _ _ _ _ us hl => match us, hl with | [_, _], _ => rfl)
  refine D.ok sc_l_added (fun vs H Q E h => ?_) (fun cdv A outer s H vs Q E hr h => ?_)
  · obtain ⟨_, _, _, _, rfl, _⟩ := h
    rfl
  · obtain ⟨_, _, ⟨x1, x2⟩, ⟨y1, y2⟩, rfl, ⟨a, rfl, ha⟩, ⟨b, rfl, hb⟩, k⟩ := h
    refine ⟨_, (pss_one (ps_ret (pe_tup (pa_cons (pe_op op_add (pe_ix ix_tup (pv 0) pe_int (fun _ _ => rfl)) (pe_ix ix_tup (pv 1) pe_int (fun _ _ => rfl))) (pa_cons (pe_op op_add (pe_ix ix_tup (pv 0) pe_int (fun _ _ => rfl)) (pe_ix ix_tup (pv 1) pe_int (fun _ _ => rfl))) pa_nil))))), ?_⟩
    refine ⟨_, rfl, _, _, _, _, rfl, rfl, ha, at0, _, rfl, _, _, _, _, rfl, rfl, hb, at0, _, _, rfl, rfl, ?_⟩
    refine ⟨_, rfl, _, _, _, _, rfl, rfl, ha, at1, _, rfl, _, _, _, _, rfl, rfl, hb, at1, _, _, rfl, rfl, ?_⟩
    exact ⟨show 2 ≤ sizeLine by decide, fun p np => k _ _ (same_new np) ⟨p, rfl, .of upd_same⟩⟩
theorem cal_l_times (T : Txt K mg C) : Cal P w K mg base "_law_times" 1 (spTimes K) := by
  refine T.d_l_times.cal (ps := ["_law_one", "_law_other"]) (fun f fd D => ?_) (fun _ _ _ _ _ _ us hl => match us, hl with | [_, _], _ => rfl)
  refine D.ok sc_l_times (fun vs H Q E h => ?_) (fun cdv A outer s H vs Q E hr h => ?_)
  · obtain ⟨_, _, _, _, rfl, _⟩ := h
    rfl
  · obtain ⟨_, _, ⟨x1, x2⟩, ⟨y1, y2⟩, rfl, ⟨a, rfl, ha⟩, ⟨b, rfl, hb⟩, ⟨bx1, bx2⟩, ⟨by1, by2⟩, k⟩ := h
    refine ⟨_, (pss_cons (ps_set (i := 2) sc_l_times.nd rfl (Or.inl rfl) (pe_op op_mulW (pe_ix ix_tup (pv 0) pe_int (fun _ _ => rfl)) (pe_ix ix_tup (pv 1) pe_int (fun _ _ => rfl))))
      (pss_one (ps_ret (pe_tup (pa_cons (pe_op op_add (pe_op op_mulW (pe_ix ix_tup (pv 0) pe_int (fun _ _ => rfl)) (pe_ix ix_tup (pv 1) pe_int (fun _ _ => rfl))) (pv 2)) (pa_cons (pe_op op_add (pe_op op_add (pe_op op_mulW (pe_ix ix_tup (pv 0) pe_int (fun _ _ => rfl)) (pe_ix ix_tup (pv 1) pe_int (fun _ _ => rfl))) (pe_op op_mulW (pe_ix ix_tup (pv 0) pe_int (fun _ _ => rfl)) (pe_ix ix_tup (pv 1) pe_int (fun _ _ => rfl)))) (pv 2)) pa_nil)))))), ?_⟩
    refine ⟨_, rfl, _, _, _, _, rfl, rfl, ha, at1, _, rfl, _, _, _, _, rfl, rfl, hb, at1, _, _, rfl, rfl, bx2.ok by2, ?_⟩
    refine ⟨_, rfl, _, _, _, _, rfl, rfl, ha, at0, _, rfl, _, _, _, _, rfl, rfl, hb, at0, _, _, rfl, rfl, bx1.ok by1, _, rfl, _, _, rfl, rfl, ?_⟩
    refine ⟨_, rfl, _, _, _, _, rfl, rfl, ha, at0, _, rfl, _, _, _, _, rfl, rfl, hb, at1, _, _, rfl, rfl, bx1.ok by2, ?_⟩
    refine ⟨_, rfl, _, _, _, _, rfl, rfl, ha, at1, _, rfl, _, _, _, _, rfl, rfl, hb, at0, _, _, rfl, rfl, bx2.ok by1, _, _, rfl, rfl, _, rfl, _, _, rfl, rfl, ?_⟩
    exact ⟨show 2 ≤ sizeLine by decide, fun p np => k _ _ (same_new np) ⟨p, rfl, .of upd_same⟩⟩
end
end Sk

namespace Sk
open PySem L2 Ow
theorem low_test (w p : Int) : Rt.sn (w, p) = -1 ↔ (2 * w + p < 0 ∧ (p ≤ 0 ∨ (2 * w + p) * (2 * w + p) > 5 * p * p)) ∨ (2 * w + p ≥ 0 ∧ p < 0 ∧ (2 * w + p) * (2 * w + p) < 5 * p * p) := by
  show Gd.gs w p = -1 ↔ _
  rw [← Gd.gsI_eq]
  unfold Gd.gsI
  have ir : (2 * w + p) * (2 * w + p) = 5 * p * p → p = 0 := fun h => (Gd.irr (t := 2 * w + p) (p := p) (by rw [h, Int.mul_assoc])).2
  have z0 : 2 * w + p = 0 → p < 0 → (2 * w + p) * (2 * w + p) < 5 * p * p := fun h g => by
    rw [h, Int.mul_assoc]
    have := Int.mul_pos_of_neg_of_neg g g
    omega
  generalize (2 * w + p) * (2 * w + p) = S at *
  generalize 5 * p * p = R at *
  split
  · omega
  · split
    · omega
    · split
      · rename_i h1 h2 h3
        constructor
        · intro _
          by_cases c : 2 * w + p < 0
          · exact .inl ⟨c, .inl h3.2⟩
          · have : p < 0 := by omega
            exact .inr ⟨by omega, this, z0 (by omega) this⟩
        · intro _
          rfl
      · split
        · rename_i h
          rw [beq_iff_eq, decide_eq_decide] at h
          omega
        · rename_i h
          rw [beq_iff_eq, decide_eq_decide] at h
          omega
section
variable {P : Program} {w : World} {K : PySem.W.Frag} {mg : Str → Option Value} {base : Heap} {C : Addr}
theorem cal_l_is_low (T : Txt K mg C) : Cal P w K mg base "_law_is_low" 1 (spLow K) := by
  refine T.d_l_is_low.cal (ps := ["_law_row"]) (fun f fd D => ?_) (fun _ _ _ _ _ _ us hl => match us, hl with | [_], _ => rfl)
  refine D.ok sc_l_is_low (fun vs H Q E h => ?_) (fun cdv A outer s H vs Q E hr h => ?_)
  · obtain ⟨_, _, _, rfl, _⟩ := h
    rfl
  · obtain ⟨_, n, x, rfl, ⟨a, xs, rfl, ha, hx⟩, hb, k⟩ := h
    have hl : xs.length = n := by rw [hx.len, stL_len]
    refine ⟨_, (pss_cons (ps_for PassesOwn.never rfl (pi_tup (pv 0)) (pg_tup (by rfl) (pgs_cons (pg_name (i := 1) sc_l_is_low.nd rfl (Or.inl rfl)) (pgs_cons (pg_name (i := 2) sc_l_is_low.nd rfl (Or.inl rfl)) pgs_nil))) (pss_cons (ps_set (i := 3) sc_l_is_low.nd rfl (Or.inl rfl) (pe_op op_add (pe_op op_mul pe_int (pv 1)) (pv 2)))
      (pss_cons (ps_if (PW.pt (pw_and (pt_cmpR op_lt (pv 3) pe_int (nomark _)) (pw_and1 (PW.pt (pw_or (pt_cmpR op_le (pv 2) pe_int (nomark _)) (pw_or1 (pt_cmpR op_gt (pe_op op_mulW (pv 3) (pv 3)) (pe_op op_mulW (pe_op op_mul pe_int (pv 2)) (pv 2)) (nomark _)))))))) (pss_one (ps_ret pe_bl)) pss_nil)
      (pss_one (ps_if (PW.pt (pw_and (pt_cmpR op_ge (pv 3) pe_int (nomark _)) (pw_and (pt_cmpR op_lt (pv 2) pe_int (nomark _)) (pw_and1 (pt_cmpR op_lt (pe_op op_mulW (pv 3) (pv 3)) (pe_op op_mulW (pe_op op_mul pe_int (pv 2)) (pv 2)) (nomark _)))))) (pss_one (ps_ret pe_bl)) pss_nil)))))
      (pss_one (ps_ret pe_bl))), ?_⟩
    refine ⟨_, rfl, a, rfl, ⟨_, ha⟩, for_tup (K := K) (a := a) (xs := xs) (fun i σ H' => H' = H ∧ (∃ v1 v2 v3, σ = [some (.ref a), v1, v2, v3]) ∧ ∀ j, j < i → Rt.sn (x j) ≠ -1) ⟨rfl, ⟨none, none, none, rfl⟩, fun j h => absurd h (Nat.not_lt_zero j)⟩ (fun i σ H' _ h => by rw [h.1]; exact ha) ?_ ?_⟩
    · rintro i y σ H2 hy ⟨rfl, ⟨v1, v2, v3, rfl⟩, hj⟩
      have il : i < n := by
        have := (List.getElem?_eq_some_iff.mp hy).1
        omega
      obtain ⟨r, er, tr⟩ := hx.get hy
      rw [stL_get il] at er
      cases er
      obtain ⟨b, rfl, tb⟩ := tr
      have bi := hb i il
      rcases hxi : x i with ⟨w1, p1⟩
      rw [hxi] at tb bi
      have bt : B 1003 (2 * w1 + p1) := ((B.lit (n := 2) 2).mul bi.1 : B 1002 (2 * w1)).add (bi.2.mono (by decide))
      have b5 : B 1003 (5 * p1) := (B.lit (n := 3) 5).mul bi.2
      refine ⟨_, _, rfl, tb, rfl, _, _, rfl, _, _, rfl, rfl, ?_⟩
      refine ⟨_, rfl, _, _, rfl, rfl, .inl ⟨by decide, by decide⟩, _, rfl, _, _, rfl, rfl, ?_⟩
      have lt := low_test w1 p1
      have yes : Rt.sn (w1, p1) = -1 → lowB n x = true := fun h => lowB_iff.mpr ⟨i, il, by rw [hxi]; exact h⟩
      have ret : Rt.sn (w1, p1) = -1 → Q (.bl true) H2 := fun h => by
        rw [← yes h]
        exact k
      have stay : ¬ Rt.sn (w1, p1) = -1 → ∀ j, j < i + 1 → Rt.sn (x j) ≠ -1 := fun h j hj2 => by
        by_cases e : j = i
        · rw [e, hxi]
          exact h
        · exact hj j (by omega)
      refine ⟨_, rfl, _, _, rfl, rfl, _, rfl, ite2 (fun c1 => ?_) (fun c1 => ?_)⟩
      · have c1 := of_decide_eq_true c1
        dsimp only at c1
        refine ⟨_, rfl, _, _, rfl, rfl, _, rfl, ite2 (fun c2 => ?_) (fun c2 => ?_)⟩
        · have c2 := of_decide_eq_true c2
          exact iteT (ret (lt.mpr (.inl ⟨c1, .inl c2⟩)))
        · have c2 := fun z => c2 (decide_eq_true z)
          dsimp only at c2
          refine ⟨_, rfl, _, rfl, _, _, rfl, rfl, bt.ok bt, _, rfl, _, _, rfl, rfl, .inl ⟨by decide, by decide⟩, _, rfl, _, _, rfl, rfl, b5.ok bi.2, _, _, rfl, rfl, _, rfl, ite2 (fun c3 => ?_) (fun c3 => ?_)⟩
          · have c3 := of_decide_eq_true c3
            exact ret (lt.mpr (.inl ⟨c1, .inr c3⟩))
          · have c3 := fun z => c3 (decide_eq_true z)
            dsimp only at c3
            refine ⟨_, rfl, _, _, rfl, rfl, _, rfl, ite2 (fun c4 => ?_) (fun c4 => ?_)⟩
            · have c4 := of_decide_eq_true c4
              dsimp only at c4
              omega
            · refine iteF ⟨rfl, ⟨_, _, _, rfl⟩, stay fun h => ?_⟩
              rcases lt.mp h with ⟨_, h | h⟩ | ⟨h, _⟩
              · exact c2 h
              · exact c3 h
              · omega
      · have c1 : ¬ (2 * w1 + p1 < 0) := fun z => c1 (decide_eq_true z)
        refine iteF ⟨_, rfl, _, _, rfl, rfl, _, rfl, ite2 (fun c4 => ?_) (fun c4 => ?_)⟩
        · refine ⟨_, rfl, _, _, rfl, rfl, _, rfl, ite2 (fun c2 => ?_) (fun c2 => ?_)⟩
          · have c2 := of_decide_eq_true c2
            refine ⟨_, rfl, _, rfl, _, _, rfl, rfl, bt.ok bt, _, rfl, _, _, rfl, rfl, .inl ⟨by decide, by decide⟩, _, rfl, _, _, rfl, rfl, b5.ok bi.2, _, _, rfl, rfl, _, rfl, ite2 (fun c3 => ?_) (fun c3 => ?_)⟩
            · have c3 := of_decide_eq_true c3
              exact ret (lt.mpr (.inr ⟨by omega, c2, c3⟩))
            · have c3 := fun z => c3 (decide_eq_true z)
              dsimp only at c3
              refine ⟨rfl, ⟨_, _, _, rfl⟩, stay fun h => ?_⟩
              rcases lt.mp h with ⟨h, _⟩ | ⟨_, _, h⟩
              · exact c1 h
              · exact c3 h
          · have c2 := fun z => c2 (decide_eq_true z)
            refine iteF ⟨rfl, ⟨_, _, _, rfl⟩, stay fun h => ?_⟩
            rcases lt.mp h with ⟨h, _⟩ | ⟨_, h, _⟩
            · exact c1 h
            · exact c2 h
        · have c4 : ¬ (2 * w1 + p1 ≥ 0) := fun z => c4 (decide_eq_true z)
          omega
    · rintro σ H2 ⟨rfl, _, hj⟩
      rw [lowB_false fun i h => hj i (by omega)] at k
      exact k
end
end Sk

namespace Sk
open PySem L2 Ow
def rLenQ (K : PySem.W.Frag) : List V → Hp → VK → Prop := fun xs H Q => ∃ p ys, xs = [.ref p] ∧ (SqL K H p ys ∨ SqT K H p ys) ∧ Q (.int ys.length) H
theorem slc_any {K : PySem.W.Frag} {H : Hp} {Q : VK} {a : Addr} {xs : List V} {lo hi : Option Int} (ha : SqT K H a xs) (q : ∀ v H', Same H H' → (∃ c, v = .ref c ∧ SqT K H' c (cutV xs lo hi)) → Q v H') : rSlA K (.ref a) lo hi H Q := by
  refine ⟨a, xs, rfl, ha, fun e => q _ _ (.refl _) ⟨a, rfl, ?_⟩, fun _ p np => q _ _ (same_new np) ⟨p, rfl, .of upd_same⟩⟩
  have : cutV xs lo hi = xs := by
    unfold cutV
    rw [e.1, e.2]
    simp
  rw [this]
  exact ha
theorem cut_drop (xs : List V) (k : Nat) : cutV xs (some (k : Int)) none = xs.drop k := by
  show (xs.drop (HT.sIx xs.length 0 (some ((k : Nat) : Int)))).take (xs.length - HT.sIx xs.length 0 (some ((k : Nat) : Int))) = xs.drop k
  rw [HT.sIx_nat]
  by_cases h : k ≤ xs.length
  · rw [Nat.min_eq_left h, List.take_of_length_le (by rw [List.length_drop]; omega)]
  · rw [Nat.min_eq_right (by omega), List.drop_eq_nil_of_le (Nat.le_refl _), List.drop_eq_nil_of_le (by omega)]
    simp
theorem cut_take (xs : List V) (k : Nat) : cutV xs none (some (k : Int)) = xs.take k := by
  show (xs.drop 0).take (HT.sIx xs.length xs.length (some ((k : Nat) : Int)) - 0) = xs.take k
  rw [HT.sIx_nat, List.drop_zero, Nat.sub_zero]
  by_cases h : k ≤ xs.length
  · rw [Nat.min_eq_left h]
  · rw [Nat.min_eq_right (by omega), List.take_of_length_le (Nat.le_refl _), List.take_of_length_le (by omega)]
/-- all numbers small enough for a product -/
def Sml (n : Nat) (x : Rt.Vc) : Prop := ∀ i, i < n → B 1000 (x i).1 ∧ B 1000 (x i).2
theorem stL_set {n l : Nat} (x : Rt.Vc) (g : Rt.G) : (stL n x).set l (pr2 g) = stL n (fun k => if k = l then g else x k) := by
  refine eq_stL (by rw [List.length_set, stL_len]) fun i hi => ?_
  rw [getD_set (by rw [stL_len]; exact hi)]
  by_cases e : i = l
  · rw [if_pos e, if_pos e]
  · rw [if_neg e, if_neg e, stL_getD hi]
theorem c_B {n : Int} {bs : List (List Int)} (va : Valid n bs) (i j : Nat) : B 1000 (cB bs i j).1 ∧ B 1000 (cB bs i j).2 := by
  have c := c_small va i j
  have b : ∀ z : Int, 0 ≤ z → z ≤ 3 → B 1000 z := fun z h0 h1 => (B.lit (n := 2) z (show z.natAbs < 4 by omega)).mono (by decide)
  exact ⟨b _ c.1 c.2.1, b _ c.2.2.1 c.2.2.2⟩
def spLed (K : PySem.W.Frag) : Sp := fun vs H Q _ => ∃ (fv rv : V) (n l : Nat) (bs : List (List Int)) (x : Rt.Vc), vs = [fv, .int l, rv] ∧ FcAt K H fv (fcL bs n) ∧ BsAt K H rv (stL n x) ∧ Valid n bs ∧ l < n ∧ Sml n x ∧ ∀ v H', Same H H' → BsAt K H' v (stL n (Rt.rf (cB bs) n l x)) → Q v H'
def spBehind (K : PySem.W.Frag) : Sp := fun vs H Q _ => ∃ (fv sv : V) (n l : Nat) (bs : List (List Int)) (F : Nat → Rt.Vc), vs = [fv, sv, .int l] ∧ FcAt K H fv (fcL bs n) ∧ LkAt K H sv (frL n F) ∧ Valid n bs ∧ l < n ∧ (∀ i, i < n → Sml n (F i)) ∧ ∀ v H', Same H H' → LkAt K H' v (frL n fun i => Rt.rf (cB bs) n l (F i)) → Q v H'
section
variable {P : Program} {w : World} {K : PySem.W.Frag} {mg : Str → Option Value} {base : Heap} {C : Addr}
theorem cal_l_led (T : Txt K mg C) : Cal P w K mg base "_law_led" 2 (spLed K) := by
  refine T.d_l_led.cal (ps := ["_law_factors_here", "_law_letter", "_law_row"]) (fun f fd D => ?_) (fun _ _ _ _ _ _ us hl => match us, hl with | [_, _, _], _ => rfl)
  refine D.ok sc_l_led (fun vs H Q E h => ?_) (fun cdv A outer s H vs Q E hr h => ?_)
  · obtain ⟨_, _, _, _, _, _, rfl, _⟩ := h
    rfl
  · obtain ⟨fv, rv, n, l, bs, x, rfl, hf, hrow, va, ln, hb, k⟩ := h
    obtain ⟨a, xs, rfl, ha, hx⟩ := hrow
    have hxl : xs.length = n := by rw [hx.len, stL_len]
    obtain ⟨y, ey, b, rfl, tb⟩ := (A2.of_tis hx).at_ (stL_get ln)
    have atl : atI xs ((l : Nat) : Int) = some (.ref b) := at_of (j := l) (by omega) ey
    have n4 := va.hi
    obtain ⟨fa, fs, ll, rfl, hfa, efs, hll⟩ := hf.get ln
    obtain ⟨gs, hgs, tgs⟩ := hll
    have hgl : gs.length = n := by rw [tgs.len, stL_len]
    have atf : atI fs ((l : Nat) : Int) = some (.ref ll) := at_of (j := l) (by omega) efs
    refine ⟨_, (pss_cons (ps_set (i := 3) sc_l_led.nd rfl (Or.inl rfl) (pe_tup (pa_cons (pe_op op_sub pe_int (pe_ix ix_tup (pe_ix ix_tup (pv 2) (pv 1) (fun _ _ => rfl)) pe_int (fun _ _ => rfl))) (pa_cons (pe_op op_sub pe_int (pe_ix ix_tup (pe_ix ix_tup (pv 2) (pv 1) (fun _ _ => rfl)) pe_int (fun _ _ => rfl))) pa_nil))))
      (pss_cons (ps_for PassesOwn.never rfl (pi_enum (by rfl) T.b_enumerate (pa_cons (pe_ix ix_list (pv 0) (pv 1) (fun _ _ => rfl)) pa_nil)) (pg_tup (by rfl) (pgs_cons (pg_name (i := 4) sc_l_led.nd rfl (Or.inl rfl)) (pgs_cons (pg_name (i := 5) sc_l_led.nd rfl (Or.inl rfl)) pgs_nil))) (pss_one (ps_set (i := 3) sc_l_led.nd rfl (Or.inl rfl) (pe_cal (cal_l_added T) (hr.mono (by decide)) (by rfl) (pa_cons (pv 3) (pa_cons (pe_cal (cal_l_times T) (hr.mono (by decide)) (by rfl) (pa_cons (pv 5) (pa_cons (pe_ix ix_tup (pv 2) (pv 4) (fun _ _ => rfl)) pa_nil))) pa_nil))))))
      (pss_one (ps_ret (pe_op op_catA (pe_op op_catA (pe_slice sl_tupA (pv 2) po_none (po_some (pv 1))) (pe_tup (pa_cons (pv 3) pa_nil))) (pe_slice sl_tupA (pv 2) (po_some (pe_op op_add (pv 1) pe_int)) po_none)))))), ?_⟩
    rcases hxi : x l with ⟨x1, x2⟩
    rw [hxi] at tb
    refine ⟨_, rfl, _, rfl, _, _, _, _, rfl, rfl, ha, atl, _, _, _, _, rfl, rfl, tb, at0, _, _, rfl, rfl, ?_⟩
    refine ⟨_, rfl, _, rfl, _, _, _, _, rfl, rfl, ha, atl, _, _, _, _, rfl, rfl, tb, at1, _, _, rfl, rfl, show 2 ≤ sizeLine by decide, fun p0 n0 => ?_⟩
    have s0 := same_new (o := .tup [.int (0 - x1), .int (0 - x2)]) n0
    refine ⟨_, rfl, _, rfl, _, _, _, _, rfl, rfl, (.of (s0 _ _ hfa)), atf, ll, gs, rfl, .of (s0 _ _ hgs), for_it (walk_enum (K := K) (a := ll) (xs := gs)) (fun i σ H' => ∃ (fv : V) (v4 v5 : Option V), σ = [some (.ref fa), some (.int (l : Nat)), some (.ref a), some fv, v4, v5] ∧ Same H H' ∧ TI K H' fv (pr2 (Rt.ad (Rt.ng (x l)) (Rt.L (cB bs) l i x)))) ⟨.ref p0, none, none, rfl, s0, p0, rfl, ?_⟩ (fun i σ H' _ h => by obtain ⟨_, _, _, _, s, _⟩ := h; exact .of (s _ _ hgs)) ?_ ?_⟩
    · have e : pr2 (Rt.ad (Rt.ng (x l)) (Rt.L (cB bs) l 0 x)) = [0 - x1, 0 - x2] := by
        rw [hxi]
        show [-x1 + 0, -x2 + 0] = _
        rw [show -x1 + 0 = 0 - x1 by omega, show -x2 + 0 = 0 - x2 by omega]
      rw [e]
      exact .of upd_same
    · rintro i y σ H2 H3 hi ⟨fv, v4, v5, rfl, s2, tf⟩ ⟨q, y1, y2, rfl, nq, rfl, e1, e2⟩
      obtain rfl : y1 = .int (i : Nat) := (Option.some.inj e1).symm
      have il : i < n := by omega
      have s3 := s2.trans (same_new (o := .tup [.int (i : Nat), y2]) nq)
      have nq' := nq
      obtain ⟨z, ez, tz⟩ := (A2.of_tis tgs).at_ (stL_get il)
      obtain rfl : z = y2 := Option.some.inj (ez.symm.trans e2)
      obtain ⟨u, eu, tu⟩ := (A2.of_tis hx).at_ (stL_get il)
      have atu : atI xs ((i : Nat) : Int) = some u := at_of (j := i) (by omega) eu
      refine ⟨_, _, rfl, .of upd_same, rfl, _, _, rfl, _, _, rfl, rfl, ?_⟩
      refine ⟨_, rfl, _, rfl, _, rfl, _, rfl, _, _, _, _, rfl, rfl, sqT_same s3 ha, atu, _, _, _, _, rfl, tz.same s3, tu.same s3, c_B va l i, hb i il, fun v4 H4 s4 t4 => ?_⟩
      refine ⟨_, _, _, _, rfl, (tf.same (same_new nq)).same s4, t4, fun v5 H5 s5 t5 => ?_⟩
      refine ⟨v5, _, _, rfl, (s3.trans s4).trans s5, ?_⟩
      have e : Rt.ad (Rt.ng (x l)) (Rt.L (cB bs) l (i + 1) x) = Rt.ad (Rt.ad (Rt.ng (x l)) (Rt.L (cB bs) l i x)) (Rt.cm (cB bs l i) (x i)) := by
        show Rt.ad _ (Rt.ad _ _) = _
        unfold Rt.ad
        ext <;> (simp only; omega)
      rw [e]
      exact t5
    · rintro σ H2 ⟨fv, v4, v5, rfl, s2, tf⟩
      rw [hgl] at tf
      refine ⟨_, rfl, _, rfl, _, rfl, slc_any (sqT_same s2 ha) fun v3 H3 s3 ⟨c3, e3, q3⟩ => ?_⟩
      subst e3
      rw [cut_take] at q3
      refine ⟨_, rfl, show 1 ≤ sizeLine by decide, fun p4 n4' => ?_⟩
      have s4 := same_new (o := .tup [fv]) n4'
      refine cat_any (sqT_same s4 q3) (.of upd_same) (by rw [List.length_take]; simp only [List.length_cons, List.length_nil]; omega) fun v5 H5 s5 ⟨c5, e5, q5⟩ => ?_
      subst e5
      have s25 := (s3.trans s4).trans s5
      refine ⟨_, rfl, _, rfl, _, _, rfl, rfl, _, rfl, ?_⟩
      dsimp only [tNoPart]
      refine slc_any (sqT_same (s2.trans s25) ha) fun v6 H6 s6 ⟨c6, e6, q6⟩ => ?_
      subst e6
      rw [show ((l : Nat) : Int) + 1 = ((l + 1 : Nat) : Int) by omega, cut_drop] at q6
      refine cat_any (sqT_same s6 q5) q6 (by rw [List.length_append, List.length_take, List.length_drop]; simp only [List.length_cons, List.length_nil]; omega) fun v7 H7 s7 ⟨c7, e7, q7⟩ => ?_
      subst e7
      have st := ((s2.trans s25).trans s6).trans s7
      refine k _ _ st ?_
      have e : xs.take l ++ [fv] ++ xs.drop (l + 1) = xs.set l fv := by
        rw [List.set_eq_take_append_cons_drop, if_pos (by omega)]
        simp
      rw [e] at q7
      refine ⟨c7, _, rfl, q7, A2.tis ?_⟩
      have := (A2.of_tis (hx.same st)).set (i := l) (((tf.same s25).same s6).same s7)
      rw [stL_set] at this
      exact this
end
end Sk

namespace Sk
open PySem L2 Ow
theorem sysN {n : Nat} {bs : List (List Int)} (va : Valid n bs) : Rt.Sys (cB bs) n (mB bs) := sysB va
theorem fr_big {n : Nat} {bs : List (List Int)} (va : Valid n bs) : ∀ {w : List Nat}, Rt.In n w → ∀ i, i < n → ∀ k, k < n → Bg (5 * w.length) (Rt.fr (cB bs) n w i k)
  | [], _, i, hi, k, hk => by
    unfold Rt.fr
    show Bg 0 (Rt.al i k)
    unfold Rt.al
    split
    · exact ⟨by decide, by decide⟩
    · exact ⟨by decide, by decide⟩
  | l :: w, h, i, hi, k, hk => by
    have hl := h l (by simp)
    rw [Rt.fr_cons (sysN va) hl w hi, List.length_cons]
    have c := c_small va l i
    have a := fr_big va h.tail l hl k hk
    have b := fr_big va h.tail i hi k hk
    split
    · show Bg _ (Rt.cm (-1, 0) (Rt.fr (cB bs) n w l k))
      rw [Rt.cm_m1]
      exact (a.ng).mono (by omega)
    · have := (b.mono (show 5 * w.length ≤ 5 * w.length + 4 by omega)).ad (a.cm c.1 c.2.1 c.2.2.1 c.2.2.2)
      exact this.mono (by omega)
theorem fr_sml {n : Nat} {bs : List (List Int)} (va : Valid n bs) {w : List Nat} (h : Rt.In n w) (hl : w.length < 200) : ∀ i, i < n → Sml n (Rt.fr (cB bs) n w i) := fun i hi k hk => (fr_big va h i hi k hk).b (by omega)
theorem fr_snoc {n : Nat} {c : Nat → Nat → Rt.G} (w : List Nat) (l : Nat) (i : Nat) : Rt.fr c n (w ++ [l]) i = Rt.rf c n l (Rt.fr c n w i) := by
  unfold Rt.fr
  rw [List.reverse_append]
  rfl
def spLState (K : PySem.W.Frag) : Sp := fun vs H Q _ => ∃ (fv wv : V) (n : Nat) (bs : List (List Int)) (w : List Nat), vs = [fv, wv] ∧ FcAt K H fv (fcL bs n) ∧ TI K H wv (castW w) ∧ Valid n bs ∧ Rt.In n w ∧ w.length ≤ 100 ∧ ∀ v H', Same H H' → LkAt K H' v (frL n (Rt.fr (cB bs) n w)) → Q v H'
def rTupQ (K : PySem.W.Frag) : List V → Hp → VK → Prop := fun xs H Q => ∃ (p : Addr) (ys : List V), xs = [.ref p] ∧ ((SqL K H p ys ∧ ∀ l, H l = none → Q (.ref l) (upd H l (.tup ys))) ∨ (SqT K H p ys ∧ Q (.ref p) H))
abbrev scF : Scope := { kind := ScopeKind.function, names := [(".0", NameKind.local), ("_law_at", NameKind.cell), ("tuple", NameKind.globalImplicit), ("range", NameKind.globalImplicit), ("len", NameKind.globalImplicit), ("_law_factors_here", NameKind.cell)], isGenerator := false, isCoroutine := false }
section
variable {P : Program} {w : World} {K : PySem.W.Frag} {mg : Str → Option Value} {base : Heap} {C : Addr}
theorem cal_l_behind (T : Txt K mg C) : Cal P w K mg base "_law_behind" 3 (spBehind K) := by
  refine T.d_l_behind.cal (ps := ["_law_factors_here", "_law_state_here", "_law_letter"]) (fun f fd D => ?_) (fun _ _ _ _ _ _ us hl => match us, hl with | [_, _, _], _ => rfl)
  refine D.ok sc_l_behind (fun vs H Q E h => ?_) (fun cdv A outer s H vs Q E hr h => ?_)
  · obtain ⟨_, _, _, _, _, _, rfl, _⟩ := h
    rfl
  · obtain ⟨fv, sv, n, l, bs, F, rfl, hf, ⟨a, xs, rfl, ha, hx⟩, va, ln, hb, k⟩ := h
    have hxl : xs.length = n := by rw [hx.len, frL_len]
    have n4 := va.hi
    refine ⟨_, (pss_one (ps_ret (pe_callTy call_tuple_of (by rfl) T.b_tuple (by decide +kernel) (pa_cons (pe_lc (own := [("_law_row", 3)]) (g := gName 3) (tt := tYes) rfl sc_l_behind.nd (pi_tup (pv 1)) (blkOk_by (own := [("_law_row", 3)]) (N := ["_law_factors_here", "_law_state_here", "_law_letter", "_law_row"]) (sc := defScope s_l_behind) (by decide +kernel)) (fun _ _ _ _ _ => (pg_name (i := 3) sc_l_behind.nd rfl (Or.inl rfl))) (fun _ _ _ _ _ => pts_nil) (fun _ _ _ _ _ => (pe_cal (cal_l_led T) (hr.mono (by decide)) (by rfl) (pa_cons (pv 0) (pa_cons (pv 2) (pa_cons (pv 3) pa_nil)))))) pa_nil)))), ?_⟩
    refine ⟨_, rfl, a, rfl, ⟨_, ha⟩, fun D nD => lc_tup (K := K) (a := a) (xs := xs) (fun i H' => Same H H' ∧ ∃ ys, H' D = some (.lst ys) ∧ A2 (BsAt K H') ys ((frL n fun i => Rt.rf (cB bs) n l (F i)).take i)) ⟨same_new nD, [], upd_same, trivial⟩ (fun i H' _ h => sqT_same h.1 ha) ?_ ?_⟩
    · rintro i x H2 hi ⟨s2, ys, hD, hy⟩
      have il : i < n := by
        have := (List.getElem?_eq_some_iff.mp hi).1
        omega
      obtain ⟨r, er, tr⟩ := hx.get hi
      rw [frL_get il] at er
      cases er
      have yl := hy.len
      rw [List.length_take, frL_len] at yl
      refine ⟨rfl, _, rfl, _, rfl, _, rfl, fv, x, n, l, bs, F i, rfl, hf.same s2, tr.same s2, va, ln, hb i il, fun v3 H3 s3 t3 => ?_⟩
      have hD3 := s3 _ _ hD
      refine ⟨_, hD3, small1000 (by omega), same_off nD (s2.trans s3) off_upd, _, upd_same, ?_⟩
      rw [take_snoc (frL_get il)]
      exact ((hy.imp fun _ _ z => z.same s3).snoc t3).imp fun _ _ z => off_upd.bs hD3 z
    · rintro H2 ⟨s2, ys, hD, hy⟩
      rw [hxl, List.take_of_length_le (by rw [frL_len]; exact Nat.le_refl _)] at hy
      refine ⟨_, _, rfl, .inl ⟨.of hD, fun q nq => ?_⟩⟩
      exact k _ _ (s2.trans (same_new nq)) ⟨q, _, rfl, .of upd_same, hy.imp fun _ _ z => z.same (same_new nq)⟩
theorem cal_l_first (T : Txt K mg C) : Cal P w K mg base "_law_first" 1 (spLFirst K) := by
  refine T.d_l_first.cal (ps := ["_law_factors_here"]) (fun f fd D => ?_) (fun _ _ _ _ _ _ us hl => match us, hl with | [_], _ => rfl)
  refine D.ok sc_l_first (fun vs H Q E h => ?_) (fun cdv A outer s H vs Q E hr h => ?_)
  · obtain ⟨_, _, _, rfl, _⟩ := h
    rfl
  · obtain ⟨fv, n, bs, rfl, hf, n4, k⟩ := h
    refine ⟨_, (pss_one (ps_ret (pe_callTy call_tuple_of (by rfl) T.b_tuple (by decide +kernel) (pa_cons (pe_lc (own := [("_law_at", 2)]) (g := gName 2) (tt := tYes) rfl sc_l_first.nd (pi_range1 (by rfl) T.b_range (pa_cons (pe_callB call_len_seq (by rfl) T.b_len (by decide +kernel) (pa_cons (pv 0) pa_nil)) pa_nil)) (blkOk_by (own := [("_law_at", 2)]) (N := ["_law_factors_here", "_law_to", "_law_at"]) (sc := defScope s_l_first) (by decide +kernel)) (fun _ _ _ _ _ => (pg_name (i := 2) sc_l_first.nd rfl (Or.inr rfl))) (fun _ _ _ _ _ => pts_nil) (fun _ _ _ _ _ => (pe_callTy (show CallR _ (.type "tuple") (rTupQ K) from call_tuple_of) (by rfl) T.b_tuple (by decide +kernel) (pa_cons (pe_lc (own := [("_law_to", 1)]) (g := gName 1) (tt := tYes) rfl sc_l_first.nd (pi_range1 (by rfl) T.b_range (pa_cons (pe_callB (show CallR _ (.builtin "len") (rLenQ K) from call_len_seq) (by rfl) T.b_len (by decide +kernel) (pa_cons (pv 0) pa_nil)) pa_nil)) (blkOk_by (own := [("_law_to", 1)]) (N := ["_law_factors_here", "_law_to", "_law_at"]) (sc := scF) (by decide +kernel)) (fun _ _ _ _ _ => (pg_name (i := 1) sc_l_first.nd rfl (Or.inl rfl))) (fun _ _ _ _ _ => pts_nil) (fun _ _ _ _ _ => (pe_tup (pa_cons (pe_callTy call_int1 (by rfl) T.b_int (by decide +kernel) (pa_cons (pe_cmpR op_eq (pv 2) (pv 1) (nomark _)) pa_nil)) (pa_cons pe_int pa_nil))))) pa_nil)))) pa_nil)))), ?_⟩
    obtain ⟨a, xs, rfl, ha, hx⟩ := hf
    have hxl : xs.length = n := by rw [hx.len, fcL_len]
    subst hxl
    refine ⟨_, rfl, _, _, rfl, .inl (.of ha), _, rfl, by omega, by omega, fun D nD => lc_range (lo := 0) (n := xs.length) (fun i H' => Same H H' ∧ ∃ ys, H' D = some (.lst ys) ∧ A2 (BsAt K H') ys ((frL xs.length Rt.al).take i)) ⟨same_new nD, [], upd_same, trivial⟩ ?_ ?_⟩
    · rintro i H2 hi ⟨s2, ys, hD, hy⟩
      have yl := hy.len
      rw [List.length_take, frL_len] at yl
      refine ⟨rfl, _, rfl, _, _, rfl, .inl (.of (s2 _ _ ha)), _, rfl, by omega, by omega, fun D2 nD2 => lc_range (lo := 0) (n := xs.length) (fun j H' => Same H2 H' ∧ ∃ zs, H' D2 = some (.lst zs) ∧ A2 (TI K H') zs ((stL xs.length (Rt.al i)).take j)) ⟨same_new nD2, [], upd_same, trivial⟩ ?_ ?_⟩
      · rintro j H3 hj ⟨s3, zs, hD3, hz⟩
        have zl := hz.len
        rw [List.length_take, stL_len] at zl
        refine ⟨rfl, _, rfl, _, rfl, rfl, ?_⟩
        refine .inr ⟨_, rfl, show 2 ≤ sizeLine by decide, fun q nq => ?_⟩
        have sq := same_new (o := .tup [.int (if decide (V.int (0 + (i : Int)) = V.int (0 + (j : Int))) = true then (1 : Int) else 0), .int 0]) nq
        have hD4 := sq _ _ hD3
        have tq : TI K (upd H3 q (.tup [.int (if decide (V.int (0 + (i : Int)) = V.int (0 + (j : Int))) = true then (1 : Int) else 0), .int 0])) (.ref q) (pr2 (Rt.al i j)) := by
          have e : pr2 (Rt.al i j) = [if decide (V.int (0 + (i : Int)) = V.int (0 + (j : Int))) = true then (1 : Int) else 0, 0] := by
            unfold Rt.al
            by_cases h : j = i
            · subst h
              rw [if_pos rfl, if_pos (by rw [decide_eq_true_iff])]
              rfl
            · rw [if_neg h, if_neg (fun z => h (by have := vi_eq z; omega))]
              rfl
          rw [e]
          exact ⟨q, rfl, .of upd_same⟩
        refine ⟨_, hD4, small1000 (by omega), same_off nD2 (s3.trans sq) off_upd, _, upd_same, ?_⟩
        rw [take_snoc (stL_get hj)]
        exact ((hz.imp fun _ _ (z : TI K H3 _ _) => z.same sq).snoc tq).imp fun _ _ z => off_upd.ti hD4 z
      · rintro H3 ⟨s3, zs, hD3, hz⟩
        rw [List.take_of_length_le (by rw [stL_len]; exact Nat.le_refl _)] at hz
        have hD4 := s3 _ _ hD
        refine ⟨D2, _, rfl, .inl ⟨.of hD3, fun q nq => ?_⟩⟩
        have sq := same_new (o := .tup zs) nq
        have tq : BsAt K (upd H3 q (.tup zs)) (.ref q) (stL xs.length (Rt.al i)) := ⟨q, zs, rfl, .of upd_same, A2.tis (hz.imp fun _ _ z => z.same sq)⟩
        have hD5 := sq _ _ hD4
        refine ⟨_, hD5, small1000 (by omega), same_off nD ((s2.trans s3).trans sq) off_upd, _, upd_same, ?_⟩
        rw [take_snoc (frL_get hi)]
        exact ((hy.imp fun _ _ z => (z.same s3).same sq).snoc tq).imp fun _ _ z => off_upd.bs hD5 z
    · rintro H2 ⟨s2, ys, hD, hy⟩
      rw [List.take_of_length_le (by rw [frL_len]; exact Nat.le_refl _)] at hy
      refine ⟨_, _, rfl, .inl ⟨.of hD, fun q nq => ?_⟩⟩
      exact k _ _ (s2.trans (same_new nq)) ⟨q, _, rfl, .of upd_same, hy.imp fun _ _ z => z.same (same_new nq)⟩
theorem cal_l_state (T : Txt K mg C) : Cal P w K mg base "_law_state" 4 (spLState K) := by
  refine T.d_l_state.cal (ps := ["_law_factors_here", "_law_word_here"]) (fun f fd D => ?_) (fun _ _ _ _ _ _ us hl => match us, hl with | [_, _], _ => rfl)
  refine D.ok sc_l_state (fun vs H Q E h => ?_) (fun cdv A outer s H vs Q E hr h => ?_)
  · obtain ⟨_, _, _, _, _, rfl, _⟩ := h
    rfl
  · obtain ⟨fv, wv, n, bs, w, rfl, hf, ⟨a, rfl, ha⟩, va, hw, wl, k⟩ := h
    have n4 := va.hi
    have ll : ((castW w).map V.int).length = w.length := by
      unfold castW
      rw [List.length_map, List.length_map]
    refine ⟨_, (pss_cons (ps_set (i := 2) sc_l_state.nd rfl (Or.inl rfl) (pe_cal (cal_l_first T) (hr.mono (by decide)) (by rfl) (pa_cons (pv 0) pa_nil)))
      (pss_cons (ps_for PassesOwn.never rfl (pi_tup (pv 1)) (pg_name (i := 3) sc_l_state.nd rfl (Or.inl rfl)) (pss_one (ps_set (i := 2) sc_l_state.nd rfl (Or.inl rfl) (pe_cal (cal_l_behind T) (hr.mono (by decide)) (by rfl) (pa_cons (pv 0) (pa_cons (pv 2) (pa_cons (pv 3) pa_nil)))))))
      (pss_one (ps_ret (pv 2))))), ?_⟩
    refine ⟨_, rfl, fv, n, bs, rfl, hf, by omega, fun v0 H0 s0 t0 => ?_⟩
    refine ⟨_, rfl, a, rfl, ⟨_, sqT_same s0 ha⟩, for_tup (K := K) (a := a) (xs := (castW w).map V.int) (fun i σ H' => ∃ (sv : V) (v3 : Option V), σ = [some fv, some (.ref a), some sv, v3] ∧ Same H H' ∧ LkAt K H' sv (frL n (Rt.fr (cB bs) n (w.take i)))) ⟨v0, none, rfl, s0, t0⟩ (fun i σ H' _ h => by obtain ⟨_, _, _, s, _⟩ := h; exact sqT_same s ha) ?_ ?_⟩
    · rintro i x σ H2 hi ⟨sv, v3, rfl, s2, t2⟩
      have il : i < w.length := by
        have := (List.getElem?_eq_some_iff.mp hi).1
        omega
      have hx : x = .int (w[i] : Nat) := by
        unfold castW at hi
        rw [List.getElem?_map, List.getElem?_map, List.getElem?_eq_getElem il] at hi
        exact (Option.some.inj hi).symm
      subst hx
      have hin : Rt.In n (w.take i) := fun z hz => hw z (List.mem_of_mem_take hz)
      refine ⟨_, rfl, _, rfl, _, rfl, fv, sv, n, w[i], bs, _, rfl, hf.same s2, t2, va, hw _ (List.getElem_mem il), fr_sml va hin (by rw [List.length_take]; omega), fun v4 H4 s4 t4 => ?_⟩
      refine ⟨v4, _, rfl, s2.trans s4, ?_⟩
      have e : (fun j => Rt.rf (cB bs) n w[i] (Rt.fr (cB bs) n (w.take i) j)) = Rt.fr (cB bs) n (w.take (i + 1)) := by
        funext j
        rw [take_snoc (List.getElem?_eq_getElem il), fr_snoc]
      rw [e] at t4
      exact t4
    · rintro σ H2 ⟨sv, v3, rfl, s2, t2⟩
      rw [ll, List.take_length] at t2
      exact ⟨_, rfl, k _ _ s2 t2⟩
end
end Sk

namespace Sk
open PySem L2 Ow
theorem walk_zipT {K : PySem.W.Frag} {a b : Addr} {xs ys : List V} {n : Nat} (hn : n = min xs.length ys.length) : Walk (RZ.ItzT K a b) n (fun H => SqT K H a xs ∧ SqT K H b ys) (YPair (fun i => xs[i]?) (fun i => ys[i]?)) := by
  subst hn
  refine ⟨fun i _ hi q => ?_, fun _ q => ⟨xs, ys, q.1, q.2, by omega⟩, fun i H v H' _ q y => ?_⟩
  · have h1 : i < xs.length := by omega
    have h2 : i < ys.length := by omega
    exact ⟨xs, ys, xs[i], ys[i], q.1, q.2, by simp [h1], by simp [h2]⟩
  · obtain ⟨T, x, z, h1, h2, h3, h4, h5⟩ := y
    exact ⟨T, x, z, h1, h2, h3, h4 xs q.1, h5 ys q.2⟩
/-- the state when a letter comes in front -/
def ahF (bs : List (List Int)) (l : Nat) (F : Nat → Rt.Vc) : Nat → Rt.Vc := fun i => if i = l then Rt.vm (-1, 0) (F l) else Rt.va (F i) (Rt.vm (cB bs l i) (F l))
theorem push_row {K : PySem.W.Frag} {H H3 : Hp} {D : Addr} {v : V} {ys : List V} {n i : Nat} {G : Nat → Rt.Vc} (nD : H D = none) (s : Same H H3) (hD : H3 D = some (.lst ys)) (hy : A2 (BsAt K H3) ys ((frL n G).take i)) (hv : BsAt K H3 v (stL n (G i))) (hi : i < n) :
    Same H (upd H3 D (.lst (ys ++ [v]))) ∧ ∃ zs, (upd H3 D (.lst (ys ++ [v]))) D = some (.lst zs) ∧ A2 (BsAt K (upd H3 D (.lst (ys ++ [v])))) zs ((frL n G).take (i + 1)) := by
  refine ⟨same_off nD s off_upd, _, upd_same, ?_⟩
  rw [take_snoc (frL_get hi)]
  exact (hy.snoc hv).imp fun _ _ z => off_upd.bs hD z
def spAhead2 (K : PySem.W.Frag) : Sp := fun vs H Q _ => ∃ (fv sv : V) (n l : Nat) (bs : List (List Int)) (F : Nat → Rt.Vc), vs = [fv, sv, .int l] ∧ FcAt K H fv (fcL bs n) ∧ LkAt K H sv (frL n F) ∧ Valid n bs ∧ l < n ∧ (∀ i, i < n → Sml n (F i)) ∧ ∀ v H', Same H H' → LkAt K H' v (frL n (ahF bs l F)) → Q v H'
section
variable {P : Program} {w : World} {K : PySem.W.Frag} {mg : Str → Option Value} {base : Heap} {C : Addr}
theorem cal_l_ahead (T : Txt K mg C) : Cal P w K mg base "_law_ahead" 3 (spAhead2 K) := by
  refine T.d_l_ahead.cal (ps := ["_law_factors_here", "_law_state_here", "_law_letter"]) (fun f fd D => ?_) (fun _ _ _ _ _ _ us hl => match us, hl with | [_, _, _], _ => rfl)
  refine D.ok sc_l_ahead (fun vs H Q E h => ?_) (fun cdv A outer s H vs Q E hr h => ?_)
  · obtain ⟨_, _, _, _, _, _, rfl, _⟩ := h
    rfl
  · obtain ⟨fv, sv, n, l, bs, F, rfl, hf, ⟨a, xs, rfl, ha, hx⟩, va, ln, hb, k⟩ := h
    have hxl : xs.length = n := by rw [hx.len, frL_len]
    have n4 := va.hi
    obtain ⟨fa, fs, ll, rfl, hfa, efs, hll⟩ := hf.get ln
    obtain ⟨gs, hgs, tgs⟩ := hll
    have hgl : gs.length = n := by rw [tgs.len, stL_len]
    have atf : atI fs ((l : Nat) : Int) = some (.ref ll) := at_of (j := l) (by omega) efs
    obtain ⟨rl, erl, trl⟩ := hx.at_ (frL_get ln)
    obtain ⟨rb, rs, rfl, hrb, trs⟩ := trl
    have hrl : rs.length = n := by rw [trs.len, stL_len]
    have atr : atI xs ((l : Nat) : Int) = some (.ref rb) := at_of (j := l) (by omega) erl
    refine ⟨_, (pss_cons (ps_set (i := 3) sc_l_ahead.nd rfl (Or.inl rfl) (pe_lst pa_nil))
      (pss_cons (ps_for PassesOwn.never rfl (pi_enumT (by rfl) T.b_enumerate (pa_cons (pv 1) pa_nil)) (pg_tup (by rfl) (pgs_cons (pg_name (i := 4) sc_l_ahead.nd rfl (Or.inl rfl)) (pgs_cons (pg_name (i := 5) sc_l_ahead.nd rfl (Or.inl rfl)) pgs_nil))) (pss_cons (ps_set (i := 6) sc_l_ahead.nd rfl (Or.inr rfl) (pe_ix ix_list (pe_ix ix_list (pv 0) (pv 2) (fun _ _ => rfl)) (pv 4) (fun _ _ => rfl)))
      (pss_one (ps_if (pt_cmpR op_eq (pv 4) (pv 2) (nomark _)) (pss_one (ps_expr (pe_bm PySem.F.plainAttrs_list PySem.F.slot_list_append PySem.F.type_list_append mt_append (pv 3) (pa_cons (pe_callTy call_tuple_of (by rfl) T.b_tuple (by decide +kernel) (pa_cons (pe_lc (own := [("_law_whole", 7), ("_law_part", 8)]) (g := gTup K 2 (gCons (gName 7) (gCons (gName 8) (gNil)))) (tt := tYes) rfl sc_l_ahead.nd (pi_tup (pv 5)) (blkOk_by (own := [("_law_whole", 7), ("_law_part", 8)]) (N := ["_law_factors_here", "_law_state_here", "_law_letter", "_law_found", "_law_at", "_law_row", "_law_factor", "_law_whole", "_law_part", "_law_one", "_law_two"]) (sc := defScope s_l_ahead) (by decide +kernel)) (fun _ _ _ _ _ => (pg_tup (by rfl) (pgs_cons (pg_name (i := 7) sc_l_ahead.nd rfl (Or.inl rfl)) (pgs_cons (pg_name (i := 8) sc_l_ahead.nd rfl (Or.inl rfl)) pgs_nil)))) (fun _ _ _ _ _ => pts_nil) (fun _ _ _ _ _ => (pe_tup (pa_cons (pe_op op_sub pe_int (pv 7)) (pa_cons (pe_op op_sub pe_int (pv 8)) pa_nil))))) pa_nil)) pa_nil)))) (pss_one (ps_expr (pe_bm PySem.F.plainAttrs_list PySem.F.slot_list_append PySem.F.type_list_append mt_append (pv 3) (pa_cons (pe_callTy call_tuple_of (by rfl) T.b_tuple (by decide +kernel) (pa_cons (pe_lc (own := [("_law_one", 9), ("_law_two", 10)]) (g := gTup K 2 (gCons (gName 9) (gCons (gName 10) (gNil)))) (tt := tYes) rfl sc_l_ahead.nd (RZ.pi_zipA (by rfl) T.b_zip (pa_cons (pv 5) (pa_cons (pe_ix ix_tup (pv 1) (pv 2) (fun _ _ => rfl)) pa_nil))) (blkOk_by (own := [("_law_one", 9), ("_law_two", 10)]) (N := ["_law_factors_here", "_law_state_here", "_law_letter", "_law_found", "_law_at", "_law_row", "_law_factor", "_law_whole", "_law_part", "_law_one", "_law_two"]) (sc := defScope s_l_ahead) (by decide +kernel)) (fun _ _ _ _ _ => (pg_tup (by rfl) (pgs_cons (pg_name (i := 9) sc_l_ahead.nd rfl (Or.inl rfl)) (pgs_cons (pg_name (i := 10) sc_l_ahead.nd rfl (Or.inl rfl)) pgs_nil)))) (fun _ _ _ _ _ => pts_nil) (fun _ _ _ _ _ => (pe_cal (cal_l_added T) (hr.mono (by decide)) (by rfl) (pa_cons (pv 9) (pa_cons (pe_cal (cal_l_times T) (hr.mono (by decide)) (by rfl) (pa_cons (pv 6) (pa_cons (pv 10) pa_nil))) pa_nil))))) pa_nil)) pa_nil))))))))
      (pss_one (ps_ret (pe_callTy call_tuple_of (by rfl) T.b_tuple (by decide +kernel) (pa_cons (pv 3) pa_nil)))))), ?_⟩
    refine ⟨Nat.zero_le _, fun D nD => ?_⟩
    have sD := same_new (o := .lst []) nD
    refine ⟨_, rfl, a, _, rfl, sqT_same sD ha, for_it (walk_enumT (K := K) (a := a) (xs := xs)) (fun i σ H' => (∃ v4 v5 v6 v7 v8 v9 v10 : Option V, σ = [some (.ref fa), some (.ref a), some (.int (l : Nat)), some (.ref D), v4, v5, v6, v7, v8, v9, v10]) ∧ Same H H' ∧ ∃ ys, H' D = some (.lst ys) ∧ A2 (BsAt K H') ys ((frL n (ahF bs l F)).take i)) ⟨⟨none, none, none, none, none, none, none, rfl⟩, sD, [], upd_same, trivial⟩ (fun i σ H' _ h => sqT_same h.2.1 ha) ?_ ?_⟩
    · rintro i y σ H2 H3 hi ⟨⟨v4, v5, v6, v7, v8, v9, v10, rfl⟩, s2, ys, hD, hy⟩ ⟨q, y1, y2, rfl, nq, rfl, e1, e2⟩
      obtain rfl : y1 = .int (i : Nat) := (Option.some.inj e1).symm
      have il : i < n := by omega
      have yl := hy.len
      rw [List.length_take, frL_len] at yl
      have s3 := s2.trans (same_new (o := .tup [.int (i : Nat), y2]) nq)
      have hD3 := same_new (o := .tup [.int (i : Nat), y2]) nq _ _ hD
      have hy3 := hy.imp fun _ _ (z : BsAt K H2 _ _) => z.same (same_new (o := .tup [.int (i : Nat), y2]) nq)
      obtain ⟨r, er, tr⟩ := hx.get e2
      rw [frL_get il] at er
      cases er
      obtain ⟨b, us, rfl, hub, tub⟩ := tr
      have hul : us.length = n := by rw [tub.len, stL_len]
      obtain ⟨g, eg, tg⟩ := (A2.of_tis tgs).at_ (stL_get il)
      have atg : atI gs ((i : Nat) : Int) = some g := at_of (j := i) (by omega) eg
      refine ⟨_, _, rfl, .of upd_same, rfl, _, _, rfl, _, _, rfl, rfl, ?_⟩
      refine ⟨_, rfl, _, rfl, _, _, _, _, rfl, rfl, .of (s3 _ _ hfa), atf, _, rfl, _, _, _, _, rfl, rfl, .of (s3 _ _ hgs), atg, ?_⟩
      refine ⟨_, rfl, _, rfl, rfl, _, rfl, ite2 (fun c => ?_) (fun c => ?_)⟩
      · have c := vi_eq c
        obtain rfl : i = l := by omega
        refine ⟨_, rfl, .inl ⟨rfl, _, .of hD3⟩, ?_⟩
        generalize hH3 : upd H2 q (.tup [.int (i : Nat), .ref b]) = H3 at *
        refine ⟨_, rfl, b, rfl, ⟨_, sqT_same s3 hub⟩, fun D2 nD2 => lc_tup (K := K) (a := b) (xs := us) (fun j H' => Same H3 H' ∧ ∃ zs, H' D2 = some (.lst zs) ∧ A2 (TI K H') zs ((stL n (ahF bs i F i)).take j)) ⟨same_new nD2, [], upd_same, trivial⟩ (fun i H' _ h => sqT_same (s3.trans h.1) hub) ?_ ?_⟩
        · rintro j x H4 hj ⟨s4, zs, hz, tz⟩
          have jl : j < n := by
            have := (List.getElem?_eq_some_iff.mp hj).1
            omega
          have zl := tz.len
          rw [List.length_take, stL_len] at zl
          obtain ⟨u, eu, tu⟩ := (A2.of_tis tub).get hj
          rw [stL_get jl] at eu
          cases eu
          obtain ⟨c1, rfl, hc1⟩ := tu.same (s3.trans s4)
          rcases hxi : F i j with ⟨w1, p1⟩
          rw [hxi] at hc1
          refine ⟨_, _, rfl, hc1, rfl, _, _, rfl, _, _, rfl, rfl, rfl, ?_⟩
          refine ⟨_, rfl, _, _, rfl, rfl, _, rfl, _, _, rfl, rfl, show 2 ≤ sizeLine by decide, fun q2 nq2 => ?_⟩
          have sq := same_new (o := .tup [.int (0 - w1), .int (0 - p1)]) nq2
          have hz5 := sq _ _ hz
          have tq : TI K (upd H4 q2 (.tup [.int (0 - w1), .int (0 - p1)])) (.ref q2) (pr2 (ahF bs i F i j)) := by
            have e : pr2 (ahF bs i F i j) = [0 - w1, 0 - p1] := by
              unfold ahF
              rw [if_pos rfl]
              show pr2 (Rt.cm (-1, 0) (F i j)) = _
              rw [Rt.cm_m1, hxi]
              show [-w1, -p1] = _
              rw [Int.zero_sub, Int.zero_sub]
            rw [e]
            exact ⟨q2, rfl, .of upd_same⟩
          refine ⟨_, hz5, small1000 (by omega), same_off nD2 (s4.trans sq) off_upd, _, upd_same, ?_⟩
          rw [take_snoc (stL_get jl)]
          exact ((tz.imp fun _ _ (z : TI K H4 _ _) => z.same sq).snoc tq).imp fun _ _ z => off_upd.ti hz5 z
        · rintro H4 ⟨s4, zs, hz, tz⟩
          rw [hul, List.take_of_length_le (by rw [stL_len]; exact Nat.le_refl _)] at tz
          refine ⟨D2, _, rfl, .inl ⟨.of hz, fun q3 nq3 => ?_⟩⟩
          have sq := same_new (o := .tup zs) nq3
          have hD5 := sq _ _ (s4 _ _ hD3)
          have P := push_row (G := ahF bs i F) nD ((s3.trans s4).trans sq) hD5 (hy3.imp fun _ _ z => (z.same s4).same sq) (v := .ref q3) ⟨q3, zs, rfl, .of upd_same, A2.tis (tz.imp fun _ _ z => z.same sq)⟩ il
          refine ⟨D, _, _, rfl, rfl, hD5, small1000 (by omega), ⟨_, _, _, _, _, _, _, rfl⟩, P.1, P.2⟩
      · have c : i ≠ l := fun z => c (vi_of (by rw [z]))
        refine ⟨_, rfl, .inl ⟨rfl, _, .of hD3⟩, ?_⟩
        generalize hH3 : upd H2 q (.tup [.int (i : Nat), .ref b]) = H3 at *
        refine ⟨_, rfl, _, rfl, _, rfl, _, _, _, _, rfl, rfl, sqT_same s3 ha, atr, b, rb, _, _, rfl, .inr ⟨sqT_same s3 hub, sqT_same s3 hrb, fun D2 nD2 => lc_it (walk_zipT (K := K) (a := b) (b := rb) (xs := us) (ys := rs) (n := n) (by omega)) (fun j H' => Same H3 H' ∧ ∃ zs, H' D2 = some (.lst zs) ∧ A2 (TI K H') zs ((stL n (ahF bs l F i)).take j)) ⟨same_new nD2, [], upd_same, trivial⟩ (fun i H' _ h => ⟨sqT_same (s3.trans h.1) hub, sqT_same (s3.trans h.1) hrb⟩) ?_ ?_⟩⟩
        · rintro j x H4 H5 jl ⟨s4, zs, hz, tz⟩ ⟨q2, y3, y4, rfl, nq2, rfl, e3, e4⟩
          have zl := tz.len
          rw [List.length_take, stL_len] at zl
          have s5 := s4.trans (same_new (o := .tup [y3, y4]) nq2)
          have hz5 := same_new (o := .tup [y3, y4]) nq2 _ _ hz
          have tz5 := tz.imp fun _ _ (z : TI K H4 _ _) => z.same (same_new (o := .tup [y3, y4]) nq2)
          obtain ⟨u, eu, tu⟩ := (A2.of_tis tub).get e3
          rw [stL_get jl] at eu
          cases eu
          obtain ⟨v, ev, tv⟩ := (A2.of_tis trs).get e4
          rw [stL_get jl] at ev
          cases ev
          refine ⟨_, _, rfl, .of upd_same, rfl, _, _, rfl, _, _, rfl, rfl, rfl, ?_⟩
          refine ⟨_, rfl, _, rfl, _, rfl, _, _, _, _, rfl, tg.same (s3.trans s5), tv.same (s3.trans s5), c_B va l i, hb l ln j jl, fun v6 H6 s6 t6 => ?_⟩
          refine ⟨_, _, _, _, rfl, (tu.same (s3.trans s5)).same s6, t6, fun v7 H7 s7 t7 => ?_⟩
          have sq := s6.trans s7
          have hz7 := sq _ _ hz5
          have tq : TI K H7 v7 (pr2 (ahF bs l F i j)) := by
            have e : ahF bs l F i j = Rt.ad (F i j) (Rt.cm (cB bs l i) (F l j)) := by
              unfold ahF
              rw [if_neg c]
              rfl
            rw [e]
            exact t7
          refine ⟨_, hz7, small1000 (by omega), same_off nD2 (s5.trans sq) off_upd, _, upd_same, ?_⟩
          rw [take_snoc (stL_get jl)]
          exact ((tz5.imp fun _ _ z => z.same sq).snoc tq).imp fun _ _ z => off_upd.ti hz7 z
        · rintro H4 ⟨s4, zs, hz, tz⟩
          rw [List.take_of_length_le (by rw [stL_len]; exact Nat.le_refl _)] at tz
          refine ⟨D2, _, rfl, .inl ⟨.of hz, fun q3 nq3 => ?_⟩⟩
          have sq := same_new (o := .tup zs) nq3
          have hD5 := sq _ _ (s4 _ _ hD3)
          have P := push_row (G := ahF bs l F) nD ((s3.trans s4).trans sq) hD5 (hy3.imp fun _ _ z => (z.same s4).same sq) (v := .ref q3) ⟨q3, zs, rfl, .of upd_same, A2.tis (tz.imp fun _ _ z => z.same sq)⟩ il
          refine ⟨D, _, _, rfl, rfl, hD5, small1000 (by omega), ⟨_, _, _, _, _, _, _, rfl⟩, P.1, P.2⟩
    · rintro σ H2 ⟨⟨v4, v5, v6, v7, v8, v9, v10, rfl⟩, s2, ys, hD, hy⟩
      rw [hxl, List.take_of_length_le (by rw [frL_len]; exact Nat.le_refl _)] at hy
      refine ⟨_, rfl, _, _, rfl, .inl ⟨.of hD, fun q nq => ?_⟩⟩
      exact k _ _ (s2.trans (same_new nq)) ⟨q, _, rfl, .of upd_same, hy.imp fun _ _ z => z.same (same_new nq)⟩
end
end Sk

namespace Sk
open PySem L2 Ow
noncomputable def lefB (n : Nat) (F : Nat → Rt.Vc) : List Nat := (List.range n).filter fun i => lowB n (F i)
theorem low_fr {n : Nat} {bs : List (List Int)} (va : Valid n bs) {w : List Nat} (hw : Rt.In n w) {s : Nat} (hs : s < n) : lowB n (Rt.fr (cB bs) n w s) = true ↔ Rt.len n (mB bs) (s :: w) < Rt.len n (mB bs) w := lowB_iff.trans (Rt.left_iff (sysN va) hw hs)
theorem lef_done {n : Nat} {bs : List (List Int)} (va : Valid n bs) {w : List Nat} (hw : Rt.In n w) (h : ∀ s, s < n → ¬ Rt.len n (mB bs) (s :: w) < Rt.len n (mB bs) w) : lefB n (Rt.fr (cB bs) n w) = [] :=
  List.filter_eq_nil_iff.mpr fun s hs z => h s (List.mem_range.mp hs) ((low_fr va hw (List.mem_range.mp hs)).mp z)
theorem range_split {n s : Nat} (h : s < n) : ∃ B, List.range n = List.range s ++ s :: B := by
  refine ⟨(List.range n).drop (s + 1), ?_⟩
  have hl : s < (List.range n).length := by rw [List.length_range]; omega
  conv => lhs; rw [← List.take_append_drop s (List.range n), List.drop_eq_getElem_cons hl, List.take_range, Nat.min_eq_left (by omega), List.getElem_range]
theorem lef_step {n : Nat} {bs : List (List Int)} (va : Valid n bs) {w : List Nat} (hw : Rt.In n w) {s : Nat} (hs : s < n) (h : Rt.len n (mB bs) (s :: w) < Rt.len n (mB bs) w) (m : ∀ t, t < s → ¬ Rt.len n (mB bs) (t :: w) < Rt.len n (mB bs) w) : ∃ r, lefB n (Rt.fr (cB bs) n w) = s :: r := by
  obtain ⟨B, e⟩ := range_split hs
  unfold lefB
  rw [e]
  refine ⟨B.filter fun i => lowB n (Rt.fr (cB bs) n w i), filter_head (fun a ha => ?_) ((low_fr va hw hs).mpr h)⟩
  have ha := List.mem_range.mp ha
  cases q : lowB n (Rt.fr (cB bs) n w a) with
  | false => rfl
  | true => exact absurd ((low_fr va hw (by omega)).mp q) (m a ha)
theorem ah_fr {n : Nat} {bs : List (List Int)} (va : Valid n bs) {l : Nat} (hl : l < n) (w : List Nat) : frL n (ahF bs l (Rt.fr (cB bs) n w)) = frL n (Rt.fr (cB bs) n (l :: w)) := by
  refine frL_eq.mpr fun i hi k hk => ?_
  rw [Rt.fr_cons (sysN va) hl w hi]
  rfl
def spLLefts (K : PySem.W.Frag) : Sp := fun vs H Q _ => ∃ (sv : V) (n : Nat) (F : Nat → Rt.Vc), vs = [sv] ∧ LkAt K H sv (frL n F) ∧ n ≤ 4 ∧ (∀ i, i < n → Sml n (F i)) ∧ ∀ a H', Same H H' → H a = none → H' a = some (.lst ((castW (lefB n F)).map V.int)) → Q (.ref a) H'
def spLNormal (K : PySem.W.Frag) : Sp := fun vs H Q _ => ∃ (fv sv : V) (n : Nat) (bs : List (List Int)) (w us : List Nat), vs = [fv, sv] ∧ FcAt K H fv (fcL bs n) ∧ LkAt K H sv (frL n (Rt.fr (cB bs) n w)) ∧ Valid n bs ∧ Rt.In n w ∧ Rt.Nf n (mB bs) w us ∧ w.length + us.length ≤ 100 ∧ ∀ v H', Same H H' → TI K H' v (castW us) → Q v H'
theorem cast_len (w : List Nat) : (castW w).length = w.length := List.length_map _
section
variable {P : Program} {w : World} {K : PySem.W.Frag} {mg : Str → Option Value} {base : Heap} {C : Addr}
theorem cal_l_lefts (T : Txt K mg C) : Cal P w K mg base "_law_lefts" 2 (spLLefts K) := by
  refine T.d_l_lefts.cal (ps := ["_law_state_here"]) (fun f fd D => ?_) (fun _ _ _ _ _ _ us hl => match us, hl with | [_], _ => rfl)
  refine D.ok sc_l_lefts (fun vs H Q E h => ?_) (fun cdv A outer s H vs Q E hr h => ?_)
  · obtain ⟨_, _, _, rfl, _⟩ := h
    rfl
  · obtain ⟨_, n, F, rfl, ⟨a, xs, rfl, ha, hx⟩, n4, hb, k⟩ := h
    have hxl : xs.length = n := by rw [hx.len, frL_len]
    refine ⟨_, (pss_one (ps_ret (pe_lc (own := [("_law_letter", 1), ("_law_row", 2)]) (g := gTup K 2 (gCons (gName 1) (gCons (gName 2) (gNil)))) rfl sc_l_lefts.nd (pi_enumT (by rfl) T.b_enumerate (pa_cons (pv 0) pa_nil)) (blkOk_by (own := [("_law_letter", 1), ("_law_row", 2)]) (N := ["_law_state_here", "_law_letter", "_law_row"]) (sc := defScope s_l_lefts) (by decide +kernel)) (fun _ _ _ _ _ => (pg_tup (by rfl) (pgs_cons (pg_name (i := 1) sc_l_lefts.nd rfl (Or.inl rfl)) (pgs_cons (pg_name (i := 2) sc_l_lefts.nd rfl (Or.inl rfl)) pgs_nil)))) (fun _ _ _ _ _ => (pts_one (pt_val (pe_cal (cal_l_is_low T) (hr.mono (by decide)) (by rfl) (pa_cons (pv 2) pa_nil))))) (fun _ _ _ _ _ => (pv 1))))), ?_⟩
    refine ⟨_, rfl, a, _, rfl, ha, fun D nD => lc_it (walk_enumT (K := K) (a := a) (xs := xs)) (fun i H' => Same H H' ∧ H' D = some (.lst ((castW (((List.range n).take i).filter fun i => lowB n (F i))).map V.int))) ⟨same_new nD, upd_same⟩ (fun i H' _ h => sqT_same h.1 ha) ?_ ?_⟩
    · rintro i x H4 H5 hi ⟨s4, hD⟩ ⟨q, x1, x2, rfl, nq, rfl, e1, e2⟩
      obtain rfl : x1 = .int (i : Nat) := (Option.some.inj e1).symm
      obtain ⟨y, hy, ty⟩ := hx.get e2
      have il : i < n := by omega
      rw [frL_get il] at hy
      cases hy
      have s5 := s4.trans (same_new (o := .tup [.int (i : Nat), x2]) nq)
      have hD5 := same_new (o := .tup [.int (i : Nat), x2]) nq _ _ hD
      have hlen : (castW (((List.range n).take i).filter fun i => lowB n (F i))).length ≤ 100 := by
        rw [cast_len]
        exact Nat.le_trans (List.length_filter_le _ _) (by rw [List.length_take, List.length_range]; omega)
      refine ⟨_, _, rfl, .of upd_same, rfl, _, _, rfl, _, _, rfl, rfl, rfl, ?_⟩
      refine ⟨_, rfl, x2, n, F i, rfl, ty.same s5, hb i il, _, rfl, ite2 (fun c => ?_) (fun c => ?_)⟩
      · refine ⟨_, rfl, _, hD5, small1000 (by rw [List.length_map]; omega), same_off nD s5 off_upd, ?_⟩
        rw [upd_same, take_snoc (List.getElem?_range il), List.filter_append, List.filter_cons_of_pos (p := fun i => lowB n (F i)) c, List.filter_nil]
        unfold castW
        rw [List.map_append, List.map_append]
        rfl
      · refine ⟨s5, ?_⟩
        rw [take_snoc (List.getElem?_range il), List.filter_append, List.filter_cons_of_neg (p := fun i => lowB n (F i)) c, List.filter_nil, List.append_nil]
        exact hD5
    · rintro H4 ⟨s4, hD⟩
      rw [List.take_of_length_le (by rw [List.length_range]; omega)] at hD
      exact k _ _ s4 nD hD
theorem cal_l_normal (T : Txt K mg C) : Cal P w K mg base "_law_normal" 4 (spLNormal K) := by
  refine T.d_l_normal.cal (ps := ["_law_factors_here", "_law_state_here"]) (fun f fd D => ?_) (fun _ _ _ _ _ _ us hl => match us, hl with | [_, _], _ => rfl)
  refine D.ok sc_l_normal (fun vs H Q E h => ?_) (fun cdv A outer s H vs Q E hr h => ?_)
  · obtain ⟨_, _, _, _, _, _, rfl, _⟩ := h
    rfl
  · obtain ⟨fv, sv, n, bs, w0, ws, rfl, hf, hsv, va, hw, hrun, hws, k⟩ := h
    have n4 := va.hi
    refine ⟨_, (pss_cons (ps_par (i := 2) (j := 3) rfl sc_l_normal.nd rfl rfl (by decide) rfl rfl (pa_cons (pe_lst pa_nil) (pa_cons (pe_cal (cal_l_lefts T) (hr.mono (by decide)) (by rfl) (pa_cons (pv 1) pa_nil)) pa_nil)) rfl)
      (pss_cons (ps_while PassesOwn.never (pt_cmpR (op_neD hr.units) (pv 3) (pe_lst pa_nil) (nomark _)) (pss_cons (ps_expr (pe_bm PySem.F.plainAttrs_list PySem.F.slot_list_append PySem.F.type_list_append mt_append (pv 2) (pa_cons (pe_ix ix_list (pv 3) pe_int (fun _ _ => rfl)) pa_nil)))
      (pss_cons (ps_set (i := 1) sc_l_normal.nd rfl (Or.inl rfl) (pe_cal (cal_l_ahead T) (hr.mono (by decide)) (by rfl) (pa_cons (pv 0) (pa_cons (pv 1) (pa_cons (pe_ix ix_list (pv 3) pe_int (fun _ _ => rfl)) pa_nil)))))
      (pss_one (ps_set (i := 3) sc_l_normal.nd rfl (Or.inl rfl) (pe_cal (cal_l_lefts T) (hr.mono (by decide)) (by rfl) (pa_cons (pv 1) pa_nil)))))))
      (pss_one (ps_ret (pe_callTy call_tuple_of (by rfl) T.b_tuple (by decide +kernel) (pa_cons (pv 2) pa_nil)))))), ?_⟩
    refine ⟨Nat.zero_le _, fun g ng => ?_⟩
    have s1 := same_new (o := .lst []) ng
    refine ⟨_, rfl, sv, n, _, rfl, hsv.same s1, by omega, fr_sml va hw (by omega), fun a H2 s2 na ha => ⟨_, _, rfl, ?_⟩⟩
    refine while_by (fun σ H' => ∃ (sv' : V) (fa : Addr) (w us rs : List Nat), σ = [some fv, some sv', some (.ref g), some (.ref fa)] ∧ Same H H' ∧ LkAt K H' sv' (frL n (Rt.fr (cB bs) n w)) ∧ Rt.In n w ∧ w.length + rs.length ≤ 100 ∧ H' g = some (.lst ((castW us).map V.int)) ∧ H' fa = some (.lst ((castW (lefB n (Rt.fr (cB bs) n w))).map V.int)) ∧ fa ≠ g ∧ Rt.Nf n (mB bs) w rs ∧ us ++ rs = ws) (fun _ H' => 1000 - lenAt H' g) ?_ ?_ ?_
    · exact ⟨sv, a, w0, [], ws, rfl, s1.trans s2, (hsv.same s1).same s2, hw, hws, s2 _ _ upd_same, ha, (ne_of_none (upd_same (H := H) (o := .lst [])) na).symm, hrun, rfl⟩
    · rintro _ H3 ⟨sv', fa, w1, us, rs, rfl, s3, hb, hin, hl1, hg, hfa, nfg, hr', rfl⟩
      rw [List.length_append] at hws
      refine ⟨_, rfl, Nat.zero_le _, fun e ne => ⟨_, _, .lst (.of (same_new ne _ _ hfa)) (dInts _), .lst (.of upd_same) .nil, sh_L _, sh_L [], ?_⟩⟩
      have hq : PyData.eqv (.list ((castW (lefB n (Rt.fr (cB bs) n w1))).map PyData.int)) (.list []) = decide (castW (lefB n (Rt.fr (cB bs) n w1)) = []) := eqv_L _ []
      rw [hq]
      refine ⟨_, rfl, ?_⟩
      have se := same_new (o := .lst []) ne
      cases hr' with
      | done hd =>
        rw [lef_done va hin hd]
        refine iteF ⟨_, rfl, g, _, rfl, .inl ⟨.of (se _ _ hg), fun t nt => ?_⟩⟩
        rw [List.append_nil] at k
        exact k _ _ ((s3.trans se).trans (same_new nt)) ⟨t, rfl, .of upd_same⟩
      | @step _ rs l hl hl2 hm hr' =>
        obtain ⟨r, er⟩ := lef_step va hin hl hl2 hm
        rw [er] at hfa ⊢
        simp only [List.length_cons] at hws hl1
        refine iteT ?_
        have hg4 := se _ _ hg
        have hfa4 := se _ _ hfa
        generalize upd H3 e (.lst []) = H4 at *
        refine ⟨_, rfl, .inl ⟨rfl, _, .of hg4⟩, ?_⟩
        refine ⟨_, rfl, _, _, _, _, rfl, rfl, .of hfa4, at_of (j := 0) rfl rfl, g, _, _, rfl, rfl, hg4, by rw [List.length_map]; exact small1000 (by rw [cast_len]; omega), ?_⟩
        have so : Off g H4 (upd H4 g (.lst ((castW us).map V.int ++ [.int (l : Nat)]))) := off_upd
        have sH : Same H (upd H4 g (.lst ((castW us).map V.int ++ [.int (l : Nat)]))) := same_off ng (s3.trans se) so
        have hb5 : LkAt K (upd H4 g (.lst ((castW us).map V.int ++ [.int (l : Nat)]))) sv' (frL n (Rt.fr (cB bs) n w1)) := by
          obtain ⟨sa, ss, rfl, hss, tss⟩ := hb.same se
          exact ⟨sa, ss, rfl, so.sqT hg4 hss, tss.imp fun _ _ z => so.bs hg4 z⟩
        have hf5 := so _ _ nfg hfa4
        refine ⟨_, rfl, _, rfl, _, rfl, _, _, _, _, rfl, rfl, .of hf5, at_of (j := 0) rfl rfl, fv, sv', n, l, bs, _, rfl, hf.same sH, hb5, va, hl, fr_sml va hin (by omega), fun v H6 s6 hb6 => ?_⟩
        rw [ah_fr va hl] at hb6
        have hin2 : Rt.In n (l :: w1) := hin.cons hl
        refine ⟨_, rfl, v, n, _, rfl, hb6, by omega, fr_sml va hin2 (by rw [List.length_cons]; omega), fun a7 H7 s7 n7 ha7 => ?_⟩
        have hg7 : H7 g = some (.lst ((castW (us ++ [l])).map V.int)) := by
          have := s7 _ _ (s6 _ _ (upd_same (H := H4) (a := g) (o := .lst ((castW us).map V.int ++ [.int (l : Nat)]))))
          unfold castW at this ⊢
          rw [List.map_append, List.map_append]
          exact this
        refine ⟨⟨v, a7, l :: w1, us ++ [l], rs, rfl, (sH.trans s6).trans s7, hb6.same s7, hin2, by rw [List.length_cons]; omega, hg7, ha7, (ne_of_none (s6 _ _ upd_same) n7).symm, hr', by simp⟩, ?_⟩
        unfold lenAt
        rw [hg7, hg]
        simp only [List.length_map, cast_len, List.length_append, List.length_cons, List.length_nil]
        omega
    · rintro σ H Q Q' hq ⟨v, hv, h0, h⟩
      refine ⟨v, hv, h0, fun e ne => ?_⟩
      obtain ⟨d, e', h1, h2, h3, h4, c, h5, h6⟩ := h e ne
      exact ⟨d, e', h1, h2, h3, h4, c, h5, hq _ _ h6⟩
end
end Sk

namespace Sk
open PySem L2 Ow
/-- a table that is being filled -/
structure TbAt (K : PySem.W.Frag) (H : Hp) (fa : Addr) (as : List Addr) (m n : Nat) (M : Nat → Nat → Rt.G) : Prop where
  hd : H fa = some (.lst (as.map V.ref))
  ln : as.length = m
  it : ∀ i b, as[i]? = some b → LT K H b (stL n (M i))
  nd : (fa :: as).Nodup
theorem TbAt.same {K : PySem.W.Frag} {H H' : Hp} {fa : Addr} {as : List Addr} {m n : Nat} {M : Nat → Nat → Rt.G} (h : TbAt K H fa as m n M) (s : Same H H') : TbAt K H' fa as m n M := ⟨s _ _ h.hd, h.ln, fun i b e => (h.it i b e).same s, h.nd⟩
theorem TbAt.cong {K : PySem.W.Frag} {H : Hp} {fa : Addr} {as : List Addr} {m n : Nat} {M N : Nat → Nat → Rt.G} (h : TbAt K H fa as m n M) (e : ∀ i, i < m → ∀ j, j < n → M i j = N i j) : TbAt K H fa as m n N :=
  ⟨h.hd, h.ln, fun i b eb => by
    have il : i < m := by
      have := (List.getElem?_eq_some_iff.mp eb).1
      rw [h.ln] at this
      exact this
    rw [← stL_eq.mpr (e i il)]
    exact h.it i b eb, h.nd⟩
theorem TbAt.fc {K : PySem.W.Frag} {H : Hp} {fa : Addr} {as : List Addr} {n : Nat} {bs : List (List Int)} (h : TbAt K H fa as n n (cB bs)) : FcAt K H (.ref fa) (fcL bs n) := by
  refine ⟨fa, _, rfl, h.hd, ?_⟩
  have go : ∀ (as : List Addr) (k m : Nat), as.length = m → (∀ i b, as[i]? = some b → LT K H b (stL n (cB bs (k + i)))) → A2 (fun x r => ∃ l, x = V.ref l ∧ LT K H l r) (as.map V.ref) ((List.range' k m).map fun i => stL n (cB bs i)) := by
    intro as
    induction as with
    | nil =>
      intro k m hm _
      subst hm
      trivial
    | cons a as ih =>
      intro k m hm hi
      cases m with
      | zero => cases hm
      | succ m =>
        rw [List.range'_succ]
        refine ⟨⟨a, rfl, hi 0 a rfl⟩, ih (k + 1) m (by simpa using hm) fun i b e => ?_⟩
        have := hi (i + 1) b (by simpa using e)
        rw [show k + 1 + i = k + (i + 1) by omega]
        exact this
  have := go as 0 n h.ln (fun i b e => by rw [Nat.zero_add]; exact h.it i b e)
  unfold fcL
  rw [List.range_eq_range']
  exact this
theorem TbAt.set {K : PySem.W.Frag} {H : Hp} {fa b : Addr} {as : List Addr} {m n i j : Nat} {M : Nat → Nat → Rt.G} {xs : List V} {v : V} {g : Rt.G} (h : TbAt K H fa as m n M) (e : as[i]? = some b) (hb : H b = some (.lst xs)) (hv : TI K H v (pr2 g)) :
    TbAt K (upd H b (.lst (xs.set j v))) fa as m n (fun i' j' => if i' = i ∧ j' = j then g else M i' j') := by
  have nda := List.nodup_cons.mp h.nd
  have mb := List.mem_of_getElem? e
  have o : Off b H (upd H b (.lst (xs.set j v))) := off_upd
  refine ⟨by rw [upd_ne (fun z => nda.1 (by rw [z]; exact mb))]; exact h.hd, h.ln, fun i' c ec => ?_, h.nd⟩
  by_cases ij : i' = i
  · subst ij
    rw [e] at ec
    cases ec
    obtain ⟨ys, ey, ty⟩ := h.it i' b e
    rw [hb] at ey
    cases ey
    refine ⟨_, upd_same, A2.tis ?_⟩
    have := ((A2.of_tis (o.tis hb ty)).set (i := j) (o.ti hb hv))
    rw [stL_set] at this
    have e2 : (fun k => if k = j then g else M i' k) = fun j' => if i' = i' ∧ j' = j then g else M i' j' := by
      funext k
      by_cases q : k = j
      · rw [if_pos q, if_pos ⟨rfl, q⟩]
      · rw [if_neg q, if_neg fun z => q z.2]
    rw [e2] at this
    exact this
  · have ne : c ≠ b := fun z => by
      subst z
      have h1 := (List.getElem?_eq_some_iff.mp e)
      have h2 := (List.getElem?_eq_some_iff.mp ec)
      exact ij ((List.getElem_inj nda.2).mp (h2.2.trans h1.2.symm))
    obtain ⟨ys, ey, ty⟩ := h.it i' c ec
    refine ⟨ys, by rw [upd_ne ne]; exact ey, ?_⟩
    have e2 : (fun j' => if i' = i ∧ j' = j then g else M i' j') = M i' := by
      funext k
      rw [if_neg fun z => ij z.1]
    rw [e2]
    exact o.tis hb ty
theorem TbAt.push {K : PySem.W.Frag} {H : Hp} {fa b : Addr} {as : List Addr} {m n : Nat} {M : Nat → Nat → Rt.G} {ys : List V} (h : TbAt K H fa as m n M) (hb : H b = none) (hy : TIs K (upd H b (.lst ys)) ys (stL n (M m))) :
    TbAt K (upd (upd H b (.lst ys)) fa (.lst ((as.map V.ref) ++ [.ref b]))) fa (as ++ [b]) (m + 1) n M := by
  have sb := same_new (o := .lst ys) hb
  have h2 := h.same sb
  have o : Off fa (upd H b (.lst ys)) (upd (upd H b (.lst ys)) fa (.lst ((as.map V.ref) ++ [.ref b]))) := off_upd
  have nb : ∀ c, c ∈ fa :: as → c ≠ b := fun c hc z => by
    subst z
    rcases List.mem_cons.mp hc with e | e
    · rw [e, h.hd] at hb
      cases hb
    · obtain ⟨i, hi⟩ := List.mem_iff_getElem?.mp e
      obtain ⟨zs, hz, _⟩ := h.it _ _ hi
      rw [hz] at hb
      cases hb
  have nda := List.nodup_cons.mp h.nd
  refine ⟨by rw [upd_same, List.map_append]; rfl, by simp [h.ln], fun j c ej => ?_, ?_⟩
  · by_cases hj : j < as.length
    · rw [List.getElem?_append_left hj] at ej
      have mm := List.mem_of_getElem? ej
      obtain ⟨zs, hz, tz⟩ := h2.it _ _ ej
      exact ⟨zs, o _ _ (fun z => nda.1 (by rw [← z]; exact mm)) hz, o.tis h2.hd tz⟩
    · have hj2 : j < (as ++ [b]).length := (List.getElem?_eq_some_iff.mp ej).1
      rw [List.length_append, List.length_singleton] at hj2
      have ejl : j = as.length := by omega
      subst ejl
      rw [List.getElem?_append_right (Nat.le_refl _), Nat.sub_self] at ej
      cases ej
      rw [h.ln]
      exact ⟨ys, o _ _ (fun z => nb fa (List.mem_cons_self ..) z.symm) upd_same, o.tis h2.hd hy⟩
  · rw [← List.cons_append, List.nodup_append]
    exact ⟨h.nd, List.nodup_cons.mpr ⟨by simp, List.nodup_nil⟩, fun x hx y hy => by
      rw [List.mem_singleton.mp hy]
      exact nb x hx⟩
end Sk

namespace Sk
open PySem L2 Ow
theorem isPr_of {i j l h d : Int} (lh : l < h) : isPr i j [l, h, d] = true ↔ (i = l ∧ j = h) ∨ (i = h ∧ j = l) := by
  unfold isPr
  rw [show ([l, h, d] : List Int).take 2 = [l, h] from rfl]
  simp only [Bool.or_eq_true, beq_iff_eq, List.cons.injEq, and_true]
  omega
theorem bond_snoc {n : Int} {bs : List (List Int)} {l h d : Int} (va : Valid n (bs ++ [[l, h, d]])) (lh : l < h) (i j : Int) : bondOf (bs ++ [[l, h, d]]) i j = if isPr i j [l, h, d] = true then d else bondOf bs i j := by
  unfold bondOf
  rw [List.filter_append]
  by_cases e : isPr i j [l, h, d] = true
  · rw [if_pos e, List.filter_cons_of_pos (by exact e)]
    have : bs.filter (isPr i j) = [] := by
      rw [List.filter_eq_nil_iff]
      intro t ht q
      obtain ⟨l2, h2, d2, rfl, t0, t1, _⟩ := va.tr t (List.mem_append.mpr (.inl ht))
      have as := va.as
      rw [List.map_append, List.pairwise_append] at as
      have := as.2.2 [l2, h2] (List.mem_map.mpr ⟨_, ht, rfl⟩) [l, h] (by simp)
      have q1 := (isPr_of t1).mp q
      have q2 := (isPr_of lh).mp e
      obtain ⟨rfl, rfl⟩ : l2 = l ∧ h2 = h := by omega
      rw [HT.lexLt_cons, if_pos rfl, HT.lexLt_cons, if_pos rfl] at this
      cases this
    rw [this]
    rfl
  · rw [if_neg e, List.filter_cons_of_neg (by exact e), List.filter_nil, List.append_nil]
theorem cB_snoc {n : Int} {bs : List (List Int)} {l h : Nat} {d : Int} (va : Valid n (bs ++ [[(l : Int), (h : Int), d]])) (lh : l < h) (i j : Nat) :
    cB (bs ++ [[(l : Int), (h : Int), d]]) i j = if i = h ∧ j = l then gl ((facT d).getD 1 []) else if i = l ∧ j = h then gl ((facT d).getD 0 []) else cB bs i j := by
  have lh2 : (l : Int) < h := by omega
  unfold cB
  unfold fac
  rw [bond_snoc va lh2]
  have P := isPr_of (i := i) (j := j) (d := d) lh2
  by_cases e1 : i = h ∧ j = l
  · obtain ⟨rfl, rfl⟩ := e1
    rw [if_neg (show ¬ i = j by omega), if_neg (show ¬ (i : Int) < j by omega), if_pos (show isPr i j [(j : Int), (i : Int), d] = true from P.mpr (by omega)), if_pos (show i = i ∧ j = j from ⟨rfl, rfl⟩)]
  · by_cases e2 : i = l ∧ j = h
    · obtain ⟨rfl, rfl⟩ := e2
      rw [if_neg (show ¬ i = j by omega), if_pos (show (i : Int) < j by omega), if_pos (show isPr i j [(i : Int), (j : Int), d] = true from P.mpr (by omega)), if_neg e1, if_pos (show i = i ∧ j = j from ⟨rfl, rfl⟩)]
    · rw [if_neg e1, if_neg e2, if_neg (show ¬ isPr i j [(l : Int), (h : Int), d] = true from fun z => by have := P.mp z; omega)]
theorem rep_flat {α : Type} (x : α) : ∀ n : Nat, (List.replicate n [x]).flatten = List.replicate n x
  | 0 => rfl
  | n + 1 => by
    rw [List.replicate_succ, List.replicate_succ, List.flatten_cons, rep_flat x n]
    rfl
theorem tis_rep {K : PySem.W.Frag} {H : Hp} {v : V} {r : List Int} (h : TI K H v r) : ∀ n : Nat, TIs K H (List.replicate n v) (List.replicate n r)
  | 0 => trivial
  | n + 1 => ⟨h, tis_rep h n⟩
theorem stL_zero (n : Nat) : stL n (fun _ => ((0 : Int), (0 : Int))) = List.replicate n [0, 0] := by
  refine List.ext_getElem (by rw [stL_len, List.length_replicate]) fun i h1 h2 => ?_
  rw [List.getElem_replicate]
  have := stL_get (S := fun _ => ((0 : Int), (0 : Int))) (n := n) (i := i) (by rw [stL_len] at h1; exact h1)
  rw [List.getElem?_eq_getElem h1] at this
  exact Option.some.inj this
theorem cB_nil (i j : Nat) : cB [] i j = (0, 0) := by
  unfold cB
  split
  · rfl
  · unfold fac
    split <;> rfl
theorem Valid.take {n : Int} {bs : List (List Int)} (va : Valid n bs) (k : Nat) : Valid n (bs.take k) := by
  refine ⟨va.lo, va.hi, fun t ht => va.tr t (List.mem_of_mem_take ht), ?_, ?_⟩
  · rw [List.map_take]
    exact va.as.sublist (List.take_sublist _ _)
  · rw [List.length_take]
    have := va.few
    omega
def spFactors (K : PySem.W.Frag) : Sp := fun vs H Q _ => ∃ (n : Nat) (bv : V) (bs : List (List Int)), vs = [.int n, bv] ∧ BsAt K H bv bs ∧ Valid n bs ∧ ∀ v H', Same H H' → FcAt K H' v (fcL bs n) → Q v H'
def dk5 (q0 q1 q2 q3 q4 : Addr) : List (Key × V) := [(.inl 0, .ref q0), (.inl 3, .ref q1), (.inl 4, .ref q2), (.inl 5, .ref q3), (.inl 6, .ref q4)]
theorem dget5 {K : PySem.W.Frag} {H : Hp} {p q0 q1 q2 q3 q4 : Addr} {d : Int} {f : Int → List Int} (hp : H p = some (.dK (mergeK [] (dk5 q0 q1 q2 q3 q4)))) (hd : d = 0 ∨ d = 3 ∨ d = 4 ∨ d = 5 ∨ d = 6)
    (t0 : TI K H (.ref q0) (f 0)) (t1 : TI K H (.ref q1) (f 3)) (t2 : TI K H (.ref q2) (f 4)) (t3 : TI K H (.ref q3) (f 5)) (t4 : TI K H (.ref q4) (f 6)) : ∃ v, DGet H p (.int d) (some v) ∧ TI K H v (f d) := by
  rcases hd with rfl | rfl | rfl | rfl | rfl
  · exact ⟨.ref q0, DGet.k (k := .inl 0) hp, t0⟩
  · exact ⟨.ref q1, DGet.k (k := .inl 3) hp, t1⟩
  · exact ⟨.ref q2, DGet.k (k := .inl 4) hp, t2⟩
  · exact ⟨.ref q3, DGet.k (k := .inl 5) hp, t3⟩
  · exact ⟨.ref q4, DGet.k (k := .inl 6) hp, t4⟩
theorem five {H : Hp} {p q0 q1 q2 q3 q4 : Addr} {x0 x1 x2 x3 x4 : List V} {kv : List (Key × V)} (np : H p = none) (n0 : (upd H p (.dK [])) q0 = none) (n1 : (upd (upd H p (.dK [])) q0 (.tup x0)) q1 = none) (n2 : (upd (upd (upd H p (.dK [])) q0 (.tup x0)) q1 (.tup x1)) q2 = none)
    (n3 : (upd (upd (upd (upd H p (.dK [])) q0 (.tup x0)) q1 (.tup x1)) q2 (.tup x2)) q3 = none) (n4 : (upd (upd (upd (upd (upd H p (.dK [])) q0 (.tup x0)) q1 (.tup x1)) q2 (.tup x2)) q3 (.tup x3)) q4 = none) :
    ∀ G, G = upd (upd (upd (upd (upd (upd H p (.dK [])) q0 (.tup x0)) q1 (.tup x1)) q2 (.tup x2)) q3 (.tup x3)) q4 (.tup x4) → G p = some (.dK []) ∧ Same H (upd G p (.dK kv)) ∧ (upd G p (.dK kv)) p = some (.dK kv) ∧ (upd G p (.dK kv)) q0 = some (.tup x0) ∧ (upd G p (.dK kv)) q1 = some (.tup x1) ∧ (upd G p (.dK kv)) q2 = some (.tup x2) ∧ (upd G p (.dK kv)) q3 = some (.tup x3) ∧ (upd G p (.dK kv)) q4 = some (.tup x4) := by
  rintro G rfl
  have sp := same_new (o := .dK []) np
  have s0 := same_new (o := .tup x0) n0
  have s1 := same_new (o := .tup x1) n1
  have s2 := same_new (o := .tup x2) n2
  have s3 := same_new (o := .tup x3) n3
  have s4 := same_new (o := .tup x4) n4
  have hp0 : (upd H p (.dK [])) p = some (.dK []) := upd_same
  have hp1 := s0 _ _ hp0
  have hp2 := s1 _ _ hp1
  have hp3 := s2 _ _ hp2
  have hp4 := s3 _ _ hp3
  have hp5 := s4 _ _ hp4
  refine ⟨hp5, same_off np (((((sp.trans s0).trans s1).trans s2).trans s3).trans s4) off_upd, upd_same, ?_, ?_, ?_, ?_, ?_⟩
  · rw [upd_ne (ne_of_none hp0 n0).symm]
    exact s4 _ _ (s3 _ _ (s2 _ _ (s1 _ _ upd_same)))
  · rw [upd_ne (ne_of_none hp1 n1).symm]
    exact s4 _ _ (s3 _ _ (s2 _ _ upd_same))
  · rw [upd_ne (ne_of_none hp2 n2).symm]
    exact s4 _ _ (s3 _ _ upd_same)
  · rw [upd_ne (ne_of_none hp3 n3).symm]
    exact s4 _ _ upd_same
  · rw [upd_ne (ne_of_none hp4 n4).symm]
    exact upd_same
section
variable {P : Program} {w : World} {K : PySem.W.Frag} {mg : Str → Option Value} {base : Heap} {C : Addr}
theorem cal_l_factors (T : Txt K mg C) : Cal P w K mg base "_law_factors" 1 (spFactors K) := by
  refine T.d_l_factors.cal (ps := ["_law_letters", "_law_bonds"]) (fun f fd D => ?_) (fun _ _ _ _ _ _ us hl => match us, hl with | [_, _], _ => rfl)
  refine D.ok sc_l_factors (fun vs H Q E h => ?_) (fun cdv A outer s H vs Q E hr h => ?_)
  · obtain ⟨_, _, _, rfl, _⟩ := h
    rfl
  · obtain ⟨n, bv, bs, rfl, ⟨a, xs, rfl, ha, hx⟩, va, k⟩ := h
    have hxl := hx.len
    have n4 := va.hi
    have few := va.few
    refine ⟨_, (pss_cons (ps_setLc (i := 2) (own := [("_law_one", 3)]) (g := gName 3) (tt := tYes) rfl sc_l_factors.nd rfl rfl (sw_true rfl rfl rfl (by decide +kernel)) (pi_range1 (by rfl) T.b_range (pa_cons (pv 0) pa_nil)) (blkOk_by (own := [("_law_one", 3)]) (N := ["_law_letters", "_law_bonds", "_law_found", "_law_one", "_law_other", "_law_bond"]) (sc := defScope s_l_factors) (by decide +kernel)) (fun _ _ _ _ _ => (pg_name (i := 3) sc_l_factors.nd rfl (Or.inl rfl))) (fun _ _ _ _ _ => pts_nil) (fun _ _ _ _ _ => (pe_op op_rep (pe_lst (pa_cons (pe_tup (pa_cons pe_int (pa_cons pe_int pa_nil))) pa_nil)) (pv 0))))
      (pss_cons (ps_for PassesOwn.never rfl (pi_tup (pv 1)) (pg_tup (by rfl) (pgs_cons (pg_name (i := 3) sc_l_factors.nd rfl (Or.inl rfl)) (pgs_cons (pg_name (i := 4) sc_l_factors.nd rfl (Or.inl rfl)) (pgs_cons (pg_name (i := 5) sc_l_factors.nd rfl (Or.inl rfl)) pgs_nil)))) (pss_cons (ps_asg (pe_dget (hu_of hr) (pe_disp (pps_cons pe_int (pe_tup (pa_cons pe_int (pa_cons pe_int pa_nil))) (pps_cons pe_int (pe_tup (pa_cons pe_int (pa_cons pe_int pa_nil))) (pps_cons pe_int (pe_tup (pa_cons pe_int (pa_cons pe_int pa_nil))) (pps_cons pe_int (pe_tup (pa_cons pe_int (pa_cons pe_int pa_nil))) (pps_cons pe_int (pe_tup (pa_cons pe_int (pa_cons pe_int pa_nil))) pps_nil))))) rfl rfl (by simp) (by decide)) (pv 5) (fun _ _ => rfl)) (pg_sub (pe_ix ix_list (pv 2) (pv 3) (fun _ _ => rfl)) (pv 4) set_list))
      (pss_one (ps_asg (pe_dget (hu_of hr) (pe_disp (pps_cons pe_int (pe_tup (pa_cons pe_int (pa_cons pe_int pa_nil))) (pps_cons pe_int (pe_tup (pa_cons pe_int (pa_cons pe_int pa_nil))) (pps_cons pe_int (pe_tup (pa_cons pe_int (pa_cons pe_int pa_nil))) (pps_cons pe_int (pe_tup (pa_cons pe_int (pa_cons pe_int pa_nil))) (pps_cons pe_int (pe_tup (pa_cons pe_int (pa_cons pe_int pa_nil))) pps_nil))))) rfl rfl (by simp) (by decide)) (pv 5) (fun _ _ => rfl)) (pg_sub (pe_ix ix_list (pv 2) (pv 4) (fun _ _ => rfl)) (pv 3) set_list)))))
      (pss_one (ps_ret (pv 2))))), ?_⟩
    refine ⟨_, rfl, _, rfl, by omega, by omega, fun D nD => lc_range (lo := 0) (n := n) (fun i H' => Same H H' ∧ ∃ as, TbAt K H' D as i n (fun _ _ => (0, 0)) ∧ ∀ b ∈ as, H b = none) ⟨same_new nD, [], ⟨upd_same, rfl, (fun i b e => by cases e), by simp⟩, (fun b hb => by cases hb)⟩ ?_ ?_⟩
    · rintro i H2 hi ⟨s2, as, tb, fre⟩
      have al := tb.ln
      refine ⟨rfl, show 2 ≤ sizeLine by decide, fun t nt => ⟨show 1 ≤ sizeLine by decide, fun l nl => ⟨_, rfl, _, _, _, rfl, rfl, upd_same, by omega, by omega, ?_, fun p np => ?_⟩⟩⟩
      · exact Nat.le_trans (show 1 * n ≤ 1000 by omega) (by decide)
      · have st := (same_new (o := .tup [.int 0, .int 0]) nt).trans (same_new (o := .lst [.ref t]) nl)
        have e : (List.replicate ((n : Nat) : Int).toNat [V.ref t]).flatten = List.replicate n (.ref t) := rep_flat _ n
        rw [e] at *
        have tb2 := tb.same st
        have ht : TI K (upd (upd (upd H2 t (.tup [.int 0, .int 0])) l (.lst [.ref t])) p (.lst (List.replicate n (.ref t)))) (.ref t) [0, 0] := ⟨t, rfl, .of (same_new np _ _ (same_new nl _ _ upd_same))⟩
        have tb3 := tb2.push np (ys := List.replicate n (.ref t)) (by rw [stL_zero]; exact tis_rep ht n)
        refine ⟨_, (st.trans (same_new np)) _ _ tb.hd, ?_, ?_⟩
        · exact small1000 (by rw [List.length_map]; omega)
        · exact ⟨same_off nD ((s2.trans st).trans (same_new np)) off_upd, _, tb3, fun b hb => (List.mem_append.mp hb).elim (fre b) fun z => by rw [List.mem_singleton.mp z]; exact (s2.trans st).free np⟩
    · rintro H2 ⟨s2, as, tb, fre⟩
      refine ⟨_, rfl, a, rfl, ⟨_, sqT_same s2 ha⟩, for_tup (K := K) (a := a) (xs := xs) (fun i σ H' => (∃ v3 v4 v5 : Option V, σ = [some (.int (n : Nat)), some (.ref a), some (.ref D), v3, v4, v5]) ∧ Same H H' ∧ TbAt K H' D as n n (cB (bs.take i))) ⟨⟨_, _, _, rfl⟩, s2, tb.cong fun i _ j _ => (cB_nil i j).symm⟩ (fun i σ H' _ h => sqT_same h.2.1 ha) ?_ ?_⟩
      · rintro i x σ H3 hxi ⟨⟨v3, v4, v5, rfl⟩, s3, tb3⟩
        obtain ⟨r, er, tr⟩ := hx.get hxi
        obtain ⟨l, h, d, rfl, l0, lh, hn, hd⟩ := va.tr r (List.mem_of_getElem? er)
        obtain ⟨l, rfl⟩ : ∃ l' : Nat, l = l' := ⟨l.toNat, by omega⟩
        obtain ⟨h, rfl⟩ : ∃ h' : Nat, h = h' := ⟨h.toNat, by omega⟩
        obtain ⟨b, rfl, tb1⟩ := tr.same s3
        refine ⟨_, _, rfl, tb1, rfl, _, _, rfl, _, _, rfl, _, _, rfl, rfl, ?_⟩
        obtain ⟨cl, ecl⟩ : ∃ c, as[l]? = some c := ⟨_, List.getElem?_eq_getElem (show l < as.length by rw [tb.ln]; omega)⟩
        obtain ⟨ch, ech⟩ : ∃ c, as[h]? = some c := ⟨_, List.getElem?_eq_getElem (show h < as.length by rw [tb.ln]; omega)⟩
        have asl : ∀ {i : Nat} {c : Addr}, as[i]? = some c → atI (as.map V.ref) (i : Nat) = some (.ref c) := fun {i c} e => at_of (j := i) rfl (by rw [List.getElem?_map, e]; rfl)
        have vt : Valid n (bs.take i ++ [[(l : Int), (h : Int), d]]) := by
          have := va.take (i + 1)
          rw [take_snoc er] at this
          exact this
        intro p np
        refine ⟨show 2 ≤ sizeLine by decide, fun q0 n0 => ⟨show 2 ≤ sizeLine by decide, fun q1 n1 => ⟨show 2 ≤ sizeLine by decide, fun q2 n2 => ⟨show 2 ≤ sizeLine by decide, fun q3 n3 => ⟨show 2 ≤ sizeLine by decide, fun q4 n4 => ?_⟩⟩⟩⟩⟩
        obtain ⟨gp, sG, gk, g0, g1, g2, g3, g4⟩ := five (kv := mergeK [] (dk5 q0 q1 q2 q3 q4)) np n0 n1 n2 n3 n4 _ rfl
        refine ⟨gp, dk5 q0 q1 q2 q3 q4, rfl, (by show 5 ≤ 15; decide), _, rfl, ?_⟩
        obtain ⟨v, dg, tv⟩ := dget5 (K := K) (f := fun d => (facT d).getD 0 []) gk hd ⟨q0, rfl, .of g0⟩ ⟨q1, rfl, .of g1⟩ ⟨q2, rfl, .of g2⟩ ⟨q3, rfl, .of g3⟩ ⟨q4, rfl, .of g4⟩
        refine ⟨p, v, rfl, dg, ?_⟩
        generalize upd _ p (.dK (mergeK [] (dk5 q0 q1 q2 q3 q4))) = G1 at *
        have tG := tb3.same sG
        obtain ⟨xs1, hx1, tx1⟩ := tG.it l cl ecl
        have xl1 : xs1.length = n := by rw [tx1.len, stL_len]
        have e0 : pr2 (gl ((facT d).getD 0 [])) = (facT d).getD 0 [] := by rcases hd with rfl | rfl | rfl | rfl | rfl <;> rfl
        have e1 : pr2 (gl ((facT d).getD 1 [])) = (facT d).getD 1 [] := by rcases hd with rfl | rfl | rfl | rfl | rfl <;> rfl
        refine ⟨_, rfl, _, rfl, _, _, _, _, rfl, rfl, .of tG.hd, asl ecl, _, rfl, cl, _, _, _, rfl, rfl, hx1, ixN_ok (by omega) (by omega), ?_⟩
        have tS := tG.set (j := h) (g := gl ((facT d).getD 0 [])) ecl hx1 (by rw [e0]; exact tv)
        have sS : Same H (upd G1 cl (.lst (xs1.set h v))) := same_off (fre cl (List.mem_of_getElem? ecl)) (s3.trans sG) off_upd
        rw [show ((h : Nat) : Int).toNat = h by omega]
        generalize upd G1 cl (.lst (xs1.set h v)) = G2 at *
        intro p2 np2
        refine ⟨show 2 ≤ sizeLine by decide, fun r0 m0 => ⟨show 2 ≤ sizeLine by decide, fun r1 m1 => ⟨show 2 ≤ sizeLine by decide, fun r2 m2 => ⟨show 2 ≤ sizeLine by decide, fun r3 m3 => ⟨show 2 ≤ sizeLine by decide, fun r4 m4 => ?_⟩⟩⟩⟩⟩
        obtain ⟨gp2, sG2, gk2, w0, w1, w2, w3, w4⟩ := five (kv := mergeK [] (dk5 r0 r1 r2 r3 r4)) np2 m0 m1 m2 m3 m4 _ rfl
        refine ⟨gp2, dk5 r0 r1 r2 r3 r4, rfl, (by show 5 ≤ 15; decide), _, rfl, ?_⟩
        obtain ⟨v2, dg2, tv2⟩ := dget5 (K := K) (f := fun d => (facT d).getD 1 []) gk2 hd ⟨r0, rfl, .of w0⟩ ⟨r1, rfl, .of w1⟩ ⟨r2, rfl, .of w2⟩ ⟨r3, rfl, .of w3⟩ ⟨r4, rfl, .of w4⟩
        refine ⟨p2, v2, rfl, dg2, ?_⟩
        generalize upd _ p2 (.dK (mergeK [] (dk5 r0 r1 r2 r3 r4))) = G3 at *
        have tG2 := tS.same sG2
        obtain ⟨xs2, hx2, tx2⟩ := tG2.it h ch ech
        have xl2 : xs2.length = n := by rw [tx2.len, stL_len]
        refine ⟨_, rfl, _, rfl, _, _, _, _, rfl, rfl, .of tG2.hd, asl ech, _, rfl, ch, _, _, _, rfl, rfl, hx2, ixN_ok (by omega) (by omega), ?_⟩
        rw [show ((l : Nat) : Int).toNat = l by omega]
        have tS2 := tG2.set (j := l) (g := gl ((facT d).getD 1 [])) ech hx2 (by rw [e1]; exact tv2)
        refine ⟨⟨_, _, _, rfl⟩, same_off (fre ch (List.mem_of_getElem? ech)) (sS.trans sG2) off_upd, tS2.cong fun i' _ j' _ => ?_⟩
        rw [take_snoc er, cB_snoc vt (by omega)]
      · rintro σ H3 ⟨⟨v3, v4, v5, rfl⟩, s3, tb3⟩
        rw [hxl, List.take_length] at tb3
        exact ⟨_, rfl, k _ _ s3 tb3.fc⟩
end
end Sk

namespace Sk
open PySem PySem.Spec PyProof.Rows L2 Ow
/-! dicts whose keys are states -/
abbrev Ste := List (List Int)
def nk (st : Ste) : NestedKey := .tup (st.map fun r => .tup (r.map .num))
theorem num_inj {a b : List Int} (h : a.map NestedKey.num = b.map NestedKey.num) : a = b := List.map_inj_right (f := NestedKey.num) (fun _ _ e => NestedKey.num.inj e) |>.mp h
theorem nk_inj {a b : Ste} (h : nk a = nk b) : a = b := by
  have := NestedKey.tup.inj h
  exact List.map_inj_right (f := fun r : List Int => NestedKey.tup (r.map .num)) (fun _ _ e => num_inj (NestedKey.tup.inj e)) |>.mp this
theorem dep_nums : ∀ r : List Int, NestedKey.depthAll (r.map .num) ≤ 1
  | [] => by simp [NestedKey.depthAll]
  | n :: r => by have := dep_nums r; simp [NestedKey.depthAll, NestedKey.depth]; omega
theorem dep_rows : ∀ st : Ste, NestedKey.depthAll (st.map fun r => .tup (r.map .num)) ≤ 3
  | [] => by simp [NestedKey.depthAll]
  | r :: st => by have := dep_rows st; have := dep_nums r; simp [NestedKey.depthAll, NestedKey.depth]; omega
theorem dep_nk (st : Ste) : (nk st).depth ≤ 8 := by
  have := dep_rows st
  simp [nk, NestedKey.depth]
  omega
theorem all_nums {h : Heap} : ∀ {r : List Int} {its : List Value}, Vals (r.map V.int) its → NestedAll h (r.map .num) its
  | [], _, hv => by cases hv; exact .nil
  | n :: r, _, hv => by
    cases hv with
    | cons hx hr =>
      obtain ⟨t, rfl⟩ := hx
      exact .cons (.int n t) (all_nums hr)
section
variable {X : Cx} {pins : List (Addr × Obj)} {σ : L2.St} {H : Hp} {s : Shared}
theorem all_rows (I : Inv X pins σ H s) : ∀ {st : Ste} {xs : List V} {its : List Value}, TIs X.K H xs st → Vals xs its → NestedAll s.heap (st.map fun r => .tup (r.map .num)) its
  | [], [], _, _, hv => by cases hv; exact .nil
  | r :: st, x :: xs, _, ht, hv => by
    cases hv with
    | cons hx hr =>
      obtain ⟨a, rfl, q⟩ := ht.1
      obtain ⟨its2, v2, ⟨o, h1, h2, n, h3⟩, _⟩ := I.tuple q
      cases hx
      exact .cons (.tup h1 h2 h3 (by simpa using all_nums v2)) (all_rows I ht.2 hr)
theorem nk_is (I : Inv X pins σ H s) {a : Addr} {st : Ste} (b : BsAt X.K H (.ref a) st) : (nestedKind X.prog X.w).is s.heap (nk st) a := by
  obtain ⟨a', xs, e, q, t⟩ := b
  cases e
  obtain ⟨its, v, ⟨o, h1, h2, n, h3⟩, _⟩ := I.tuple q
  exact ⟨.tup h1 h2 h3 (by simpa using all_rows I t v), dep_nk st⟩
end
abbrev Ent := Ste × Addr × Addr
def raw (x : Ent) : NestedKey × Addr × Value := (nk x.1, x.2.1, .ref x.2.2)
def phi (P : Program) (w : World) (d : Addr) (xs : List Ent) (h : Heap) : Prop := (d == sysModules) = false ∧ xs.length ≤ sizeLine ∧ ((xs.map raw).map (·.1)).Nodup ∧ ∃ o es ep, h.get? d = some o ∧ o.ExactDict ∧ o.data = .dict es ep ∧ es.toList = (xs.map raw).map (entryOfKey (nestedKind P w))
theorem phi_ok {P : Program} {w : World} {H : Hp} {d : Addr} {xs : List Ent} {h : Heap} (p : phi P w d xs h) : ObjOk P w H h d (.ext (phi P w d xs)) := by
  refine ⟨p, ?_, fun h1 h2 p1 e => ?_⟩
  · obtain ⟨_, _, _, o, _, _, e, _⟩ := p
    exact ⟨o, e⟩
  · obtain ⟨a, b, c, o, es, ep, e1, r⟩ := p1
    exact ⟨a, b, c, o, es, ep, e _ e1, r⟩
/-- the dict at d: keys, where they stand, where the values stand -/
def DN (X : Cx) (H : Hp) (d : Addr) (xs : List Ent) : Prop := Rd H d (.ext (phi X.prog X.w d xs)) ∧ ∀ x ∈ xs, BsAt X.K H (.ref x.2.1) x.1
section
variable {X : Cx} {pins : List (Addr × Obj)} {σ : L2.St} {H : Hp} {s : Shared}
theorem DN.phi {d : Addr} {xs : List Ent} (h : DN X H d xs) (I : Inv X pins σ H s) : phi X.prog X.w d xs s.heap := by
  rcases h.1 with e | ⟨o, e⟩
  · exact (I.hok _ _ e).1
  · exact (I.hok _ _ e).2.1
theorem DN.of {d : Addr} {xs : List Ent} (h : DN X H d xs) (I : Inv X pins σ H s) : Heap.DictOfH (nestedKind X.prog X.w) s.heap d (xs.map raw) := by
  obtain ⟨_, _, nd, o, es, ep, e1, e2, e3, e4⟩ := h.phi I
  refine ⟨o, es, ep, e1, e2, e3, e4, fun x hx => ?_, nd⟩
  obtain ⟨y, hy, rfl⟩ := List.mem_map.mp hx
  exact nk_is I (h.2 y hy)
theorem at_none {xs : List Ent} {st : Ste} (h : ∀ x ∈ xs, x.1 ≠ st) : atKey (xs.map raw) (nk st) = none := by
  unfold atKey
  rw [List.find?_eq_none.mpr]
  · rfl
  · intro x hx
    obtain ⟨y, hy, rfl⟩ := List.mem_map.mp hx
    simp only [decide_eq_true_eq]
    exact fun e => h y hy (nk_inj e)
theorem at_some : ∀ {xs : List Ent} {st : Ste} {a b : Addr}, (xs.map (·.1)).Nodup → (st, a, b) ∈ xs → atKey (xs.map raw) (nk st) = some (a, .ref b)
  | [], _, _, _, _, h => by cases h
  | x :: xs, st, a, b, nd, h => by
    rw [List.map_cons] at nd
    have nd := List.nodup_cons.mp nd
    unfold atKey
    rw [List.map_cons, List.find?_cons]
    rcases List.mem_cons.mp h with e | m
    · subst e
      rw [show decide ((raw (st, a, b)).fst = nk st) = true from decide_eq_true rfl]
      rfl
    · rw [show decide ((raw x).fst = nk st) = false from decide_eq_false fun e => nd.1 (by rw [show x.1 = st from nk_inj e]; exact List.mem_map.mpr ⟨_, m, rfl⟩)]
      exact at_some nd.2 m
theorem nodup_of {xs : List Ent} (h : ((xs.map raw).map (·.1)).Nodup) : (xs.map (·.1)).Nodup := by
  rw [List.map_map] at h
  have : (fun x : NestedKey × Addr × Value => x.1) ∘ raw = nk ∘ fun x : Ent => x.1 := rfl
  rw [this, ← List.map_map] at h
  unfold List.Nodup at h ⊢
  rw [List.pairwise_map] at h
  exact h.imp fun z e => z (by rw [e])
end
section
variable {X : Cx} {pos : Pos}
/-- {} -/
def tDN (X : Cx) : TE := fun _ H Q => ∀ p, H p = none → Q (.ref p) (upd H p (.ext (phi X.prog X.w p [])))
theorem pe_dnewN : PE X (.Dict [] [] pos) (tDN X) := by
  refine ⟨fun pins s σ H Q I h => ?_⟩
  refine wpAny_Dict_empty ?_
  have fr := I.fresh
  have big := I.big
  refine ⟨.ref s.heap.objs.size, _, I.laid (t' := s.toks) (o := .ext (phi X.prog X.w s.heap.objs.size [])) (fun b u e => Heap.get?_push_of_some _ e) (Nat.le_refl _) (phi_ok ?_), rfl, h _ fr⟩
  refine ⟨?_, Nat.zero_le _, List.nodup_nil, _, #[], 0, Heap.get?_push_size _ rfl, ⟨rfl, rfl, rfl⟩, rfl, rfl⟩
  rw [beq_eq_false_iff_ne]
  exact Nat.ne_of_gt big
/-- k in d, k not in d -/
def rNotInN (X : Cx) : R2 := fun x y H Q => ∃ (a d : Addr) (st : Ste) (xs : List Ent), x = .ref a ∧ y = .ref d ∧ BsAt X.K H (.ref a) st ∧ DN X H d xs ∧ ((∃ e ∈ xs, e.1 = st) → Q (.bl false) H) ∧ ((∀ e ∈ xs, e.1 ≠ st) → Q (.bl true) H)
theorem op_notInN (hu : X.A.units + 65 < cLine) : OpR X (compareOp .NotIn) (rNotInN X) := by
  intro pins s σ H x y v u Q I rx ry h
  obtain ⟨a, d, st, xs, rfl, rfl, hb, hd, q1, q2⟩ := h
  cases rx
  cases ry
  have p := hd.phi I
  refine notIn_keyed (knd := nestedKind X.prog X.w) (k := nk st) (kvs := pairsH (xs.map raw)) (show X.A.units + 1 + 8 < cLine by omega) (nk_is I hb) p.1 ⟨_, hd.of I, rfl⟩ ?_
  have ev : valueAt (pairsH (xs.map raw)) (nk st) = (atKey (xs.map raw) (nk st)).map (·.2) := by
    unfold valueAt pairsH atKey
    rw [List.find?_map]
    simp [Function.comp_def]
  rw [ev]
  by_cases h : ∃ e ∈ xs, e.1 = st
  · obtain ⟨⟨st', k, b⟩, he, rfl⟩ := h
    rw [at_some (nodup_of p.2.2.1) he]
    exact ⟨.bl false, H, I.tok _, rfl, q1 ⟨_, he, rfl⟩⟩
  · have h2 : ∀ e ∈ xs, e.1 ≠ st := fun e he z => h ⟨e, he, z⟩
    rw [at_none h2]
    exact ⟨.bl true, H, I.tok _, rfl, q2 h2⟩
/-- d[k] -/
def rIxN (X : Cx) : R2 := fun x y H Q => ∃ (a d : Addr) (st : Ste) (xs : List Ent) (e : Ent), x = .ref d ∧ y = .ref a ∧ BsAt X.K H (.ref a) st ∧ DN X H d xs ∧ e ∈ xs ∧ e.1 = st ∧ Q (.ref e.2.2) H
theorem ix_N (hu : X.A.units + 65 < cLine) : IxR X (rIxN X) := by
  intro value slice pins s σ H x y v u Q I rx ry h hs
  obtain ⟨a, d, st, xs, ⟨st', k, b⟩, rfl, rfl, hb, hd, he, rfl, q⟩ := h
  cases rx
  cases ry
  have p := hd.phi I
  have D := hd.of I
  exact tail_any D.typeIs slot_dict_getitem.lookup (wpAny_getItem_heap (knd := nestedKind X.prog X.w) (k := nk st') (show X.A.units + 1 + 8 < cLine by omega) (nk_is I hb) D (at_some (nodup_of p.2.2.1) he) ⟨.ref b, H, I.tok _, rfl, q⟩) hs
/-- d[k] = v, k new -/
def rSetN (X : Cx) : TSet := fun o i v H Q => ∃ (a d b : Addr) (st : Ste) (xs : List Ent), o = .ref d ∧ i = .ref a ∧ v = .ref b ∧ BsAt X.K H (.ref a) st ∧ DN X H d xs ∧ H d = some (.ext (phi X.prog X.w d xs)) ∧ (∀ e ∈ xs, e.1 ≠ st) ∧ xs.length < sizeLine ∧ Q (upd H d (.ext (phi X.prog X.w d (xs ++ [(st, a, b)]))))
theorem set_N (hu : X.A.units + 65 < cLine) : PSet X (rSetN X) := by
  intro pins s σ H o i v ov iv u Q I ro ri rv h
  obtain ⟨a, d, b, st, xs, rfl, rfl, rfl, hb, hd, hx, hn, hz, q⟩ := h
  cases ro
  cases ri
  cases rv
  have p := hd.phi I
  refine wpAny_setItem_heap (knd := nestedKind X.prog X.w) (k := nk st) (xs := xs.map raw) (show X.A.units + 1 + 8 < cLine by omega) (nk_is I hb) (hd.of I) (fun h' D' sb => ?_) (by rw [List.length_map]; exact p.2.1)
  have e : storedH (xs.map raw) (nk st) a (.ref b) = (xs ++ [(st, a, b)]).map raw := by
    unfold storedH
    rw [at_none hn, if_neg (by simp), List.map_append]
    rfl
  rw [e] at D'
  obtain ⟨o, es, ep, e1, e2, e3, e4, e5, e6⟩ := D'
  refine ⟨_, I.write (x := d) (e := d) (o := .ext (phi X.prog X.w d (xs ++ [(st, a, b)]))) (by rw [hx]; trivial) (.inl rfl) (fun c u hc hg => by rw [sb.2 c hc]; exact hg) ⟨o, e1⟩ (phi_ok ⟨p.1, ?_, e6, o, es, ep, e1, e2, e3, e4⟩), q⟩
  rw [List.length_append, List.length_singleton]
  exact hz
end
end Sk

namespace Sk
open PySem PySem.Spec PyProof.Rows L2 Ow
def Itn (P : Program) (w : World) (d : Addr) (o : Obj) (xs : List Ent) : It where
  go := fun i H => H d = some (.frz o (.ext (phi P w d xs))) ∧ i < xs.length
  yld := fun i H x H' => H' = H ∧ ∃ e, xs[i]? = some e ∧ x = .ref e.2.1
  stop := fun i H => H d = some (.frz o (.ext (phi P w d xs))) ∧ xs.length ≤ i
theorem walk_N {P : Program} {w : World} {d : Addr} {o : Obj} {xs : List Ent} : Walk (Itn P w d o xs) xs.length (fun H => H d = some (.frz o (.ext (phi P w d xs)))) (fun i H x H' => H' = H ∧ ∃ e, xs[i]? = some e ∧ x = .ref e.2.1) :=
  ⟨fun i H hi h => ⟨h, hi⟩, fun H h => ⟨h, Nat.le_refl _⟩, fun i H x H' _ _ y => y⟩
theorem raw_of {X : Cx} {pins : List (Addr × Obj)} {σ : L2.St} {H : Hp} {s : Shared} {d : Addr} {o : Obj} {xs : List Ent} (I : Inv X pins σ H s) (h : H d = some (.frz o (.ext (phi X.prog X.w d xs)))) : (d == sysModules) = false ∧ ∃ es ep, s.heap.get? d = some o ∧ o.ExactDict ∧ o.data = .dict es ep ∧ es.size = xs.length ∧ es.toList = (xs.map raw).map (entryOfKey (nestedKind X.prog X.w)) := by
  obtain ⟨e1, p, _⟩ := I.hok _ _ h
  obtain ⟨a, _, _, o', es, ep, g1, g2, g3, g4⟩ := p
  rw [e1] at g1
  cases g1
  refine ⟨a, es, ep, e1, g2, g3, ?_, g4⟩
  have := congrArg List.length g4
  simpa using this
theorem turn_N {P : Program} {w : World} {K : PySem.W.Frag} {tg : Expr} {d : Addr} {o : Obj} {es : Array DictEntry} {ep : Nat} {xs : List Ent} (it : Addr) (hd : o.data = .dict es ep) : Turn P w K tg (Itn P w d o xs) [it] it (fun i h => h.IsKeyIter it d i xs.length ep ∧ i ≤ xs.length) := by
  have T0 := turn_keysT (P := P) (w := w) (K := K) (tg := tg) (d := d) (o := o) (es := es) (ep := ep) (kvs := xs.map fun _ => ([], V.non)) it hd
  rw [List.length_map] at T0
  refine ⟨T0.mem, fun i h t => T0.obj i h t.1, fun i h h' t k => ⟨T0.keep i h h' t.1 k, t.2⟩, ?_, ?_, fun A i s Q E t q => T0.self A i s Q E t.1 q⟩
  · rintro X rfl rfl rfl hc i pins s σ H E I hfp ⟨ht, hle⟩ ⟨hgo, hi⟩
    obtain ⟨sys, es', ep', g1, g2, g3, g4, g5⟩ := raw_of I hgo
    rw [hd] at g3
    cases g3
    obtain ⟨f1, f2, f3, f4, f5, f6⟩ := hfp it (List.mem_singleton.mpr rfl)
    have ne : d ≠ it := fun z => by rw [z, f1] at hgo; cases hgo
    have W := Walks.rawKeys (prog := X.prog) (w := X.w) (A := X.A) (I.ok.hd hc) it d ne es ep
    rw [← g4] at ht
    refine W.item i s _ E (by rw [g4]; exact hi) ⟨ht, o, g1, g2, hd⟩ (fun v h' tk hv st hk => ?_)
    obtain ⟨hs, rfl⟩ := hv
    refine ⟨_, rfl, letGo_keyiter st.1 ?_⟩
    have hx : xs[i]? = some xs[i] := List.getElem?_eq_getElem hi
    have ek : es[i].key = Value.ref xs[i].2.1 := by
      have e1 : es.toList[i]? = some es[i] := by simp [hs]
      rw [g5, List.getElem?_map, List.getElem?_map, hx] at e1
      have := Option.some.inj e1
      rw [← this]
      rfl
    rw [ek]
    rw [g4] at st
    refine ⟨.ref xs[i].2.1, H, I.turned (it := it) (fun b u hb hu => hk b u (by simpa using hb) hu) f1 f2 f4 f5 f6, rfl, ⟨rfl, _, hx, rfl⟩, ⟨st.1, by omega⟩, fun b hb => by rw [List.mem_singleton.mp hb]; exact f1⟩
  · rintro X rfl rfl rfl hc i pins s σ H E I hfp ⟨ht, hle⟩ ⟨hgo, hi⟩
    obtain ⟨sys, es', ep', g1, g2, g3, g4, g5⟩ := raw_of I hgo
    rw [hd] at g3
    cases g3
    obtain ⟨f1, f2, f3, f4, f5, f6⟩ := hfp it (List.mem_singleton.mpr rfl)
    have ne : d ≠ it := fun z => by rw [z, f1] at hgo; cases hgo
    have W := Walks.rawKeys (prog := X.prog) (w := X.w) (A := X.A) (I.ok.hd hc) it d ne es ep
    obtain rfl : i = xs.length := by omega
    rw [← g4] at ht
    refine W.done s _ E ⟨ht, o, g1, g2, hd⟩ (fun h' tk hk => ⟨rfl, ?_⟩)
    exact I.turned (it := it) (fun b u hb hu => hk b u (by simpa using hb) hu) f1 f2 f4 f5 f6
def iKeysN (X : Cx) (td : TE) : L2.TI := fun σ H R => td σ H fun x H1 => ∃ (d : Addr) (o : Obj) (xs : List Ent), x = .ref d ∧ H1 d = some (.frz o (.ext (phi X.prog X.w d xs))) ∧ R (Itn X.prog X.w d o xs) H1
theorem pi_keysN {X : Cx} {tg e : Expr} {td : TE} (he : PE X e td) : PI X tg e (iKeysN X td) := by
  refine ⟨fun pins s σ H R I h => ?_⟩
  refine thn (he.run pins s σ H _ I h) fun v s1 ⟨x, H1, I1, rx, d, o, xs, ex, hd, r⟩ => ?_
  subst ex
  cases rx
  obtain ⟨sys, es, ep, g1, g2, g3, g4, g5⟩ := raw_of I1 hd
  refine wpAny_pyIter_dict_raw sys ⟨o, g1, g2, g3⟩ ?_
  refine pi_one I1 (tk := s1.toks) _ (turn_N _ g3) ?_ r
  exact ⟨⟨_, Heap.get?_push_size _ rfl, rfl, by rw [g4]; rfl⟩, Nat.zero_le _⟩
end Sk

namespace Sk
open PySem PySem.Spec PyProof.Rows L2 Ow
theorem vv1 {x y : V} {vs : List (Value × Value)} (h : VV [(x, y)] vs) : ∃ u w, vs = [(u, w)] ∧ RelV x u ∧ RelV y w := by
  cases h with
  | cons hx hr =>
    cases hr
    exact ⟨_, _, rfl, hx.1, hx.2⟩
/-- {k: v} -/
def tDisp1N (X : Cx) (tk tv : TE) : TE := fun σ H Q => ∀ p, H p = none → tk σ (upd H p (.ext (phi X.prog X.w p []))) fun x H1 => tv σ H1 fun y H2 => ∃ (a b : Addr) (st : Ste), [(x, y)] = [(V.ref a, V.ref b)] ∧ BsAt X.K H2 (.ref a) st ∧ H2 p = some (.ext (phi X.prog X.w p [])) ∧ Q (.ref p) (upd H2 p (.ext (phi X.prog X.w p [(st, a, b)])))
theorem pe_disp1N {X : Cx} {k v : Expr} {tk tv : TE} {pos : Pos} (hu : X.A.units + 65 < cLine) (hk : PE X k tk) (hv : PE X v tv) : PE X (.Dict [some k] [v] pos) (tDisp1N X tk tv) := by
  refine ⟨fun pins s σ H Q I h => ?_⟩
  rw [arm_eval_Dict]
  have hz : ((evalEachOpt [some k] X.env).zip (List.map (fun v => do let x ← v; standAt pos; pure x) (evalEach [v] X.env))) = List.map (fun p : Sem Value × Sem Value => (some p.1, p.2)) (pairTrees [some k] [v] X.env pos) := by rfl
  rw [hz, dictDisplay_pairs (pairTrees [some k] [v] X.env pos) (by intro z; cases z) (show 1 < 17 by decide)]
  have fr := I.fresh
  have big := I.big
  have sys : (s.heap.objs.size == sysModules) = false := by
    rw [beq_eq_false_iff_ne]
    exact Nat.ne_of_gt big
  refine wpAny_bind (wpAny_standAt ?_)
  refine wpAny_bind (wpAny_subDictH (knd := nestedKind X.prog X.w) (show X.A.units + 8 < cLine by omega) (show 1 ≤ 15 by decide) ?_)
  have I1 := I.laid (t' := s.toks) (h' := s.heap.push { cls := .type "dict", data := .dict #[] }) (o := .ext (phi X.prog X.w s.heap.objs.size [])) (fun b u e => Heap.get?_push_of_some _ e) (Nat.le_refl _) (phi_ok ⟨sys, Nat.zero_le _, List.nodup_nil, _, #[], 0, Heap.get?_push_size _ rfl, ⟨rfl, rfl, rfl⟩, rfl, rfl⟩)
  refine thn ((pps_cons hk hv pps_nil : PPs X pos [some k] [v] [(tk, tv)]).run pins _ σ _ (fun ps H2 => ∃ (a b : Addr) (st : Ste), ps = [(V.ref a, V.ref b)] ∧ BsAt X.K H2 (.ref a) st ∧ H2 s.heap.objs.size = some (.ext (phi X.prog X.w s.heap.objs.size [])) ∧ Q (.ref s.heap.objs.size) (upd H2 s.heap.objs.size (.ext (phi X.prog X.w s.heap.objs.size [(st, a, b)])))) I1 (h _ fr)) fun vs s1 ⟨ps, H2, I2, vv, a, b, st, e, hb, hp, q⟩ => ?_
  subst e
  obtain ⟨kv, v2, rfl, r1, r2⟩ := vv1 vv
  cases r1
  cases r2
  have D : DN X H2 s.heap.objs.size [] := ⟨.inl hp, fun x hx => by cases hx⟩
  refine ⟨[(nk st, a, .ref b)], ⟨rfl, rfl, nk_is I2 hb, trivial⟩, D.of I2, fun h' tk D' sb => ?_⟩
  have e : storedAllH [] [(nk st, a, Value.ref b)] = [(st, a, b)].map raw := rfl
  rw [e] at D'
  obtain ⟨o, es, ep, e1, e2, e3, e4, e5, e6⟩ := D'
  refine wpAny_pure ?_
  exact ⟨.ref s.heap.objs.size, _, I2.write (x := s.heap.objs.size) (e := s.heap.objs.size) (o := .ext (phi X.prog X.w s.heap.objs.size [(st, a, b)])) (by rw [hp]; trivial) (.inl rfl) (fun c u hc hg => by rw [sb.2 c hc]; exact hg) ⟨o, e1⟩ (phi_ok ⟨sys, by show 1 ≤ sizeLine; decide, e6, o, es, ep, e1, e2, e3, e4⟩), rfl, q⟩
end Sk

namespace Sk
open PySem PySem.Spec PyProof.Rows L2 Ow
theorem ck_sorted (v : Value) : checkBuiltinCall "sorted" { pos := [v] } = pure () := by
  have h := PyProof.Rows.args_sorted1 v
  unfold checkBuiltinCall
  have e : splitId "sorted" = none := by decide +kernel
  rw [e]
  exact h
theorem pl_sorted : plainId "sorted" = true := by decide +kernel
theorem perm_lift {α β : Type} {f : α → β} {l n : List β} (h : l.Perm n) : ∀ {m : List α}, n = m.map f → ∃ m' : List α, m'.Perm m ∧ l = m'.map f := by
  induction h with
  | nil =>
    intro m e
    cases m with
    | nil => exact ⟨[], .refl _, rfl⟩
    | cons => cases e
  | cons x _ ih =>
    intro m e
    cases m with
    | nil => cases e
    | cons a m =>
      injection e with e1 e2
      obtain ⟨m', p, e3⟩ := ih e2
      exact ⟨a :: m', p.cons a, by rw [List.map_cons, e1, e3]⟩
  | swap x y l =>
    intro m e
    cases m with
    | nil => cases e
    | cons a m =>
      cases m with
      | nil => cases e
      | cons b m =>
        injection e with e1 e2
        injection e2 with e2 e3
        exact ⟨b :: a :: m, .swap a b m, by rw [List.map_cons, List.map_cons, e1, e2, e3]⟩
  | trans _ _ ih1 ih2 =>
    intro m e
    obtain ⟨m2, p2, e2⟩ := ih2 e
    obtain ⟨m1, p1, e1⟩ := ih1 e2
    exact ⟨m1, p1.trans p2, e1⟩
theorem vals_refs {α : Type} (f : α → Addr) : ∀ l : List α, Vals (l.map fun p => V.ref (f p)) (l.map fun p => Value.ref (f p))
  | [] => .nil
  | p :: l => .cons rfl (vals_refs f l)
theorem A2.of_map {α β : Type} {R : V → β → Prop} (f : α → V) (g : α → β) : ∀ {l : List α}, (∀ p ∈ l, R (f p) (g p)) → A2 R (l.map f) (l.map g)
  | [], _ => trivial
  | p :: l, h => ⟨h p (by simp), A2.of_map f g fun q m => h q (by simp [m])⟩
/-- d.values(): a view -/
def viewO (r d : Addr) : HO := .ext fun h => h.IsValuesView r d
theorem view_ok {P : Program} {w : World} {H : Hp} {r d : Addr} {h : Heap} (v : h.IsValuesView r d) : ObjOk P w H h r (viewO r d) :=
  ⟨v, v.elim fun o z => ⟨o, z.1⟩, fun _ _ ⟨o, z1, z2⟩ k => ⟨o, k o z1, z2⟩⟩
def tValsN (X : Cx) (td : TE) : TE := fun σ H Q => td σ H fun x H1 => ∃ (d : Addr) (xs : List Ent), x = .ref d ∧ DN X H1 d xs ∧ ∀ r, H1 r = none → Q (.ref r) (upd H1 r (viewO r d))
theorem pe_valuesN {X : Cx} {o : Expr} {to : TE} {apos cpos : Pos} (ho : PE X o to)
    (h1 : attributeBase o "values" X.env (eval o X.env) = eval o X.env := by rfl) (h3 : (apos.endLine == cpos.line) = true := by rfl) : PE X (.Call (.Attribute o "values" apos) [] [] cpos) (tValsN X to) := by
  refine ⟨fun pins s σ H Q I h => ?_⟩
  refine wpAny_Call_method_late h1 (by rfl) h3 rfl (thn (ho.run pins s σ H _ I h) fun v s1 ⟨x, H1, I1, r1, d, xs, ex, hd, q⟩ => ?_)
  subst ex
  cases r1
  have D := hd.of I1
  obtain ⟨sys, _, _, ob, es, ep, g1, g2, g3, g4⟩ := hd.phi I1
  refine ⟨"dict", "dict.values", PySem.F.plainAttrs_dict, F.slot_dict_values, F.type_dict_values, D.typeIs, fun b eb => ?_, ?_⟩
  · cases eb
    exact ⟨ob, g1, g2.2.1⟩
  · refine Calls.callWith_builtin (by rfl) ?_
    show wpAny _ _ (evalArgs (Value.builtin "dict.values") true [] []) _ _ _
    refine PySem.evalArgs_none ?_
    refine call_meetsIn F.slot_dict_values D.typeIs F.entry_dict_values (F.args_dict_values_1 _) (meets_dict_values_raw d sys) ⟨⟨es, ep, ob, g1, g2, g3⟩, ?_⟩
    have fr := I1.fresh
    refine ⟨.ref s1.heap.objs.size, _, I1.laid (t' := s1.toks) (o := viewO s1.heap.objs.size d) (fun b u e => Heap.get?_push_of_some _ e) (Nat.le_refl _) ?_, rfl, q _ fr⟩
    exact view_ok ⟨_, Heap.get?_push_size _ rfl, rfl, rfl⟩
/-- sorted(view) -/
def rSortV (X : Cx) : List V → Hp → VK → Prop := fun vs H Q => ∃ (r d : Addr) (xs : List Ent) (n : Nat) (B : Int) (us : List (List Int)), vs = [.ref r] ∧ H r = some (viewO r d) ∧ DN X H d xs ∧ A2 (TI X.K H) (xs.map fun e => .ref e.2.2) us ∧ xs.length < 64 ∧ (2 ≤ xs.length → 1 ≤ n ∧ ∀ u ∈ us, u.length = n ∧ TS.Bd B u) ∧
  ∀ (p : Addr) (ys : List V) (zs : List (List Int)), H p = none → zs.Perm us → (2 ≤ xs.length → zs.Pairwise fun a b => TS.code B a ≤ TS.code B b) → A2 (TI X.K H) ys zs → Q (.ref p) (upd H p (.lst ys))
theorem cr_sortV {X : Cx} (hc : X.calm = true) : CallR X (.builtin "sorted") (rSortV X) := by
  intro pins s σ H vs us Q I rs h
  obtain ⟨r, d, xs, n, B, ws, rfl, hr, hd, hw, hz, hB, q⟩ := h
  obtain ⟨v, rfl, rv⟩ := vals1 rs
  cases rv
  have hv : s.heap.IsValuesView r d := (I.hok _ _ hr).1
  obtain ⟨sys, _, _, o, es, ep, g1, g2, g3, g4⟩ := hd.phi I
  have ez : es.size = xs.length := by
    have := congrArg List.length g4
    simpa using this
  refine PyProof.Rows.call_builtin_at pl_sorted PyProof.Rows.entry_sorted (ck_sorted _) (PyProof.Rows.wpAt_of_any ?_)
  refine wpAny_bind (wpAny_pure ?_)
  refine wpAny_bind (PySem.W.kdu_collect (A := X.A.in1) (KdlSrc.rawValues (d := d) (r := r) (es := es) (ep := ep)) (show X.A.handled = none from I.ok.hd hc) ⟨hv, o, g1, g2, g3⟩ (by rw [ez]; exact Nat.le_trans (Nat.le_of_lt hz) (by decide)) (fun h' tk acc hk hit => ?_))
  have I1 := I.kept (t' := tk) hk
  have eacc : acc.toList = xs.map fun e : Ent => Value.ref e.2.2 := by
    refine List.ext_getElem? fun i => ?_
    obtain ⟨a1, a2⟩ := hit
    by_cases hi : i < xs.length
    · have hia : i < acc.size := by omega
      have e1 : acc[i]? = some acc[i] := by simp [hia]
      obtain ⟨hs, hv2⟩ := a2 i _ e1
      have e2 : es.toList[i]? = some es[i] := by simp [hs]
      rw [g4, List.getElem?_map, List.getElem?_map, List.getElem?_eq_getElem hi] at e2
      have e3 := Option.some.inj e2
      have e4 : acc.toList[i]? = some acc[i] := by simp [hia]
      rw [e4, hv2, ← e3, List.getElem?_map, List.getElem?_eq_getElem hi]
      rfl
    · rw [List.getElem?_eq_none (by simp; omega), List.getElem?_eq_none (by simp; omega)]
  rw [eacc]
  refine wpAny_bind (wpAny_newList ?_ (by rw [List.length_map]; exact Nat.le_trans (Nat.le_of_lt hz) (by decide)))
  have fresh := I1.fresh
  generalize hvs : (xs.map fun e : Ent => Value.ref e.2.2) = vv at *
  have vl : vv.length = xs.length := by rw [← hvs, List.length_map]
  have wl := hw.len
  rw [List.length_map] at wl
  -- pairs of where a value stands and what it reads
  have hp : vv = (xs.zip ws).map fun p => Value.ref p.1.2.2 := by
    rw [← hvs]
    refine List.ext_getElem? fun i => ?_
    rw [List.getElem?_map, List.getElem?_map]
    by_cases hi : i < xs.length
    · rw [List.getElem?_eq_getElem hi, List.getElem?_eq_getElem (by rw [List.length_zip]; omega), List.getElem_zip]
      rfl
    · rw [List.getElem?_eq_none (by omega), List.getElem?_eq_none (by rw [List.length_zip]; omega)]
      rfl
  have hq : ∀ p ∈ xs.zip ws, TI X.K H (.ref p.1.2.2) p.2 := by
    intro p hp
    obtain ⟨i, hi, rfl⟩ := List.mem_iff_getElem.mp hp
    rw [List.length_zip] at hi
    rw [List.getElem_zip]
    obtain ⟨u, eu, tu⟩ := hw.get (i := i) (x := .ref xs[i].2.2) (by rw [List.getElem?_map, List.getElem?_eq_getElem (by omega)]; rfl)
    rw [List.getElem?_eq_getElem (by omega)] at eu
    cases eu
    exact tu
  have fin : ∀ out : List Value, out.Perm vv → (2 ≤ xs.length → out.Pairwise fun u v => TS.code B (TS.intsOf (h'.push { cls := .type "list", data := .seq vv.toArray }) u) ≤ TS.code B (TS.intsOf (h'.push { cls := .type "list", data := .seq vv.toArray }) v)) →
      EP X pins σ Q (.ref h'.objs.size) { heap := PyProof.Rows.sortedHeap (h'.push { cls := .type "list", data := .seq vv.toArray }) h'.objs.size vv out.toArray, gens := s.gens, drawn := s.drawn, toks := tk, os := s.os } := by
    intro out po ho
    rw [hp] at po
    obtain ⟨pr, pp, eo⟩ := perm_lift po rfl
    subst eo
    have hg : (h'.push { cls := .type "list", data := .seq vv.toArray }).get? h'.objs.size = some (PyProof.Rows.seqObj "list" vv.toArray 0) := Heap.get?_push_size _ rfl
    obtain ⟨e0, he⟩ := PyProof.Rows.sortedHeap_at (out := (pr.map fun p => Value.ref p.1.2.2).toArray) hg
    have vals : Vals (pr.map fun p => V.ref p.1.2.2) (pr.map fun p => Value.ref p.1.2.2) := vals_refs (fun p : Ent × List Int => p.1.2.2) pr
    have prl : pr.length = xs.length := by rw [pp.length_eq, List.length_zip]; omega
    refine ⟨.ref h'.objs.size, _, I1.laid (t' := tk) (a := h'.objs.size) (o := .lst (pr.map fun p => V.ref p.1.2.2)) (fun b u hu => ?_) (Nat.le_refl _) ⟨?_, _, e0, vals, he⟩, rfl, q _ _ (pr.map fun p => p.2) fresh ?_ ?_ ?_⟩
    · have lt : b < h'.objs.size := Heap.lt_size hu
      rw [PyProof.Rows.sortedHeap_old (by exact Nat.ne_of_lt lt) (by rw [Heap.size_push]; exact Nat.lt_succ_of_lt lt)]
      exact Heap.get?_push_of_some _ hu
    · rw [List.length_map, prl]
      exact Nat.le_trans (Nat.le_of_lt hz) (by decide)
    · have := pp.map fun p => p.2
      rw [List.map_snd_zip (by omega)] at this
      exact this
    · intro h2
      have := ho h2
      rw [List.pairwise_map] at this ⊢
      refine this.imp_of_mem fun {a b} ha hb' z => ?_
      have ti : ∀ p ∈ pr, TS.intsOf (h'.push { cls := .type "list", data := .seq vv.toArray }) (.ref p.1.2.2) = p.2 := fun p hp => by
        obtain ⟨c, ec, qc⟩ := hq p (pp.mem_iff.mp hp)
        cases ec
        have t := tupI_raw I qc
        exact (t.keeps fun b o e _ => Heap.get?_push_of_some _ (hk b o e)).ints
      rw [ti a ha, ti b hb'] at z
      exact z
    · exact A2.of_map _ _ fun p hp => hq p (pp.mem_iff.mp hp)
  refine wpAny_bind (wpAny_holding (wpAny_call_entry F.slot_list_sort ⟨_, Heap.get?_push_size _ rfl, rfl⟩ F.entry_list_sort ?_ (F.args_list_sort_1 _)))
  have hg : (h'.push { cls := .type "list", data := .seq vv.toArray }).get? h'.objs.size = some (PyProof.Rows.seqObj "list" vv.toArray 0) := Heap.get?_push_size _ rfl
  by_cases h2 : 2 ≤ xs.length
  · refine TS.sort_tups (d := n) (B := B) hg (by rw [vl]; exact hz) (hB h2).1 (fun v hv' => ?_) (fun v => TS.code B (TS.intsOf (h'.push { cls := .type "list", data := .seq vv.toArray }) v)) (fun v _ ns t => by rw [t.ints]) (fun out po pw => ⟨_, rfl, wpAny_pure ⟨_, rfl, ?_⟩⟩)
    · rw [hp] at hv'
      obtain ⟨p, hp', rfl⟩ := List.mem_map.mp hv'
      obtain ⟨c, ec, qc⟩ := hq p hp'
      cases ec
      have t := (tupI_raw I qc).keeps (h' := h'.push { cls := .type "list", data := .seq vv.toArray }) fun b o e _ => Heap.get?_push_of_some _ (hk b o e)
      have m2 : p.2 ∈ ws := (List.of_mem_zip hp').2
      exact ⟨p.2, t, (hB h2).2 _ m2⟩
    · have := fin out.toList po fun _ => pw
      rw [Array.toArray_toList] at this
      exact this
  · refine Srt.list_sort_any hg (by rw [vl]; exact Nat.le_trans (Nat.le_of_lt hz) (by decide)) (fun h => absurd (by rw [← vl]; exact h) h2) (fun out po => ⟨_, rfl, wpAny_pure ⟨_, rfl, fin out po fun h => absurd h h2⟩⟩)
end Sk

namespace Sk
open PySem PySem.Spec PyProof.Rows L2 Ow
/-- a dict as a test -/
def rTruN (X : Cx) : V → Hp → (Bool → Hp → Prop) → Prop := fun x H Q => ∃ (d : Addr) (xs : List Ent), x = .ref d ∧ DN X H d xs ∧ Q (!xs.isEmpty) H
theorem tru_N {X : Cx} : TruR X (rTruN X) := by
  intro pins s σ H x v Q I rx h
  obtain ⟨d, xs, rfl, hd, q⟩ := h
  cases rx
  have D := hd.of I
  obtain ⟨sys, hz, _⟩ := hd.phi I
  have tl : typeLookup (.type "dict") ("__bool__" : Str) = pure none := by rfl
  unfold truthy
  refine wpAny_bind (wpAny_callSpecial?_none D.typeIs tl ?_)
  refine wpAny_bind (wpAny_specialOf D.typeIs F.slot_dict_len.lookup ?_)
  simp only [Option.isNone_some]
  refine wpAny_bind (PyProof.Rows.runValue_entry entry_len ?_)
  refine wpAny_bind (show wpAny _ _ (oneArg "len" { pos := [Value.ref d] }) _ _ _ from wpAny_pure ?_)
  refine wpAny_bind (wpAny_callSpecial?_slot D.typeIs F.slot_dict_len (len_keyed sys ⟨_, D, rfl⟩ ?_))
  have ix : ∀ (n : Int) (t : Tok), asIndex (.int n t) = pure n := fun n t => by rfl
  have ln : (pairsH (xs.map raw)).length = xs.length := by simp [pairsH]
  rw [ln]
  simp only [ix]
  have lt : ¬ ((xs.length : Nat) : Int) ≥ 2 ^ 63 := by rw [sizeLine_eq] at hz; omega
  have l0 : ¬ ((xs.length : Nat) : Int) < 0 := by omega
  refine wpAny_bind (wpAny_holding (wpAny_pure ?_))
  refine wpAny_bind (wpAny_letGo ?_)
  simp only [lt, l0, if_false]
  refine wpAny_ret_mkInt ?_
  have e : (((xs.length : Nat) : Int) != 0) = !xs.isEmpty := by
    cases xs with
    | nil => rfl
    | cons x xs =>
      rw [List.isEmpty_cons, Bool.not_false, bne_iff_ne, List.length_cons]
      omega
  refine wpAny_pure ⟨H, I.tok _, ?_⟩
  rw [e]
  exact q
end Sk

namespace Sk
open PySem L2 Ow
/-! what survives a change of a dict -/
def IsE (u : HO) : Prop := (∃ φ, u = .ext φ) ∨ ∃ o φ, u = .frz o (.ext φ)
section
variable {K : PySem.W.Frag} {D : Addr} {H H' : Hp} {u : HO}
theorem offE_sq {a : Addr} {xs : List V} (o : Off D H H') (hD : H D = some u) (e : IsE u) (h : SqT K H a xs) : SqT K H' a xs := by
  have ne : ∀ z, H a = some z → (∀ φ, z ≠ .ext φ) → (∀ o φ, z ≠ .frz o (.ext φ)) → a ≠ D := fun z hz n1 n2 w => by
    rw [w, hD] at hz
    rcases e with ⟨φ, rfl⟩ | ⟨o, φ, rfl⟩
    · exact n1 φ (Option.some.inj hz).symm
    · exact n2 o φ (Option.some.inj hz).symm
  rcases h with (h | ⟨f, h⟩) | h
  · exact .inl (.inl (o a _ (ne _ h (fun _ z => nomatch z) (fun _ _ z => nomatch z)) h))
  · exact .inl (.inr ⟨f, o a _ (ne _ h (fun _ z => nomatch z) (fun _ _ z => nomatch z)) h⟩)
  · exact .inr h
theorem offE_ti {v : V} {ns : List Int} (o : Off D H H') (hD : H D = some u) (e : IsE u) (h : TI K H v ns) : TI K H' v ns := h.elim fun a ⟨z, q⟩ => ⟨a, z, offE_sq o hD e q⟩
theorem offE_tis (o : Off D H H') (hD : H D = some u) (e : IsE u) : ∀ {xs : List V} {ns : List (List Int)}, TIs K H xs ns → TIs K H' xs ns
  | [], [], _ => trivial
  | _ :: _, _ :: _, h => ⟨offE_ti o hD e h.1, offE_tis o hD e h.2⟩
theorem offE_bs {v : V} {bs : List (List Int)} (o : Off D H H') (hD : H D = some u) (e : IsE u) (h : BsAt K H v bs) : BsAt K H' v bs := h.elim fun a ⟨xs, z, q, t⟩ => ⟨a, xs, z, offE_sq o hD e q, offE_tis o hD e t⟩
theorem offE_lk {v : V} {lk : List (List (List Int))} (o : Off D H H') (hD : H D = some u) (e : IsE u) (h : LkAt K H v lk) : LkAt K H' v lk := h.elim fun a ⟨xs, z, q, t⟩ => ⟨a, xs, z, offE_sq o hD e q, t.imp fun _ _ w => offE_bs o hD e w⟩
end
/-! levels: states and their words -/
abbrev Lv := List (Ste × List Int)
def DV (K : PySem.W.Frag) (H : Hp) : List Ent → Lv → Prop
  | [], [] => True
  | x :: xs, p :: ps => (x.1 = p.1 ∧ BsAt K H (.ref x.2.1) x.1 ∧ TI K H (.ref x.2.2) p.2) ∧ DV K H xs ps
  | _, _ => False
theorem DV.imp {K : PySem.W.Frag} {H H' : Hp} (f : ∀ v b, BsAt K H v b → BsAt K H' v b) (g : ∀ v b, TI K H v b → TI K H' v b) : ∀ {xs : List Ent} {ps : Lv}, DV K H xs ps → DV K H' xs ps
  | [], [], _ => trivial
  | _ :: _, _ :: _, h => ⟨⟨h.1.1, f _ _ h.1.2.1, g _ _ h.1.2.2⟩, DV.imp f g h.2⟩
theorem DV.same {K : PySem.W.Frag} {H H' : Hp} {xs : List Ent} {ps : Lv} (h : DV K H xs ps) (s : Same H H') : DV K H' xs ps := h.imp (fun _ _ z => z.same s) (fun _ _ z => z.same s)
theorem DV.off {K : PySem.W.Frag} {D : Addr} {u : HO} {H H' : Hp} {xs : List Ent} {ps : Lv} (h : DV K H xs ps) (o : Off D H H') (hD : H D = some u) (e : IsE u) : DV K H' xs ps := h.imp (fun _ _ z => offE_bs o hD e z) (fun _ _ z => offE_ti o hD e z)
theorem DV.len {K : PySem.W.Frag} {H : Hp} : ∀ {xs : List Ent} {ps : Lv}, DV K H xs ps → xs.length = ps.length
  | [], [], _ => rfl
  | _ :: _, _ :: _, h => congrArg Nat.succ (DV.len h.2)
theorem DV.get {K : PySem.W.Frag} {H : Hp} : ∀ {xs : List Ent} {ps : Lv} {i : Nat} {x : Ent}, DV K H xs ps → xs[i]? = some x → ∃ p, ps[i]? = some p ∧ x.1 = p.1 ∧ BsAt K H (.ref x.2.1) x.1 ∧ TI K H (.ref x.2.2) p.2
  | x :: xs, n :: ns, 0, y, h, e => ⟨n, rfl, (show x = y by simpa using e) ▸ h.1⟩
  | x :: xs, n :: ns, i + 1, y, h, e => (DV.get (xs := xs) (ps := ns) (i := i) h.2 (by simpa using e)).elim fun m z => ⟨m, by simpa using z.1, z.2⟩
  | [], [], i, y, _, e => by simp at e
theorem DV.at_ {K : PySem.W.Frag} {H : Hp} : ∀ {xs : List Ent} {ps : Lv} {p : Ste × List Int}, DV K H xs ps → p ∈ ps → ∃ x ∈ xs, x.1 = p.1 ∧ TI K H (.ref x.2.2) p.2
  | x :: xs, n :: ns, p, h, e => by
    rcases List.mem_cons.mp e with rfl | e
    · exact ⟨x, by simp, h.1.1, h.1.2.2⟩
    · obtain ⟨y, hy, z⟩ := DV.at_ h.2 e
      exact ⟨y, by simp [hy], z⟩
  | [], [], p, _, e => by cases e
theorem DV.snoc {K : PySem.W.Frag} {H : Hp} : ∀ {xs : List Ent} {ps : Lv} {x : Ent} {p : Ste × List Int}, DV K H xs ps → (x.1 = p.1 ∧ BsAt K H (.ref x.2.1) x.1 ∧ TI K H (.ref x.2.2) p.2) → DV K H (xs ++ [x]) (ps ++ [p])
  | [], [], _, _, _, h => ⟨h, trivial⟩
  | _ :: _, _ :: _, _, _, h, k => ⟨h.1, DV.snoc h.2 k⟩
theorem DV.key {K : PySem.W.Frag} {H : Hp} : ∀ {xs : List Ent} {ps : Lv}, DV K H xs ps → ∀ {x}, x ∈ xs → ∃ p ∈ ps, x.1 = p.1
  | x :: xs, n :: ns, h, y, m => by
    rcases List.mem_cons.mp m with rfl | m
    · exact ⟨n, by simp, h.1.1⟩
    · obtain ⟨p, hp, e⟩ := DV.key h.2 m
      exact ⟨p, by simp [hp], e⟩
  | [], [], _, _, m => by cases m
theorem DV.bs {K : PySem.W.Frag} {H : Hp} : ∀ {xs : List Ent} {ps : Lv}, DV K H xs ps → ∀ x ∈ xs, BsAt K H (.ref x.2.1) x.1
  | x :: xs, n :: ns, h, y, m => by
    rcases List.mem_cons.mp m with rfl | m
    · exact h.1.2.1
    · exact DV.bs h.2 y m
  | [], [], _, _, m => by cases m
theorem DV.words {K : PySem.W.Frag} {H : Hp} : ∀ {xs : List Ent} {ps : Lv}, DV K H xs ps → A2 (TI K H) (xs.map fun e => .ref e.2.2) (ps.map (·.2))
  | [], [], _ => trivial
  | _ :: _, _ :: _, h => ⟨h.1.2.2, DV.words h.2⟩
/-- one letter at one state -/
def stepO (lk : List (List (List Int))) (lv : Lv) (st : Ste) (f : Option Lv) (l : Int) : Option Lv := f.bind fun f =>
  if bel (st.getD l.toNat []) then some f else
    let lg := putA lk st l
    if f.any (fun p => p.1 == lg) then some f else
      match lefts lg with
      | [] => none
      | m :: _ => match lv.find? (fun p => p.1 == putA lk lg m) with
        | none => none
        | some p => some (f ++ [(lg, m :: p.2)])
def nextO (lk : List (List (List Int))) (n : Nat) (lv : Lv) : Option Lv := lv.foldl (fun f p => (upto (n : Nat)).foldl (stepO lk lv p.1) f) (some [])
def fineL (lk : List (List (List Int))) (n : Nat) (lv : Lv) : Prop := ∀ p ∈ lv, StOk n p.1 ∧ Fine p.1 ∧ p.2.length ≤ 100 ∧ ∀ l : Int, 0 ≤ l → l < n → Fine (putA lk p.1 l)
end Sk

namespace Sk
open PySem L2 Ow
theorem step_none (lk : List (List (List Int))) (lv : Lv) (st : Ste) : ∀ ls : List Int, ls.foldl (stepO lk lv st) none = none
  | [] => rfl
  | _ :: ls => step_none lk lv st ls
theorem next_none (lk : List (List (List Int))) (n : Nat) (lv : Lv) : ∀ ps : Lv, ps.foldl (fun f p => (upto (n : Nat)).foldl (stepO lk lv p.1) f) none = none
  | [] => rfl
  | p :: ps => by rw [List.foldl_cons, step_none]; exact next_none lk n lv ps
def spNext (K : PySem.W.Frag) (P : Program) (w : World) : Sp := fun vs H Q _ => ∃ (kv : V) (d la : Addr) (n : Nat) (lk : List (List (List Int))) (xs : List Ent) (lv out : Lv), vs = [kv, .ref d, .ref la] ∧ LkAt K H kv lk ∧ LkOk n lk ∧ n ≤ 4 ∧
  H d = some (.ext (phi P w d xs)) ∧ DV K H xs lv ∧ H la = some (.lst ((upto (n : Nat)).map V.int)) ∧ fineL lk n lv ∧ nextO lk n lv = some out ∧ lv.length ≤ 100 ∧
  ∀ (r : Addr) (ys : List Ent) (H' : Hp), Same H H' → H r = none → H' r = some (.ext (phi P w r ys)) → DV K H' ys out → Q (.ref r) H'
section
variable {P : Program} {w : World} {K : PySem.W.Frag} {mg : Str → Option Value} {base : Heap} {C : Addr}
theorem cal_next_level_by (T : Txt K mg C) : Cal P w K mg base "next_level_by" 4 (spNext K P w) := by
  refine T.d_next_level_by.cal (ps := ["links", "level", "letters"]) (fun f fd D => ?_) (fun _ _ _ _ _ _ us hl => match us, hl with | [_, _, _], _ => rfl)
  refine D.ok sc_next_level_by (fun vs H Q E h => ?_) (fun cdv A outer s H vs Q E hr h => ?_)
  · obtain ⟨_, _, _, _, _, _, _, _, rfl, _⟩ := h
    rfl
  · obtain ⟨kv, d, la, n, lk, xs, lv, out, rfl, hlk, hok, n4, hd, hv, hla, fine, hout, lvl, k⟩ := h
    refine ⟨_, (pss_cons (ps_set (i := 3) sc_next_level_by.nd rfl (Or.inl rfl) pe_dnewN)
      (pss_cons (ps_lock (ps_for PassesOwn.never rfl (pi_keysN (pv 1)) (pg_name (i := 4) sc_next_level_by.nd rfl (Or.inl rfl)) (pss_one (ps_for PassesOwn.never rfl (pi_list (pv 2)) (pg_name (i := 5) sc_next_level_by.nd rfl (Or.inl rfl)) (pss_one (ps_if (pt_not (pt_val (pe_cal (cal_is_below T) (hr.mono (by decide)) (by rfl) (pa_cons (pe_ix ix_tup (pv 4) (pv 5) (fun _ _ => rfl)) pa_nil)))) (pss_cons (ps_set (i := 6) sc_next_level_by.nd rfl (Or.inl rfl) (pe_cal (cal_put_ahead T) (hr.mono (by decide)) (by rfl) (pa_cons (pv 0) (pa_cons (pv 4) (pa_cons (pv 5) pa_nil)))))
      (pss_one (ps_if (pt_cmpR (op_notInN (u65 hr)) (pv 6) (pv 3) (by rfl)) (pss_cons (ps_set (i := 7) sc_next_level_by.nd rfl (Or.inl rfl) (pe_ix ix_list (pe_cal (cal_left_of T) (hr.mono (by decide)) (by rfl) (pa_cons (pv 6) pa_nil)) pe_int (fun _ _ => rfl)))
      (pss_cons (ps_set (i := 8) sc_next_level_by.nd rfl (Or.inl rfl) (pe_ix (ix_N (u65 hr)) (pv 1) (pe_cal (cal_put_ahead T) (hr.mono (by decide)) (by rfl) (pa_cons (pv 0) (pa_cons (pv 6) (pa_cons (pv 7) pa_nil)))) (fun _ _ => rfl)))
      (pss_one (ps_asg (pe_tup (pa_cons (pv 7) (StX.pa_star (pv 8) pa_nil))) (pg_sub (pv 3) (pv 6) (set_N (u65 hr))))))) pss_nil))) pss_nil))))))
      (pss_one (ps_ret (pv 3))))), ?_⟩
    intro D nD
    have sD := same_new (o := .ext (phi P w D [])) nD
    have ne : d ≠ D := ne_of_none hd nD
    have nela : la ≠ D := ne_of_none hla nD
    have dla : la ≠ d := fun z => by rw [z, hd] at hla; cases hla
    refine ⟨d, _, sD _ _ hd, trivial, fun od => ?_⟩
    have hdu : ∀ {H' : Hp}, Off d H H' → ∀ {v b}, BsAt K H v b → BsAt K H' v b := fun o _ _ z => offE_bs o hd (.inl ⟨_, rfl⟩) z
    have lvx := hv.len
    refine ⟨_, rfl, d, od, xs, rfl, upd_same, for_it walk_N (fun i σ H' => (∃ v4 v5 v6 v7 v8 : Option V, σ = [some kv, some (.ref d), some (.ref la), some (.ref D), v4, v5, v6, v7, v8]) ∧ Off d H H' ∧ H' d = some (.frz od (.ext (phi P w d xs))) ∧ ∃ ys f, H' D = some (.ext (phi P w D ys)) ∧ DV K H' ys f ∧ f.length ≤ 4 * i ∧ (lv.drop i).foldl (fun f p => (upto (n : Nat)).foldl (stepO lk lv p.1) f) (some f) = some out) ⟨⟨_, _, _, _, _, rfl⟩, ?_, upd_same, [], [], ?_, trivial, Nat.zero_le _, hout⟩ (fun i σ H' _ h => h.2.2.1) ?_ ?_⟩
    · exact (Off.of_same sD).trans off_upd
    · rw [upd_ne ne.symm]
      exact upd_same
    · rintro i y σ H2 H3 hi ⟨⟨v4, v5, v6, v7, v8, rfl⟩, o2, hd2, ys, f, hD, hy, fl, ho⟩ ⟨rfl, e, ee, rfl⟩
      obtain ⟨p, ep, ek, eb, ew⟩ := (hv.off o2 hd (.inl ⟨_, rfl⟩)).get ee
      have pin : p ∈ lv := List.mem_of_getElem? ep
      obtain ⟨pok, pfine, plen, pput⟩ := fine p pin
      obtain ⟨il, _⟩ := List.getElem?_eq_some_iff.mp ep
      rw [List.drop_eq_getElem_cons il, List.foldl_cons, (List.getElem?_eq_some_iff.mp ep).2] at ho
      obtain ⟨st, kd, wd⟩ := e
      dsimp only at ek eb ew
      subst ek
      have lul : ((upto (n : Nat)).map V.int).length = n := by rw [List.length_map, upto_length]; omega
      refine ⟨_, rfl, la, rfl, ⟨_, .of (o2 _ _ dla hla)⟩, for_list (K := K) (a := la) (xs := (upto (n : Nat)).map V.int) (fun j σ H' => (∃ v5 v6 v7 v8 : Option V, σ = [some kv, some (.ref d), some (.ref la), some (.ref D), some (.ref kd), v5, v6, v7, v8]) ∧ Off d H H' ∧ H' d = some (.frz od (.ext (phi P w d xs))) ∧ ∃ ys f, H' D = some (.ext (phi P w D ys)) ∧ DV K H' ys f ∧ f.length ≤ 4 * i + j ∧ (lv.drop (i + 1)).foldl (fun f p => (upto (n : Nat)).foldl (stepO lk lv p.1) f) (((upto (n : Nat)).drop j).foldl (stepO lk lv p.1) (some f)) = some out) ⟨⟨_, _, _, _, rfl⟩, o2, hd2, ys, f, hD, hy, by omega, ho⟩ (fun j σ H' _ h => .of (h.2.1 _ _ dla hla)) ?_ ?_⟩
      · rintro j x σ H4 hj ⟨⟨v5, v6, v7, v8, rfl⟩, o4, hd4, ys, f, hD4, hy4, fl4, ho4⟩
        have jl : j < n := by
          have := (List.getElem?_eq_some_iff.mp hj).1
          omega
        have hx : x = .int (j : Nat) := by
          rw [List.getElem?_map, upto_get (by omega)] at hj
          have := (Option.some.inj hj).symm
          rw [this]
          show V.int (0 + (j : Nat)) = _
          rw [Int.zero_add]
        subst hx
        have edj : (upto (n : Nat)).drop j = ((j : Nat) : Int) :: (upto (n : Nat)).drop (j + 1) := by
          have hl : j < (upto (n : Nat)).length := by rw [upto_length]; omega
          rw [List.drop_eq_getElem_cons hl]
          have := upto_get (n := (n : Nat)) (i := j) (by omega)
          rw [List.getElem?_eq_getElem hl] at this
          rw [Option.some.inj this, Int.zero_add]
        rw [edj, List.foldl_cons] at ho4
        have stl := pok.len
        have lk4 : LkAt K H4 kv lk := offE_lk o4 hd (.inl ⟨_, rfl⟩) hlk
        obtain ⟨q0, eq0, _, kb, _⟩ := (hv.off o4 hd (.inl ⟨_, rfl⟩)).get ee
        obtain ⟨c0, gs, ec0, hgs, tgs⟩ := id kb
        cases ec0
        have hst : ∃ g, p.1[j]? = some g := ⟨_, List.getElem?_eq_getElem (by omega)⟩
        obtain ⟨g, eg⟩ := hst
        obtain ⟨gv, egv, tg⟩ := (A2.of_tis tgs).at_ eg
        obtain ⟨gw, gp, eg2⟩ := pok.two g (List.mem_of_getElem? eg)
        have gd : p.1.getD ((j : Nat) : Int).toNat [] = g := by
          rw [show ((j : Nat) : Int).toNat = j by omega, List.getD_eq_getElem?_getD, eg]
          rfl
        refine ⟨_, rfl, _, rfl, _, _, _, _, rfl, rfl, hgs, at_of (j := j) rfl egv, gv, g, rfl, tg, by rw [eg2]; rfl, pfine g (List.mem_of_getElem? eg), _, rfl, ?_⟩
        by_cases hb : bel g = true
        · have e1 : stepO lk lv p.1 (some f) ((j : Nat) : Int) = some f := by
            unfold stepO
            rw [gd]
            simp [hb]
          rw [e1] at ho4
          rw [hb]
          exact iteF ⟨⟨_, _, _, _, rfl⟩, o4, hd4, ys, f, hD4, hy4, by omega, ho4⟩
        · have hb' : bel g = false := by cases z : bel g with
            | true => exact absurd z hb
            | false => rfl
          rw [hb']
          refine iteT ?_
          have pok2 := pok.put lk ((j : Nat) : Int)
          have pf2 := pput j (by omega) (by omega)
          refine ⟨_, rfl, _, rfl, _, rfl, kv, .ref kd, ((j : Nat) : Int), n, lk, p.1, rfl, lk4, kb, hok, pok, by omega, by omega, fun v5 H5 s5 b5 => ?_⟩
          obtain ⟨ka, ks, rfl, hks, tks⟩ := id b5
          have hD5 := s5 _ _ hD4
          have hd5 := s5 _ _ hd4
          have hy5 := hy4.same s5
          have o5 := o4.trans (.of_same s5)
          refine ⟨_, rfl, _, rfl, ka, D, putA lk p.1 j, ys, rfl, rfl, b5, ⟨.inl hD5, hy5.bs⟩, fun hin => ?_, fun hno => ?_⟩
          · -- there already
            obtain ⟨en, hen, een⟩ := hin
            obtain ⟨pe, hpe, epe⟩ := hy5.key hen
            have e1 : stepO lk lv p.1 (some f) ((j : Nat) : Int) = some f := by
              unfold stepO
              rw [gd, hb']
              have : f.any (fun q => q.1 == putA lk p.1 ((j : Nat) : Int)) = true := List.any_eq_true.mpr ⟨pe, hpe, by rw [← epe, een]; exact beq_self_eq_true _⟩
              simp [this]
            rw [e1] at ho4
            exact ⟨_, rfl, iteF ⟨⟨_, _, _, _, rfl⟩, o5, hd5, ys, f, hD5, hy5, by omega, ho4⟩⟩
          · have hany : f.any (fun q => q.1 == putA lk p.1 ((j : Nat) : Int)) = false := by
              cases z : f.any (fun q => q.1 == putA lk p.1 ((j : Nat) : Int)) with
              | false => rfl
              | true =>
                obtain ⟨pe, hpe, e2⟩ := List.any_eq_true.mp z
                obtain ⟨en, hen, een, _⟩ := hy5.at_ hpe
                exact absurd (een.trans (eq_of_beq e2)) (hno en hen)
            refine ⟨_, rfl, iteT ?_⟩
            refine ⟨_, rfl, .ref ka, _, n, rfl, b5, pok2, by omega, pf2, fun a6 H6 s6 n6 ha6 => ?_⟩
            cases hlf : lefts (putA lk p.1 ((j : Nat) : Int)) with
            | nil =>
              exfalso
              have e1 : stepO lk lv p.1 (some f) ((j : Nat) : Int) = none := by
                unfold stepO
                rw [gd, hb']
                simp [hany, hlf]
              rw [e1, step_none, next_none] at ho4
              cases ho4
            | cons m ms =>
              rw [hlf] at ha6
              have hin := lefts_in pok2 (l := m) (by rw [hlf]; simp)
              refine ⟨_, _, _, _, rfl, rfl, .of ha6, at_of (j := 0) rfl rfl, ?_⟩
              have lk6 : LkAt K H6 kv lk := (lk4.same s5).same s6
              refine ⟨_, rfl, _, rfl, _, rfl, _, rfl, kv, .ref ka, m, n, lk, _, rfl, lk6, b5.same s6, hok, pok2, hin.1, hin.2, fun v7 H7 s7 b7 => ?_⟩
              obtain ⟨kb7, ks7, rfl, _, _⟩ := id b7
              have hd7 := s7 _ _ (s6 _ _ hd5)
              have o7 := o5.trans (.of_same (s6.trans s7))
              have hv7 := hv.off o7 hd (.inl ⟨_, rfl⟩)
              cases hfd : lv.find? (fun q => q.1 == putA lk (putA lk p.1 ((j : Nat) : Int)) m) with
              | none =>
                exfalso
                have e1 : stepO lk lv p.1 (some f) ((j : Nat) : Int) = none := by
                  unfold stepO
                  rw [gd, hb']
                  simp [hany, hlf, hfd]
                rw [e1, step_none, next_none] at ho4
                cases ho4
              | some pq =>
                have e1 : stepO lk lv p.1 (some f) ((j : Nat) : Int) = some (f ++ [(putA lk p.1 ((j : Nat) : Int), m :: pq.2)]) := by
                  unfold stepO
                  rw [gd, hb']
                  simp [hany, hlf, hfd]
                rw [e1] at ho4
                have pqm := List.mem_of_find?_eq_some hfd
                have pqe : pq.1 = putA lk (putA lk p.1 ((j : Nat) : Int)) m := eq_of_beq (List.find?_some (p := fun q : Ste × List Int => q.1 == putA lk (putA lk p.1 ((j : Nat) : Int)) m) hfd)
                obtain ⟨en, hen, een, ten⟩ := hv7.at_ pqm
                refine ⟨kb7, d, _, xs, en, rfl, rfl, b7, ⟨.inr ⟨_, hd7⟩, hv7.bs⟩, hen, een.trans pqe, ?_⟩
                obtain ⟨ra, era, rq⟩ := ten
                have plen2 := (fine pq pqm).2.2.1
                rw [era]
                have D7 : H7 D = some (.ext (phi P w D ys)) := s7 _ _ (s6 _ _ hD5)
                have hy7 := (hy5.same s6).same s7
                refine ⟨_, rfl, _, rfl, ra, _, rfl, .inl rq, ⟨szl (by simp only [List.length_cons, List.length_append, List.length_nil, List.length_map]; omega), fun p8 n8 => ?_⟩⟩
                have s8 := same_new (o := .tup (.int m :: (pq.2.map V.int ++ []))) n8
                have D8 := s8 _ _ D7
                have hy8 := hy7.same s8
                have b8 := ((b5.same s6).same s7).same s8
                refine ⟨_, rfl, _, rfl, ka, D, p8, putA lk p.1 ((j : Nat) : Int), ys, rfl, rfl, rfl, b8, ⟨.inl D8, hy8.bs⟩, D8, hno, ?_, ?_⟩
                · have := hy4.len
                  exact Nat.lt_of_le_of_lt (show ys.length ≤ 1000 by omega) (by decide)
                · have o8 := o7.trans (.of_same s8)
                  have oD : Off d H (upd (upd H7 p8 (.tup (.int m :: (pq.2.map V.int ++ [])))) D (.ext (phi P w D (ys ++ [(putA lk p.1 ((j : Nat) : Int), ka, p8)])))) := fun q o nq e => by
                    rw [upd_ne (ne_of_none e nD)]
                    exact o8 q o nq e
                  have offD : Off D (upd H7 p8 (.tup (.int m :: (pq.2.map V.int ++ [])))) (upd (upd H7 p8 (.tup (.int m :: (pq.2.map V.int ++ [])))) D (.ext (phi P w D (ys ++ [(putA lk p.1 ((j : Nat) : Int), ka, p8)])))) := off_upd
                  refine ⟨⟨_, _, _, _, rfl⟩, oD, ?_, ys ++ [(putA lk p.1 ((j : Nat) : Int), ka, p8)], f ++ [(putA lk p.1 ((j : Nat) : Int), m :: pq.2)], upd_same, ?_, by rw [List.length_append, List.length_singleton]; omega, ho4⟩
                  · rw [upd_ne ne]
                    exact s8 _ _ hd7
                  · have e9 : V.int m :: (pq.2.map V.int ++ []) = (m :: pq.2).map V.int := by
                      rw [List.append_nil]
                      rfl
                    have t8 : TI K (upd H7 p8 (.tup (.int m :: (pq.2.map V.int ++ [])))) (.ref p8) (m :: pq.2) := ⟨p8, rfl, by rw [← e9]; exact .of upd_same⟩
                    exact (hy8.snoc (x := (putA lk p.1 ((j : Nat) : Int), ka, p8)) (p := (putA lk p.1 ((j : Nat) : Int), m :: pq.2)) ⟨rfl, b8, t8⟩).off offD D8 (.inl ⟨_, rfl⟩)
      · rintro σ H4 ⟨⟨v5, v6, v7, v8, rfl⟩, o4, hd4, ys, f, hD4, hy4, fl4, ho4⟩
        rw [List.drop_eq_nil_of_le (by rw [lul, upto_length]; omega), List.foldl_nil] at ho4
        exact ⟨⟨_, _, _, _, _, rfl⟩, o4, hd4, ys, f, hD4, hy4, by rw [lul] at fl4; omega, ho4⟩
    · rintro σ H2 ⟨⟨v4, v5, v6, v7, v8, rfl⟩, o2, hd2, ys, f, hD, hy, fl, ho⟩
      rw [lvx, List.drop_length, List.foldl_nil] at ho
      cases ho
      refine ⟨hd2, _, rfl, k D ys _ (fun q o e => ?_) nD (by rw [upd_ne ne.symm]; exact hD) (hy.off off_upd hd2 (.inr ⟨_, _, rfl⟩))⟩
      by_cases z : q = d
      · subst z
        rw [hd] at e
        rw [upd_same]
        exact e
      · rw [upd_ne z]
        exact o2 _ _ z e
end
end Sk

namespace Sk
open PySem L2 Ow
/-- level by level, each level's words in their order -/
inductive Chain (lk : List (List (List Int))) (n : Nat) : Lv → List (List Int) → Prop
  | done : Chain lk n [] []
  | step {lv lv' : Lv} {s W : List (List Int)} {d : Nat} {B : Int} : lv ≠ [] → lv.length < 64 → fineL lk n lv → (2 ≤ lv.length → 1 ≤ d ∧ ∀ u ∈ lv.map (·.2), u.length = d ∧ TS.Bd B u) →
      (∀ zs : List (List Int), zs.Perm (lv.map (·.2)) → (2 ≤ lv.length → zs.Pairwise fun a b => TS.code B a ≤ TS.code B b) → zs = s) → nextO lk n lv = some lv' → Chain lk n lv' W → Chain lk n lv (s ++ W)
def spWordsBy (K : PySem.W.Frag) : Sp := fun vs H Q _ => ∃ (kv : V) (la : Addr) (n : Nat) (most : Int) (lk : List (List (List Int))) (W : List (List Int)), vs = [kv, .ref la, .int most] ∧ LkAt K H kv lk ∧ LkOk n lk ∧ n ≤ 4 ∧
  H la = some (.lst ((upto (n : Nat)).map V.int)) ∧ Chain lk n [(first n, [])] W ∧ ((W.length : Nat) : Int) ≤ most ∧ W.length ≤ 1000 ∧
  ∀ (g : Addr) (ys : List V) (H' : Hp), Same H H' → H g = none → H' g = some (.lst ys) → A2 (TI K H') ys W → Q (.ref g) H'
theorem A2.app {α : Type} {R : V → α → Prop} : ∀ {xs ys : List V} {a b : List α}, A2 R xs a → A2 R ys b → A2 R (xs ++ ys) (a ++ b)
  | [], _, [], _, _, k => k
  | _ :: _, _, _ :: _, _, h, k => ⟨h.1, A2.app h.2 k⟩
theorem Off.ta2 {K : PySem.W.Frag} {D : Addr} {H H' : Hp} {acc : List V} (o : Off D H H') (hD : H D = some (.lst acc)) {xs : List V} {ws : List (List Int)} (h : A2 (TI K H) xs ws) : A2 (TI K H') xs ws := h.imp fun _ _ z => o.ti hD z
section
variable {P : Program} {w : World} {K : PySem.W.Frag} {mg : Str → Option Value} {base : Heap} {C : Addr}
theorem cal_words_by (T : Txt K mg C) : Cal P w K mg base "words_by" 5 (spWordsBy K) := by
  refine T.d_words_by.cal (ps := ["links", "letters", "most"]) (fun f fd D => ?_) (fun _ _ _ _ _ _ us hl => match us, hl with | [_, _, _], _ => rfl)
  refine D.ok sc_words_by (fun vs H Q E h => ?_) (fun cdv A outer s H vs Q E hr h => ?_)
  · obtain ⟨_, _, _, _, _, _, rfl, _⟩ := h
    rfl
  · obtain ⟨kv, la, n, most, lk, W, rfl, hlk, hok, n4, hla, hch, hm, hW, k⟩ := h
    refine ⟨_, (pss_cons (ps_set (i := 3) sc_words_by.nd rfl (Or.inl rfl) (pe_disp1N (u65 hr) (pe_cal (cal_first_state T) (hr.mono (by decide)) (by rfl) (pa_cons (pv 0) pa_nil)) (pe_tup pa_nil)))
      (pss_cons (ps_set (i := 4) sc_words_by.nd rfl (Or.inl rfl) (pe_lst pa_nil))
      (pss_cons (ps_while PassesOwn.never (pt_truthR (pv 3) tru_N (fun _ => rfl)) (pss_cons (ps_expr (pe_bm PySem.F.plainAttrs_list PySem.F.slot_list_extend PySem.F.type_list_extend mt_extend (pv 4) (pa_cons (pe_callB (cr_sortV rfl) (by rfl) T.b_sorted (by decide +kernel) (pa_cons (pe_valuesN (pv 3)) pa_nil)) pa_nil)))
        (pss_cons (ps_if (pt_cmpR op_gt (pe_callB call_len_seq (by rfl) T.b_len (by decide +kernel) (pa_cons (pv 4) pa_nil)) (pv 2) (nomark _)) (pss_one (ps_ret pe_non)) pss_nil)
        (pss_one (ps_set (i := 3) sc_words_by.nd rfl (Or.inl rfl) (pe_cal (cal_next_level_by T) (hr.mono (by decide)) (by rfl) (pa_cons (pv 0) (pa_cons (pv 3) (pa_cons (pv 1) pa_nil)))))))))
      (pss_one (ps_ret (pv 4)))))), ?_⟩
    have lkl := hok.len
    have few := hok.few
    intro p0 n0
    have s0 := same_new (o := .ext (phi P w p0 [])) n0
    refine ⟨_, rfl, kv, lk, rfl, hlk.same s0, by omega, fun v1 H1 s1 b1 => ⟨Nat.zero_le _, fun t nt => ?_⟩⟩
    obtain ⟨k1, ks1, rfl, _, _⟩ := id b1
    have st := same_new (o := .tup []) nt
    have p0h := st _ _ (s1 _ _ (upd_same (H := H) (a := p0) (o := .ext (phi P w p0 []))))
    refine ⟨k1, t, first lk.length, rfl, b1.same st, p0h, Nat.zero_le _, fun g ng => ?_⟩
    have sd : Same H (upd (upd H1 t (.tup [])) p0 (.ext (phi P w p0 [(first lk.length, k1, t)]))) := same_off n0 ((s0.trans s1).trans st) off_upd
    have dv0 : DV K (upd (upd H1 t (.tup [])) p0 (.ext (phi P w p0 [(first lk.length, k1, t)]))) [(first lk.length, k1, t)] [(first n, [])] := by
      have o : Off p0 (upd H1 t (.tup [])) (upd (upd H1 t (.tup [])) p0 (.ext (phi P w p0 [(first lk.length, k1, t)]))) := off_upd
      exact ⟨⟨by rw [lkl], offE_bs o p0h (.inl ⟨_, rfl⟩) (b1.same st), offE_ti o p0h (.inl ⟨_, rfl⟩) ⟨t, rfl, .of upd_same⟩⟩, trivial⟩
    have hd0 : (upd (upd H1 t (.tup [])) p0 (.ext (phi P w p0 [(first lk.length, k1, t)]))) p0 = some (.ext (phi P w p0 [(first lk.length, k1, t)])) := upd_same
    change (upd (upd H1 t (.tup [])) p0 (.ext (phi P w p0 [(first lk.length, k1, t)]))) g = none at ng
    have gH := sd.free ng
    have sg := same_new (o := .lst []) ng
    dsimp only [gName, tSeq]
    refine while_by (fun σ H' => ∃ (ld : Addr) (xs : List Ent) (lv : Lv) (W0 W1 : List (List Int)) (ys : List V), σ = [some kv, some (.ref la), some (.int most), some (.ref ld), some (.ref g)] ∧ Same H H' ∧ H' ld = some (.ext (phi P w ld xs)) ∧ DV K H' xs lv ∧ Chain lk n lv W1 ∧ H' g = some (.lst ys) ∧ A2 (TI K H') ys W0 ∧ W0 ++ W1 = W ∧ ld ≠ g) (fun _ H' => 1000 - lenAt H' g) ?_ ?_ ?_
    · exact ⟨p0, _, _, [], W, [], rfl, sd.trans sg, sg _ _ hd0, dv0.same sg, hch, upd_same, trivial, rfl, ne_of_none hd0 ng⟩
    · rintro _ H3 ⟨ld, xs, lv, W0, W1, ys, rfl, s3, hld, hv, hc, hg, hy, rfl, nld⟩
      rw [List.length_append] at hm hW
      have yl := hy.len
      have vl := hv.len
      refine ⟨_, rfl, ld, xs, rfl, ⟨.inl hld, hv.bs⟩, ?_⟩
      cases hc with
      | done =>
        have : xs = [] := by
          cases xs with
          | nil => rfl
          | cons => exact hv.elim
        subst this
        refine iteF ⟨_, rfl, ?_⟩
        rw [List.append_nil] at k
        exact k g ys _ s3 gH hg hy
      | @step _ lv' sW W1 d B hne h64 hfine hB hun hnx hc' =>
        have xne : xs.isEmpty = false := by
          cases xs with
          | nil =>
            cases lv with
            | nil => exact absurd rfl hne
            | cons => exact hv.elim
          | cons => rfl
        rw [xne]
        refine iteT ?_
        refine ⟨_, rfl, .inl ⟨rfl, _, .of hg⟩, _, rfl, ld, xs, rfl, ⟨.inl hld, hv.bs⟩, fun r nr => ?_⟩
        have sr := same_new (o := viewO r ld) nr
        have hvr := hv.same sr
        refine ⟨r, ld, xs, d, B, _, rfl, upd_same, ⟨.inl (sr _ _ hld), hvr.bs⟩, hvr.words, by omega, fun h2 => hB (by omega), fun p ys2 zs np pz pw a2 => ?_⟩
        have ez := hun zs pz (fun h2 => pw (by omega))
        subst ez
        have sp := same_new (o := .lst ys2) np
        have zl : zs.length = lv.length := by rw [pz.length_eq, List.length_map]
        have y2l := a2.len
        have lpos : 0 < lv.length := List.length_pos_iff.mpr hne
        have gp := sp _ _ (sr _ _ hg)
        have a2p := a2.imp fun _ _ (z : TI K (upd H3 r (viewO r ld)) _ _) => z.same sp
        have hyp := (hy.imp fun _ _ (z : TI K H3 _ _) => z.same sr).imp fun _ _ z => z.same sp
        have hvp := (hv.same sr).same sp
        have ldp := sp _ _ (sr _ _ hld)
        have sHp := (s3.trans sr).trans sp
        rw [List.length_append] at hm hW
        refine ⟨g, p, ys, ys2, rfl, rfl, gp, upd_same, szl (by omega), ?_⟩
        have o : Off g (upd (upd H3 r (viewO r ld)) p (.lst ys2)) (upd (upd (upd H3 r (viewO r ld)) p (.lst ys2)) g (.lst (ys ++ ys2))) := off_upd
        have sx : Same H (upd (upd (upd H3 r (viewO r ld)) p (.lst ys2)) g (.lst (ys ++ ys2))) := same_off gH sHp o
        have gx : (upd (upd (upd H3 r (viewO r ld)) p (.lst ys2)) g (.lst (ys ++ ys2))) g = some (.lst (ys ++ ys2)) := upd_same
        have ldx := o _ _ nld ldp
        have hvx : DV K (upd (upd (upd H3 r (viewO r ld)) p (.lst ys2)) g (.lst (ys ++ ys2))) xs lv := hvp.imp (fun _ _ z => o.bs gp z) (fun _ _ z => o.ti gp z)
        have hyx := (hyp.app a2p).imp fun _ _ z => o.ti gp z
        have lyy : (ys ++ ys2).length = W0.length + zs.length := by rw [List.length_append]; omega
        refine ⟨_, rfl, _, _, rfl, .inl (.of gx), _, rfl, _, _, rfl, rfl, _, rfl, ite2 (fun z => ?_) (fun _ => ?_)⟩
        · have := of_decide_eq_true z
          rw [lyy] at this
          omega
        · refine ⟨_, rfl, _, rfl, _, rfl, kv, ld, la, n, lk, xs, lv, lv', rfl, hlk.same sx, hok, n4, ldx, hvx, sx _ _ hla, hfine, hnx, by omega, fun r2 ys' H9 s9 nr2 hr2 dv2 => ?_⟩
          have gx9 := s9 _ _ gx
          refine ⟨⟨r2, ys', lv', W0 ++ zs, W1, ys ++ ys2, rfl, sx.trans s9, hr2, dv2, hc', gx9, hyx.imp fun _ _ z => z.same s9, by rw [List.append_assoc], (ne_of_none gx nr2).symm⟩, ?_⟩
          unfold lenAt
          rw [gx9, hg]
          simp only
          rw [lyy]
          omega
    · rintro σ H Q Q' hq ⟨v, hv, d, xs, e, dn, h⟩
      exact ⟨v, hv, d, xs, e, dn, hq _ _ h⟩
end
end Sk

namespace Sk
open PySem L2 Ow
def spMembers (K : PySem.W.Frag) (C : Addr) : Sp := fun vs H Q _ => ∃ (p : Addr) (n : Nat) (bv : V) (bs : List (List Int)) (W : List (List Int)), vs = [.ref p] ∧ SysAt K C H p n bv bs ∧ Valid n bs ∧ Chain (lkOf bs n) n [(first n, [])] W ∧ W.length ≤ 120 ∧ ∀ v H', Same H H' → BsAt K H' v W → Q v H'
section
variable {P : Program} {w : World} {K : PySem.W.Frag} {mg : Str → Option Value} {base : Heap} {C : Addr}
theorem cal_members (T : Txt K mg C) : Cal P w K mg base "members" 6 (spMembers K C) := by
  refine T.d_members.cal (ps := ["system"]) (fun f fd D => ?_) (fun _ _ _ _ _ _ us hl => match us, hl with | [_], _ => rfl)
  refine D.ok sc_members (fun vs H Q E h => ?_) (fun cdv A outer s H vs Q E hr h => ?_)
  · obtain ⟨_, _, _, _, _, rfl, _⟩ := h
    rfl
  · obtain ⟨p, n, bv, bs, W, rfl, y, va, hc, hW, k⟩ := h
    have n4 := va.hi
    have n1 := va.lo
    refine ⟨_, (pss_cons (ps_expr (pe_cal (cal_check_system T) (hr.mono (by decide)) (by rfl) (pa_cons (pv 0) pa_nil)))
      (pss_cons (ps_set (i := 1) sc_members.nd rfl (Or.inl rfl) (pe_cal (cal_words_by T) (hr.mono (by decide)) (by rfl) (pa_cons (pe_cal (cal_links_of T) (hr.mono (by decide)) (by rfl) (pa_cons (pv 0) pa_nil)) (pa_cons (pe_listRg rfl (by rfl) T.b_list (prg_1 (by rfl) T.b_range (pe_sletters T (hr.mono (by decide)) (pv 0)))) (pa_cons (C8.pe_gc (v := .int 120) (by rfl) T.g_MAX_MEMBERS) pa_nil)))))
      (pss_cons (ps_if (pt_cmpR op_isN (pv 1) pe_non (nomark _)) (pss_one ps_never) pss_nil)
      (pss_one (ps_ret (pe_callTy call_tuple_of (by rfl) T.b_tuple (by decide +kernel) (pa_cons (pv 1) pa_nil))))))), ?_⟩
    refine ⟨_, rfl, p, n, bv, bs, rfl, y, ?_⟩
    refine ⟨_, rfl, p, n, bv, bs, rfl, y, va, fun v1 H1 s1 hlk => ?_⟩
    obtain ⟨dx, g⟩ := (y.same s1).1
    have rg : rgV 0 (n : Int) = (upto (n : Nat)).map V.int := by
      unfold rgV upto
      rw [List.map_map, Int.sub_zero]
      rfl
    refine ⟨_, rfl, p, dx, _, rfl, g, p, n, bv, bs, rfl, y.same s1, _, rfl, .of_le (by decide) (by omega) (by decide) (by omega), fun q nq => ?_⟩
    have sq := same_new (o := .lst (rgV 0 (n : Int))) nq
    refine ⟨v1, q, n, _, lkOf bs n, W, rfl, hlk.same sq, lkOf_ok va, by omega, by rw [upd_same, rg], hc, by omega, by omega, fun gd ys H2 s2 ng hg hy => ?_⟩
    refine ⟨_, rfl, rfl, _, rfl, iteF ?_⟩
    refine ⟨_, rfl, gd, _, rfl, .inl ⟨.of hg, fun t nt => ?_⟩⟩
    have st := same_new (o := .tup ys) nt
    exact k _ _ (((s1.trans sq).trans s2).trans st) ⟨t, ys, rfl, .of upd_same, A2.tis (hy.imp fun _ _ z => z.same st)⟩
end
end Sk

namespace Sk
open PySem L2 Ow
theorem inV_int (c : Int) (ns : List Int) : inV (.int c) (ns.map V.int) = ns.contains c := by
  unfold inV
  rw [List.any_map, List.contains_eq_any_beq]
  congr 1
  funext y
  show eqV (.int y) (.int c) = (c == y)
  rw [Bool.eq_iff_iff]
  simp [eqV]
  exact eq_comm
theorem flat_ints (ns : List Int) : (ns.map V.int).all flatV = true := by
  rw [List.all_map, List.all_eq_true]
  intro x _
  rfl
theorem castW_rev (w : List Nat) : castW w.reverse = (castW w).reverse := List.map_reverse
theorem lefts_eq {n : Nat} {bs : List (List Int)} (va : Valid n bs) {w : List Nat} (hw : Rt.In n w) : lefts (stOf bs n (castW w)) = castW (lefB n (Rt.fr (cB bs) n w)) := by
  have sl : (stOf bs n (castW w)).length = n := by
    rw [st_word va (show Rt.In (n : Int).toNat w from hw), stL_len]
    rfl
  unfold lefts
  rw [sl]
  unfold upto lefB castW
  rw [show ((n : Nat) : Int).toNat = n from rfl, List.filter_map]
  have e : ((List.range n).filter ((fun i : Int => bel ((stOf bs (n : Int) (w.map fun i : Nat => (i : Int))).getD i.toNat [])) ∘ fun i : Nat => (0 : Int) + (i : Nat))) = (List.range n).filter fun i => lowB n (Rt.fr (cB bs) n w i) := by
    refine List.filter_congr fun i hi => ?_
    have il := List.mem_range.mp hi
    have a := lefts_word va (show Rt.In (n : Int).toNat w from hw) (i := i) il
    have b := low_fr va hw il
    rw [Bool.eq_iff_iff]
    show bel ((stOf bs (n : Int) (castW w)).getD ((0 : Int) + (i : Nat)).toNat []) = true ↔ _
    rw [show ((0 : Int) + (i : Nat)).toNat = i by omega]
    exact a.trans b.symm
  rw [e]
  exact List.map_congr_left fun i _ => by omega
theorem lef_mem {n : Nat} {bs : List (List Int)} (va : Valid n bs) {w : List Nat} (hw : Rt.In n w) {l : Nat} (hl : l < n) : (castW (lefB n (Rt.fr (cB bs) n w))).contains (l : Int) = true ↔ Rt.len n (mB bs) (l :: w) < Rt.len n (mB bs) w := by
  rw [List.contains_iff_mem]
  unfold castW lefB
  rw [List.mem_map]
  constructor
  · rintro ⟨i, hi, e⟩
    obtain rfl : i = l := by omega
    exact (low_fr va hw hl).mp (List.mem_filter.mp hi).2
  · intro h
    exact ⟨l, List.mem_filter.mpr ⟨List.mem_range.mpr hl, (low_fr va hw hl).mpr h⟩, rfl⟩
def spMade (K : PySem.W.Frag) : Sp := fun vs H Q _ => ∃ (fv wv : V) (n : Nat) (bs : List (List Int)) (w us : List Nat), vs = [fv, wv] ∧ FcAt K H fv (fcL bs n) ∧ TI K H wv (castW w) ∧ Valid n bs ∧ Rt.In n w ∧ Rt.Nf n (mB bs) w us ∧ w.length + us.length ≤ 100 ∧ ∀ v H', Same H H' → TI K H' v (castW us) → Q v H'
section
variable {P : Program} {w : World} {K : PySem.W.Frag} {mg : Str → Option Value} {base : Heap} {C : Addr}
theorem cal_l_made (T : Txt K mg C) : Cal P w K mg base "_law_made" 5 (spMade K) := by
  refine T.d_l_made.cal (ps := ["_law_factors_here", "_law_word_here"]) (fun f fd D => ?_) (fun _ _ _ _ _ _ us hl => match us, hl with | [_, _], _ => rfl)
  refine D.ok sc_l_made (fun vs H Q E h => ?_) (fun cdv A outer s H vs Q E hr h => ?_)
  · obtain ⟨_, _, _, _, _, _, rfl, _⟩ := h
    rfl
  · obtain ⟨fv, wv, n, bs, w, us, rfl, hf, ht, va, hw, nf, hl, k⟩ := h
    refine ⟨_, (pss_one (ps_ret (pe_cal (cal_l_normal T) (hr.mono (by decide)) (by rfl) (pa_cons (pv 0) (pa_cons (pe_cal (cal_l_state T) (hr.mono (by decide)) (by rfl) (pa_cons (pv 0) (pa_cons (pv 1) pa_nil))) pa_nil))))), ?_⟩
    refine ⟨_, rfl, _, rfl, _, rfl, fv, wv, n, bs, w, rfl, hf, ht, va, hw, by omega, fun v1 H1 s1 t1 => ?_⟩
    exact ⟨fv, v1, n, bs, w, us, rfl, hf.same s1, t1, va, hw, nf, by omega, fun v2 H2 s2 t2 => k _ _ (s1.trans s2) t2⟩
end
end Sk

namespace Sk
open PySem L2 Ow
theorem SysAt.but {K : PySem.W.Frag} {C D : Addr} {H H' : Hp} {p : Addr} {n : Int} {bv : V} {bs : List (List Int)} (g : SysAt K C H p n bv bs) (o : Off D H H') (b : VatAt H D) : SysAt K C H' p n bv bs := by
  obtain ⟨b0, b1, b2, hD⟩ := b
  exact ⟨g.1.elim fun dx h => ⟨dx, o _ _ (fun e => by rw [e, hD] at h; cases h) h⟩, o.bs hD g.2⟩
theorem nw_of {n : Nat} {bs : List (List Int)} (va : Valid n bs) {w us : List Nat} (hw : Rt.In n w) (h : Rt.Nf n (mB bs) w us) (l : w.length + us.length < 200) : Nw bs n (castW w) (castW us) := runs_nf va h hw l
theorem wd_of {n : Nat} {w : List Nat} (hw : Rt.In n w) (l : w.length ≤ 40) : Wd n (castW w) := ⟨fun x hx => by
  obtain ⟨i, hi, rfl⟩ := List.mem_map.mp hx
  have := hw i hi
  omega, by rw [cast_len]; exact l⟩
theorem castW_inj {a b : List Nat} (h : castW a = castW b) : a = b := List.map_inj_right (f := fun i : Nat => (i : Int)) (fun x y e => by exact Int.ofNat.inj e) |>.mp h
theorem nf_all {n : Nat} {bs : List (List Int)} (va : Valid n bs) {w : List Nat} (hw : Rt.In n w) : ∃ us, Rt.Nf n (mB bs) w us ∧ Rt.Cg n (mB bs) w us ∧ us.length = Rt.len n (mB bs) w ∧ us.length ≤ w.length ∧ Rt.In n us := by
  obtain ⟨us, h⟩ := Rt.Nf.ex (n := n) (m := mB bs) _ hw rfl
  obtain ⟨c, l⟩ := h.cg hw
  exact ⟨us, h, c, l, by rw [l]; exact Rt.len_self w, c.in_.mp hw⟩
theorem nf_cg {n : Nat} {bs : List (List Int)} (va : Valid n bs) {w v us : List Nat} (hw : Rt.In n w) (hv : Rt.In n v) (h : Rt.Nf n (mB bs) w us) (c : Rt.Cg n (mB bs) v w) : Rt.Nf n (mB bs) v us := h.same (sysN va) hw hv fun i _ => c.fr (sysN va) i
theorem eqv_same (x : List Int) : PyData.eqv (dT x) (dT x) = true := by
  rw [eqv_dT]
  exact decide_eq_true rfl

theorem castW_app (a b : List Nat) : castW (a ++ b) = castW a ++ castW b := List.map_append
def spLR (K : PySem.W.Frag) (C : Addr) : Sp := fun vs H Q _ => ∃ (r : Addr) (bw fv wv : V) (n : Nat) (bs : List (List Int)) (w : List Nat), vs = [.ref r, fv, wv] ∧ SysAt K C H r n bw bs ∧ FcAt K H fv (fcL bs n) ∧ TI K H wv (castW w) ∧ Valid n bs ∧ Rt.In n w ∧ w.length ≤ 20 ∧ ∀ H', Same H H' → Q (.bl true) H'
theorem fine_of {n : Nat} {bs : List (List Int)} (va : Valid n bs) {w : List Nat} (hw : Rt.In n w) (l : w.length < 200) : Fine (stOf bs n (castW w)) := fine_word va (show Rt.In (n : Int).toNat w from hw) l
section
variable {P : Program} {w : World} {K : PySem.W.Frag} {mg : Str → Option Value} {base : Heap} {C : Addr}
theorem cal_l_letters_right (T : Txt K mg C) : Cal P w K mg base "_law_letters_right" 9 (spLR K C) := by
  refine T.d_l_letters_right.cal (ps := ["_law_system_here", "_law_factors_here", "_law_word_here"]) (fun f fd D => ?_) (fun _ _ _ _ _ _ us hl => match us, hl with | [_, _, _], _ => rfl)
  refine D.ok sc_l_letters_right (fun vs H Q E h => ?_) (fun cdv A outer s H vs Q E hr h => ?_)
  · obtain ⟨_, _, _, _, _, _, _, rfl, _⟩ := h
    rfl
  · obtain ⟨r, bw, fv, _, n, bs, w, rfl, y, hf, ⟨wa, rfl, hwa⟩, va, hw, wl, k⟩ := h
    have n4 := va.hi
    have n1 := va.lo
    have hwr := hw.rev
    have ht : TI K H (.ref wa) (castW w) := ⟨wa, rfl, hwa⟩
    refine ⟨_, (pss_cons (ps_set (i := 3) sc_l_letters_right.nd rfl (Or.inl rfl) (pe_tup (pa_cons (pe_cal (cal_l_lefts T) (hr.mono (by decide)) (by rfl) (pa_cons (pe_cal (cal_l_state T) (hr.mono (by decide)) (by rfl) (pa_cons (pv 1) (pa_cons (pv 2) pa_nil))) pa_nil)) (pa_cons (pe_cal (cal_l_lefts T) (hr.mono (by decide)) (by rfl) (pa_cons (pe_cal (cal_l_state T) (hr.mono (by decide)) (by rfl) (pa_cons (pv 1) (pa_cons (pe_revT (pv 2)) pa_nil))) pa_nil)) pa_nil))))
      (pss_cons (ps_if (PW.pt (pw_or (pt_cmpR (op_neD hr.units) (pe_callTy call_list_of (by rfl) T.b_list (by decide +kernel) (pa_cons (pe_cal (cal_left_letters T) (hr.mono (by decide)) (by rfl) (pa_cons (pv 0) (pa_cons (pv 2) pa_nil))) pa_nil)) (pe_ix ix_tup (pv 3) pe_int (fun _ _ => rfl)) (nomark _)) (pw_or1 (pt_cmpR (op_neD hr.units) (pe_callTy call_list_of (by rfl) T.b_list (by decide +kernel) (pa_cons (pe_cal (cal_right_letters T) (hr.mono (by decide)) (by rfl) (pa_cons (pv 0) (pa_cons (pv 2) pa_nil))) pa_nil)) (pe_ix ix_tup (pv 3) pe_int (fun _ _ => rfl)) (nomark _))))) (pss_one (ps_ret pe_bl)) pss_nil)
      (pss_cons (ps_set (i := 4) sc_l_letters_right.nd rfl (Or.inl rfl) (pe_cal (cal_length T) (hr.mono (by decide)) (by rfl) (pa_cons (pv 0) (pa_cons (pv 2) pa_nil))))
      (pss_cons (ps_for PassesOwn.never rfl (pi_range1 (by rfl) T.b_range (pa_cons (pe_callB call_len_seq (by rfl) T.b_len (by decide +kernel) (pa_cons (pv 1) pa_nil)) pa_nil)) (pg_name (i := 5) sc_l_letters_right.nd rfl (Or.inl rfl)) (C8.pss_cut (ps_set (i := 6) sc_l_letters_right.nd rfl (Or.inl rfl) (pe_ifExp (pt_cmpR op_in_seq (pv 5) (pe_ix ix_tup (pv 3) pe_int (fun _ _ => rfl)) (by rfl)) (pe_un un_neg pe_int) pe_int))
      (pss_cons (ps_if (pt_cmpR op_ne (pe_callB call_len_seq (by rfl) T.b_len (by decide +kernel) (pa_cons (pe_cal (cal_l_made T) (hr.mono (by decide)) (by rfl) (pa_cons (pv 1) (pa_cons (pe_op op_catA (pe_tup (pa_cons (pv 5) pa_nil)) (pv 2)) pa_nil))) pa_nil)) (pe_op op_add (pv 4) (pv 6)) (nomark _)) (pss_one (ps_ret pe_bl)) pss_nil)
      (pss_cons (ps_if (pt_cmpR op_ne (pe_cal (cal_length T) (hr.mono (by decide)) (by rfl) (pa_cons (pv 0) (pa_cons (pe_cal (cal_product T) (hr.mono (by decide)) (by rfl) (pa_cons (pv 0) (pa_cons (pe_tup (pa_cons (pv 5) pa_nil)) (pa_cons (pv 2) pa_nil)))) pa_nil))) (pe_op op_add (pv 4) (pv 6)) (nomark _)) (pss_one (ps_ret pe_bl)) pss_nil)
      (C8.pss_cut (ps_set (i := 6) sc_l_letters_right.nd rfl (Or.inl rfl) (pe_ifExp (pt_cmpR op_in_seq (pv 5) (pe_ix ix_tup (pv 3) pe_int (fun _ _ => rfl)) (by rfl)) (pe_un un_neg pe_int) pe_int))
      (pss_one (ps_if (pt_cmpR op_ne (pe_cal (cal_length T) (hr.mono (by decide)) (by rfl) (pa_cons (pv 0) (pa_cons (pe_cal (cal_product T) (hr.mono (by decide)) (by rfl) (pa_cons (pv 0) (pa_cons (pv 2) (pa_cons (pe_tup (pa_cons (pv 5) pa_nil)) pa_nil)))) pa_nil))) (pe_op op_add (pv 4) (pv 6)) (nomark _)) (pss_one (ps_ret pe_bl)) pss_nil)))))))
      (pss_one (ps_ret pe_bl)))))), ?_⟩
    refine ⟨_, rfl, _, rfl, fv, .ref wa, n, bs, w, rfl, hf, ht, va, hw, by omega, fun v1 H1 s1 t1 => ⟨v1, n, _, rfl, t1, by omega, fr_sml va hw (by omega), fun a1 H2 s2 na1 ha1 => ?_⟩⟩
    have s12 := s1.trans s2
    refine ⟨_, rfl, _, rfl, wa, _, rfl, sqT_same s12 hwa, fun q3 n3 => ?_⟩
    have s3 := same_new (o := .tup ((castW w).map V.int).reverse) n3
    have t3 : TI K (upd H2 q3 (.tup ((castW w).map V.int).reverse)) (.ref q3) (castW w.reverse) := ⟨q3, rfl, .of (by rw [upd_same, castW_rev, List.map_reverse])⟩
    refine ⟨fv, .ref q3, n, bs, w.reverse, rfl, (hf.same s12).same s3, t3, va, hwr, by rw [List.length_reverse]; omega, fun v4 H4 s4 t4 => ⟨v4, n, _, rfl, t4, by omega, fr_sml va hwr (by rw [List.length_reverse]; omega), fun a2 H5 s5 na2 ha2 => ?_⟩⟩
    refine ⟨show 2 ≤ sizeLine by decide, fun dt nd => ?_⟩
    have sd := same_new (o := .tup [.ref a1, .ref a2]) nd
    have S6 := ((((s12.trans s3).trans s4).trans s5).trans sd)
    have ha1 := sd _ _ (s5 _ _ (s4 _ _ (s3 _ _ ha1)))
    have ha2 := sd _ _ ha2
    have hdt : (upd H5 dt (.tup [.ref a1, .ref a2])) dt = some (.tup [.ref a1, .ref a2]) := upd_same
    generalize upd H5 dt (.tup [.ref a1, .ref a2]) = H6 at *
    have wd := wd_of hw (by omega)
    refine ⟨_, rfl, _, rfl, .ref r, .ref wa, n, bs, castW w, rfl, ⟨r, bw, rfl, y.same S6, va, ht.same S6, wd⟩, fine_of va hw (by omega), fun v7 H7 s7 t7 => ?_⟩
    obtain ⟨a7, rfl, q7⟩ := t7
    rw [lefts_eq va hw] at q7
    refine ⟨a7, _, rfl, .inr q7, fun l8 n8 => ?_⟩
    have s8 := same_new (o := .lst ((castW (lefB n (Rt.fr (cB bs) n w))).map V.int)) n8
    have s78 := s7.trans s8
    refine ⟨_, rfl, _, _, _, _, rfl, rfl, .of (s78 _ _ hdt), at_of (j := 0) rfl rfl, _, _, .lst (.of upd_same) (dInts _), .lst (.of (s78 _ _ ha1)) (dInts _), sh_L _, sh_L _, ?_⟩
    rw [eqv_L, decide_eq_true rfl]
    refine ⟨_, rfl, iteF ?_⟩
    have S8 := S6.trans s78
    refine ⟨_, rfl, _, rfl, .ref r, .ref wa, n, bs, castW w, rfl, ⟨r, bw, rfl, y.same S8, va, ht.same S8, wd⟩, by rw [← castW_rev]; exact fine_of va hwr (by rw [List.length_reverse]; omega), fun v9 H9 s9 t9 => ?_⟩
    obtain ⟨a9, rfl, q9⟩ := t9
    rw [← castW_rev, lefts_eq va hwr] at q9
    refine ⟨a9, _, rfl, .inr q9, fun l10 n10 => ?_⟩
    have s10 := same_new (o := .lst ((castW (lefB n (Rt.fr (cB bs) n w.reverse))).map V.int)) n10
    have s90 := (s78.trans s9).trans s10
    refine ⟨_, rfl, _, _, _, _, rfl, rfl, .of (s90 _ _ hdt), at_of (j := 1) rfl rfl, _, _, .lst (.of upd_same) (dInts _), .lst (.of (s90 _ _ ha2)) (dInts _), sh_L _, sh_L _, ?_⟩
    rw [eqv_L, decide_eq_true rfl]
    refine ⟨_, rfl, iteF ?_⟩
    have S10 := S6.trans s90
    obtain ⟨us, nf, cg, el, le, hu⟩ := nf_all va hw
    refine ⟨_, rfl, _, rfl, .ref r, .ref wa, n, bs, castW w, castW us, rfl, ⟨r, bw, rfl, y.same S10, va, ht.same S10, wd⟩, nw_of va hw nf (by omega), by rw [cast_len]; omega, fun H11 s11 => ?_⟩
    have S11 := S10.trans s11
    have d11 := s11 _ _ (s90 _ _ hdt)
    have h11a := s11 _ _ (s90 _ _ ha1)
    have h11b := s11 _ _ (s90 _ _ ha2)
    obtain ⟨fa, fxs, rfl, hfa, hfx⟩ := hf
    have fl : fxs.length = n := by rw [hfx.len, fcL_len]
    rw [cast_len]
    refine ⟨_, rfl, _, _, rfl, .inl (.of (S11 _ _ hfa)), _, rfl, by omega, by omega, for_range (lo := 0) (n := fxs.length) (fun i σ H' => (∃ v5 v6 : Option V, σ = [some (.ref r), some (.ref fa), some (.ref wa), some (.ref dt), some (.int (us.length : Nat)), v5, v6]) ∧ Same H H' ∧ H' dt = some (.tup [.ref a1, .ref a2]) ∧ H' a1 = some (.lst ((castW (lefB n (Rt.fr (cB bs) n w))).map V.int)) ∧ H' a2 = some (.lst ((castW (lefB n (Rt.fr (cB bs) n w.reverse))).map V.int))) ⟨⟨_, _, rfl⟩, S11, d11, h11a, h11b⟩ ?_ ?_⟩
    · rintro i σ H12 hi ⟨⟨v5, v6, rfl⟩, S12, d12, h12a, h12b⟩
      rw [fl] at hi
      have eI : (0 : Int) + (i : Int) = ((i : Nat) : Int) := by omega
      rw [eI]
      have stp1 : ∀ v : List Nat, Rt.In n v → ∀ b : Bool, b = inV (.int (i : Nat)) ((castW (lefB n (Rt.fr (cB bs) n v))).map V.int) → (if b = true then (-1 : Int) else 1) = (Rt.len n (mB bs) (i :: v) : Int) - Rt.len n (mB bs) v := fun v hv b hb => by
        rw [inV_int] at hb
        have m := lef_mem va hv hi
        have c := Rt.len_cons (m := mB bs) hi v
        rw [← hb] at m
        by_cases z : b = true
        · rw [if_pos z]
          have := m.mp z
          omega
        · rw [if_neg z]
          have : ¬ Rt.len n (mB bs) (i :: v) < Rt.len n (mB bs) v := fun q => z (m.mpr q)
          omega
      refine ⟨fun σ H' => H' = H12 ∧ σ = [some (.ref r), some (.ref fa), some (.ref wa), some (.ref dt), some (.int (us.length : Nat)), some (.int (i : Nat)), some (.int ((Rt.len n (mB bs) (i :: w) : Int) - Rt.len n (mB bs) w))], ?_, ?_⟩
      · refine ⟨_, rfl, _, rfl, _, _, _, _, rfl, rfl, .of d12, at_of (j := 0) rfl rfl, _, _, rfl, .inl (.of h12a), rfl, flat_ints _, _, rfl, ite2 (fun z => ?_) (fun z => ?_)⟩
        · have z' : inV (.int (i : Nat)) ((castW (lefB n (Rt.fr (cB bs) n w))).map V.int) = true := z
          have e := stp1 w hw _ rfl
          rw [if_pos z'] at e
          rw [← e]
          exact ⟨_, rfl, rfl, rfl⟩
        · have z' : ¬ inV (.int (i : Nat)) ((castW (lefB n (Rt.fr (cB bs) n w))).map V.int) = true := z
          have e := stp1 w hw _ rfl
          rw [if_neg z'] at e
          rw [← e]
          exact ⟨rfl, rfl⟩
      · rintro σ H13 ⟨rfl, rfl⟩
        have hlw : Rt.In n (i :: w) := hw.cons hi
        obtain ⟨us1, nf1, cg1, el1, le1, hu1⟩ := nf_all va hlw
        rw [List.length_cons] at le1
        have F13 : FcAt K H13 (.ref fa) (fcL bs n) := ⟨fa, fxs, rfl, S12 _ _ hfa, hfx.imp fun _ _ ⟨l, e, z⟩ => ⟨l, e, z.same S12⟩⟩
        have w13 := ht.same S12
        obtain ⟨wa', ew, wq⟩ := w13
        cases ew
        refine ⟨_, rfl, _, rfl, show 1 ≤ sizeLine by decide, fun t1' m1 => ?_⟩
        have x1 := same_new (o := .tup [.int (i : Nat)]) m1
        refine ⟨_, rfl, cat_any (.of upd_same) (sqT_same x1 wq) (by rw [List.length_map, cast_len]; simp only [List.length_cons, List.length_nil]; omega) fun v14 H14 s14 ⟨c14, e14, q14⟩ => ?_⟩
        subst e14
        have x2 := x1.trans s14
        have t14 : TI K H14 (.ref c14) (castW (i :: w)) := ⟨c14, rfl, q14⟩
        refine ⟨.ref fa, .ref c14, n, bs, i :: w, us1, rfl, F13.same x2, t14, va, hlw, nf1, by rw [List.length_cons]; omega, fun v15 H15 s15 t15 => ?_⟩
        obtain ⟨a15, rfl, q15⟩ := t15
        refine ⟨a15, _, rfl, .inr q15, _, rfl, _, rfl, _, _, rfl, rfl, rfl, _, rfl, ite2 (fun z => ?_) (fun _ => ?_)⟩
        · exfalso
          rw [List.length_map, cast_len, el1, el] at z
          simp at z
          omega
        have x3 := x2.trans s15
        have S15 := S12.trans x3
        have nfu1 := nf_cg va hlw hu1 nf1 cg1.symm
        have wdu1 := wd_of hu1 (by omega)
        have hi1 : Rt.In n [i] := fun z hz => by
          rw [List.mem_singleton.mp hz]
          exact hi
        have wdi := wd_of hi1 (show 1 ≤ 40 by decide)
        refine ⟨_, rfl, _, rfl, _, rfl, show 1 ≤ sizeLine by decide, fun t16 m16 => ⟨_, rfl, ?_⟩⟩
        have x16 := same_new (o := .tup [.int (i : Nat)]) m16
        have S16 := S15.trans x16
        refine ⟨.ref r, .ref t16, .ref wa, n, bs, castW [i], castW w, castW us1, rfl, ⟨r, bw, rfl, y.same S16, va, ⟨t16, rfl, .of upd_same⟩, wdi⟩, ht.same S16, wd, nw_of va hlw nf1 (by rw [List.length_cons]; omega), by rw [cast_len]; omega, fun v17 H17 s17 t17 => ?_⟩
        have S17 := S16.trans s17
        refine ⟨.ref r, v17, n, bs, castW us1, castW us1, rfl, ⟨r, bw, rfl, y.same S17, va, t17, wdu1⟩, nw_of va hu1 nfu1 (by omega), by rw [cast_len]; omega, fun H18 s18 => ?_⟩
        have S18 := S17.trans s18
        have X18 := (((x3.trans x16).trans s17).trans s18)
        refine ⟨_, rfl, _, rfl, _, _, rfl, rfl, rfl, _, rfl, ite2 (fun z => ?_) (fun _ => ?_)⟩
        · exfalso
          rw [cast_len, el1, el] at z
          simp at z
          omega
        have d18 := X18 _ _ d12
        have h18b := X18 _ _ h12b
        have h18a := X18 _ _ h12a
        refine ⟨fun σ H' => H' = H18 ∧ σ = [some (.ref r), some (.ref fa), some (.ref wa), some (.ref dt), some (.int (us.length : Nat)), some (.int (i : Nat)), some (.int ((Rt.len n (mB bs) (i :: w.reverse) : Int) - Rt.len n (mB bs) w.reverse))], ?_, ?_⟩
        · refine ⟨_, rfl, _, rfl, _, _, _, _, rfl, rfl, .of d18, at_of (j := 1) rfl rfl, _, _, rfl, .inl (.of h18b), rfl, flat_ints _, _, rfl, ite2 (fun z => ?_) (fun z => ?_)⟩
          · have z' : inV (.int (i : Nat)) ((castW (lefB n (Rt.fr (cB bs) n w.reverse))).map V.int) = true := z
            have e := stp1 w.reverse hwr _ rfl
            rw [if_pos z'] at e
            rw [← e]
            exact ⟨_, rfl, rfl, rfl⟩
          · have z' : ¬ inV (.int (i : Nat)) ((castW (lefB n (Rt.fr (cB bs) n w.reverse))).map V.int) = true := z
            have e := stp1 w.reverse hwr _ rfl
            rw [if_neg z'] at e
            rw [← e]
            exact ⟨rfl, rfl⟩
        · rintro σ H19 ⟨rfl, rfl⟩
          have hrw : Rt.In n (w ++ [i]) := Rt.In.app.mpr ⟨hw, hi1⟩
          obtain ⟨us2, nf2, cg2, el2, le2, hu2⟩ := nf_all va hrw
          rw [List.length_append, List.length_singleton] at le2
          have lr1 : Rt.len n (mB bs) (w ++ [i]) = Rt.len n (mB bs) (i :: w.reverse) := by
            have := Rt.len_rev (n := n) (m := mB bs) (i :: w.reverse)
            rw [List.reverse_cons, List.reverse_reverse] at this
            exact this
          have lr2 : Rt.len n (mB bs) w.reverse = Rt.len n (mB bs) w := Rt.len_rev w
          have nfu2 := nf_cg va hrw hu2 nf2 cg2.symm
          have wdu2 := wd_of hu2 (by omega)
          refine ⟨_, rfl, _, rfl, _, rfl, _, rfl, show 1 ≤ sizeLine by decide, fun t20 m20 => ?_⟩
          have x20 := same_new (o := .tup [.int (i : Nat)]) m20
          have S20 := S18.trans x20
          refine ⟨.ref r, .ref wa, .ref t20, n, bs, castW w, castW [i], castW us2, rfl, ⟨r, bw, rfl, y.same S20, va, ht.same S20, wd⟩, ⟨t20, rfl, .of upd_same⟩, wdi, by rw [← castW_app]; exact nw_of va hrw nf2 (by rw [List.length_append, List.length_singleton]; omega), by rw [cast_len]; omega, fun v21 H21 s21 t21 => ?_⟩
          have S21 := S20.trans s21
          refine ⟨.ref r, v21, n, bs, castW us2, castW us2, rfl, ⟨r, bw, rfl, y.same S21, va, t21, wdu2⟩, nw_of va hu2 nfu2 (by omega), by rw [cast_len]; omega, fun H22 s22 => ?_⟩
          refine ⟨_, rfl, _, rfl, _, _, rfl, rfl, rfl, _, rfl, ite2 (fun z => ?_) (fun _ => ?_)⟩
          · exfalso
            rw [cast_len, el2, el, lr1, lr2] at z
            simp at z
            omega
          have X22 := ((X18.trans x20).trans s21).trans s22
          exact ⟨⟨_, _, rfl⟩, S21.trans s22, X22 _ _ d12, X22 _ _ h12a, X22 _ _ h12b⟩
    · rintro σ H12 ⟨⟨v5, v6, rfl⟩, S12, d12, h12a, h12b⟩
      exact k _ S12
end
end Sk

namespace Sk
open PySem L2 Ow
theorem eqv_same' (x : List Int) : PyData.eqv (dT x) (dT x) = true := by
  rw [eqv_dT]
  exact decide_eq_true rfl
/-- the three words and what stands beside them -/
structure Bn (K : PySem.W.Frag) (C : Addr) (H : Hp) (p r : Addr) (bw fv : V) (n : Nat) (bs : List (List Int)) (ts : List V) (ws : List (List Nat)) : Prop where
  b : VatAt H p
  y : SysAt K C H r n bw bs
  f : FcAt K H fv (fcL bs n)
  t : A2 (TI K H) ts (ws.map castW)
theorem Bn.same {K : PySem.W.Frag} {C : Addr} {H H' : Hp} {p r : Addr} {bw fv : V} {n : Nat} {bs : List (List Int)} {ts : List V} {ws : List (List Nat)} (h : Bn K C H p r bw fv n bs ts ws) (s : Same H H') : Bn K C H' p r bw fv n bs ts ws :=
  ⟨h.b.same s, h.y.same s, h.f.same s, h.t.imp fun _ _ z => z.same s⟩
theorem nf_nil {n : Nat} {bs : List (List Int)} (va : Valid n bs) : Rt.Nf n (mB bs) [] [] := by
  obtain ⟨us, h, _, e, l, _⟩ := nf_all va (w := []) (fun x hx => by cases hx)
  have : us = [] := List.length_eq_zero_iff.mp (by rw [List.length_nil] at l; omega)
  rw [this] at h
  exact h
theorem _root_.Rt.In.nil {n : Nat} : Rt.In n [] := fun x hx => by cases hx
theorem cg_inv {n : Nat} {m : Nat → Nat → Nat} : ∀ {w : List Nat}, Rt.In n w → Rt.Cg n m (w ++ w.reverse) []
  | [], _ => .rfl _
  | s :: w, h => by
    have hs := h s (by simp)
    have e : s :: w ++ (s :: w).reverse = [s] ++ (w ++ w.reverse) ++ [s] := by simp
    rw [e]
    exact (Rt.Cg.app (cg_inv h.tail) [s] [s]).trans (Rt.cons2 hs [])
theorem cg_inv' {n : Nat} {m : Nat → Nat → Nat} {w : List Nat} (h : Rt.In n w) : Rt.Cg n m (w.reverse ++ w) [] := by
  have := cg_inv (m := m) h.rev
  rwa [List.reverse_reverse] at this
def spLWord (K : PySem.W.Frag) : Sp := fun vs H Q _ => ∃ (p : Addr) (n m : Nat), vs = [.ref p, .int n, .int m] ∧ VatAt H p ∧ 0 < n ∧ n ≤ 100 ∧ m ≤ 100 ∧ ∀ v w H', Off p H H' → VatAt H' p → TI K H' v (castW w) → Rt.In n w → w.length ≤ m → Q v H'
def spRight : Sp := fun vs H Q _ => ∃ (p : Addr), vs = [.ref p] ∧ VatAt H p ∧ ∀ H', Off p H H' → VatAt H' p → Q (.bl true) H'
section
variable {P : Program} {w : World} {K : PySem.W.Frag} {mg : Str → Option Value} {base : Heap} {C : Addr}
theorem cal_l_word (T : Txt K mg C) : Cal P w K mg base "_law_word" 2 (spLWord K) := by
  refine T.d_l_word.cal (ps := ["_law_vat_here", "_law_letters", "_law_most"]) (fun f fd D => ?_) (fun _ _ _ _ _ _ us hl => match us, hl with | [_, _, _], _ => rfl)
  refine D.ok sc_l_word (fun vs H Q E h => ?_) (fun cdv A outer s H vs Q E hr h => ?_)
  · obtain ⟨_, _, _, rfl, _⟩ := h
    rfl
  · obtain ⟨p, n, m, rfl, hb, n0, n1, m1, k⟩ := h
    refine ⟨_, (pss_one (ps_ret (pe_callTy call_tuple_of (by rfl) T.b_tuple (by decide +kernel) (pa_cons (pe_lc (own := [("_law_turn", 3)]) (g := gName 3) (tt := tYes) rfl sc_l_word.nd (pi_range1 (by rfl) T.b_range (pa_cons (pe_cal (cal_l_tap T) (hr.mono (by decide)) (by rfl) (pa_cons (pv 0) (pa_cons (pe_op op_add (pv 2) pe_int) pa_nil))) pa_nil)) (blkOk_by (own := [("_law_turn", 3)]) (N := ["_law_vat_here", "_law_letters", "_law_most", "_law_turn"]) (sc := defScope s_l_word) (by decide +kernel)) (fun _ _ _ _ _ => (pg_name (i := 3) sc_l_word.nd rfl (Or.inl rfl))) (fun _ _ _ _ _ => pts_nil) (fun _ _ _ _ _ => (pe_cal (cal_l_tap T) (hr.mono (by decide)) (by rfl) (pa_cons (pv 0) (pa_cons (pv 1) pa_nil))))) pa_nil)))), ?_⟩
    refine ⟨_, rfl, _, rfl, _, _, rfl, rfl, p, _, rfl, by omega, by omega, hb, fun t H1 t0 t1 o1 b1 => ?_⟩
    refine ⟨_, rfl, by omega, by omega, fun D nD => lc_range (lo := 0) (n := t.toNat) (fun i H' => ∃ ws : List Nat, Off p H H' ∧ VatAt H' p ∧ H' D = some (.lst ((castW ws).map V.int)) ∧ ws.length = i ∧ Rt.In n ws ∧ H D = none) ⟨[], o1.trans (.of_same (same_new nD)), b1.same (same_new nD), upd_same, rfl, (fun x hx => by cases hx), ?_⟩ ?_ ?_⟩
    · cases e : H D with
      | none => rfl
      | some o =>
        have := o1 _ _ (vat_ne b1 nD) e
        rw [nD] at this
        cases this
    · rintro i H2 hi ⟨ws, o2, b2, hL, hw, hx, nH⟩
      have nDp := vat_ne hb nH
      refine ⟨rfl, _, rfl, _, rfl, p, _, rfl, by omega, by omega, b2, fun c H3 c0 c1 o3 b3 => ?_⟩
      have hL3 := o3 _ _ nDp hL
      obtain ⟨c, rfl⟩ : ∃ c' : Nat, c = c' := ⟨c.toNat, by omega⟩
      refine ⟨_, hL3, by rw [List.length_map, cast_len]; exact small1000 (by omega), ws ++ [c], fun u z nu e => ?_, b3.but off_upd nDp.symm, by rw [upd_same, castW_app, List.map_append]; rfl, by rw [List.length_append, hw]; rfl, fun x hx' => ?_, nH⟩
      · rw [upd_ne (fun z => by rw [z, nH] at e; cases e)]
        exact o3 _ _ nu (o2 _ _ nu e)
      · rcases List.mem_append.mp hx' with h | h
        · exact hx x h
        · rw [List.mem_singleton.mp h]
          omega
    · rintro H2 ⟨ws, o2, b2, hL, hw, hx, nH⟩
      refine ⟨_, _, rfl, .inl ⟨.of hL, fun u nu => ?_⟩⟩
      exact k _ ws _ (o2.trans (.of_same (same_new nu))) (b2.same (same_new nu)) ⟨u, rfl, .of upd_same⟩ hx (by omega)
theorem cal_l_right (T : Txt K mg C) : Cal P w K mg base "_law_right" 10 spRight := by
  refine T.d_l_right.cal (ps := ["_law_vat_here"]) (fun f fd D => ?_) (fun _ _ _ _ _ _ us hl => match us, hl with | [_], _ => rfl)
  refine D.ok sc_l_right (fun vs H Q E h => ?_) (fun cdv A outer s H vs Q E hr h => ?_)
  · obtain ⟨_, rfl, _⟩ := h
    rfl
  · obtain ⟨p, rfl, hb, k⟩ := h
    refine ⟨_, (pss_cons (ps_asg (pe_cal (cal_l_system T) (hr.mono (by decide)) (by rfl) (pa_cons (pv 0) pa_nil)) (pg_tup (by rfl) (pgs_cons (pg_name (i := 1) sc_l_right.nd rfl (Or.inr rfl)) (pgs_cons (pg_name (i := 2) sc_l_right.nd rfl (Or.inl rfl)) pgs_nil))))
      (pss_cons (ps_par (i := 3) (j := 4) rfl sc_l_right.nd rfl rfl (by decide) rfl rfl (pa_cons (pe_sys T (hr.mono (by decide)) (by rfl) (pa_cons (pv 1) (pa_cons (pv 2) pa_nil))) (pa_cons (pe_cal (cal_l_factors T) (hr.mono (by decide)) (by rfl) (pa_cons (pv 1) (pa_cons (pv 2) pa_nil))) pa_nil)) rfl)
      (pss_cons (ps_asg (pe_lc (own := [("_law_most", 8)]) (g := gName 8) (tt := tYes) rfl sc_l_right.nd (pi_tup (pe_tup (pa_cons pe_int (pa_cons pe_int (pa_cons pe_int pa_nil))))) (blkOk_by (own := [("_law_most", 8)]) (N := ["_law_vat_here", "_law_letters", "_law_bonds", "_law_system_here", "_law_factors_here", "_law_one", "_law_other", "_law_third", "_law_most", "_law_told", "_law_later", "_law_back", "_law_size"]) (sc := defScope s_l_right) (by decide +kernel)) (fun _ _ _ _ _ => (pg_name (i := 8) sc_l_right.nd rfl (Or.inl rfl))) (fun _ _ _ _ _ => pts_nil) (fun _ _ _ _ _ => (pe_cal (cal_l_word T) (hr.mono (by decide)) (by rfl) (pa_cons (pv 0) (pa_cons (pv 1) (pa_cons (pv 8) pa_nil)))))) (pg_unl (by rfl) (pgs_cons (pg_name (i := 5) sc_l_right.nd rfl (Or.inl rfl)) (pgs_cons (pg_name (i := 6) sc_l_right.nd rfl (Or.inl rfl)) (pgs_cons (pg_name (i := 7) sc_l_right.nd rfl (Or.inl rfl)) pgs_nil)))))
      (pss_cons (ps_par (i := 9) (j := 10) rfl sc_l_right.nd rfl rfl (by decide) rfl rfl (pa_cons (pe_cal (cal_product T) (hr.mono (by decide)) (by rfl) (pa_cons (pv 3) (pa_cons (pv 5) (pa_cons (pv 6) pa_nil)))) (pa_cons (pe_cal (cal_product T) (hr.mono (by decide)) (by rfl) (pa_cons (pv 3) (pa_cons (pv 6) (pa_cons (pv 7) pa_nil)))) pa_nil)) rfl)
      (pss_cons (ps_if (PW.pt (pw_or (pt_cmpR (op_neD hr.units) (pv 9) (pe_cal (cal_l_made T) (hr.mono (by decide)) (by rfl) (pa_cons (pv 4) (pa_cons (pe_op op_catA (pv 5) (pv 6)) pa_nil))) (nomark _)) (pw_or1 (pt_cmpR (op_neD hr.units) (pe_cal (cal_product T) (hr.mono (by decide)) (by rfl) (pa_cons (pv 3) (pa_cons (pv 9) (pa_cons (pv 7) pa_nil)))) (pe_cal (cal_product T) (hr.mono (by decide)) (by rfl) (pa_cons (pv 3) (pa_cons (pv 5) (pa_cons (pv 10) pa_nil)))) (nomark _))))) (pss_one (ps_ret pe_bl)) pss_nil)
      (pss_cons (ps_set (i := 11) sc_l_right.nd rfl (Or.inl rfl) (pe_cal (cal_inverse T) (hr.mono (by decide)) (by rfl) (pa_cons (pv 3) (pa_cons (pv 5) pa_nil))))
      (pss_cons (ps_if (PW.pt (pw_or (pt_cmpR (op_neD hr.units) (pv 11) (pe_cal (cal_l_made T) (hr.mono (by decide)) (by rfl) (pa_cons (pv 4) (pa_cons (pe_revT (pv 5)) pa_nil))) (nomark _)) (pw_or (pt_cmpR (op_neD hr.units) (pe_cal (cal_product T) (hr.mono (by decide)) (by rfl) (pa_cons (pv 3) (pa_cons (pv 5) (pa_cons (pv 11) pa_nil)))) (pe_tup pa_nil) (nomark _)) (pw_or1 (pt_cmpR (op_neD hr.units) (pe_cal (cal_product T) (hr.mono (by decide)) (by rfl) (pa_cons (pv 3) (pa_cons (pv 11) (pa_cons (pv 5) pa_nil)))) (pe_tup pa_nil) (nomark _)))))) (pss_one (ps_ret pe_bl)) pss_nil)
      (pss_cons (ps_if (pt_cmpR (op_neD hr.units) (pe_cal (cal_inverse T) (hr.mono (by decide)) (by rfl) (pa_cons (pv 3) (pa_cons (pv 9) pa_nil))) (pe_cal (cal_product T) (hr.mono (by decide)) (by rfl) (pa_cons (pv 3) (pa_cons (pe_cal (cal_inverse T) (hr.mono (by decide)) (by rfl) (pa_cons (pv 3) (pa_cons (pv 6) pa_nil))) (pa_cons (pv 11) pa_nil)))) (nomark _)) (pss_one (ps_ret pe_bl)) pss_nil)
      (pss_cons (ps_if (pt_cmpR (op_neD hr.units) (pe_cal (cal_inverse T) (hr.mono (by decide)) (by rfl) (pa_cons (pv 3) (pa_cons (pv 11) pa_nil))) (pe_cal (cal_normal T) (hr.mono (by decide)) (by rfl) (pa_cons (pv 3) (pa_cons (pv 5) pa_nil))) (nomark _)) (pss_one (ps_ret pe_bl)) pss_nil)
      (pss_cons (ps_set (i := 12) sc_l_right.nd rfl (Or.inl rfl) (pe_op op_sub (pe_op op_add (pe_cal (cal_length T) (hr.mono (by decide)) (by rfl) (pa_cons (pv 3) (pa_cons (pv 5) pa_nil))) (pe_cal (cal_length T) (hr.mono (by decide)) (by rfl) (pa_cons (pv 3) (pa_cons (pv 6) pa_nil)))) (pe_cal (cal_length T) (hr.mono (by decide)) (by rfl) (pa_cons (pv 3) (pa_cons (pv 9) pa_nil)))))
      (pss_cons (ps_if (PW.pt (pw_or (pt_cmpR op_lt (pv 12) pe_int (nomark _)) (pw_or (pt_cmpR op_ne (pe_op op_mod (pv 12) pe_int) pe_int (nomark _)) (pw_or1 (pt_cmpR (op_neD hr.units) (pe_cal (cal_product T) (hr.mono (by decide)) (by rfl) (pa_cons (pv 3) (pa_cons (pv 5) (pa_cons (pe_tup pa_nil) pa_nil)))) (pe_cal (cal_normal T) (hr.mono (by decide)) (by rfl) (pa_cons (pv 3) (pa_cons (pv 5) pa_nil))) (nomark _)))))) (pss_one (ps_ret pe_bl)) pss_nil)
      (pss_one (ps_ret (pe_and (pe_cal (cal_l_letters_right T) (hr.mono (by decide)) (by rfl) (pa_cons (pv 3) (pa_cons (pv 4) (pa_cons (pv 5) pa_nil)))) (pe_one (pe_cal (cal_l_letters_right T) (hr.mono (by decide)) (by rfl) (pa_cons (pv 3) (pa_cons (pv 4) (pa_cons (pv 6) pa_nil))))))))))))))))))), ?_⟩
    refine ⟨_, rfl, p, rfl, hb, fun v n bs H1 o1 b1 ⟨a, bv, e, sq, hbs⟩ va => ?_⟩
    subst e
    obtain ⟨n, rfl⟩ : ∃ m : Nat, n = m := ⟨n.toNat, by have := va.lo; omega⟩
    have n4 := va.hi
    have n1 := va.lo
    refine ⟨_, _, rfl, sq, rfl, _, _, rfl, _, _, rfl, rfl, ?_⟩
    refine ⟨_, rfl, _, rfl, n, bv, bs, .inl rfl, fun _ => hbs, va, fun bw r H2 s2 n2 y2 => ?_⟩
    refine ⟨_, rfl, _, rfl, n, bv, bs, rfl, hbs.same s2, va, fun fv H3 s3 f3 => ⟨_, _, rfl, ?_⟩⟩
    refine ⟨show 3 ≤ sizeLine by decide, fun t nt => ⟨t, rfl, ⟨_, .of upd_same⟩, fun D nD => ?_⟩⟩
    have st := same_new (o := .tup [.int 8, .int 10, .int 6]) nt
    have b3 := (b1.same s2).same s3
    have bt := b3.same st
    have yt := (y2.same s3).same st
    have ft := f3.same st
    have Ot : Off p H (upd H3 t (.tup [.int 8, .int 10, .int 6])) := ((o1.trans (.of_same s2)).trans (.of_same s3)).trans (.of_same st)
    have ntp : t ≠ p := vat_ne b3 nt
    have nDp : D ≠ p := vat_ne bt nD
    have tt : (upd H3 t (.tup [.int 8, .int 10, .int 6])) t = some (.tup [.int 8, .int 10, .int 6]) := upd_same
    generalize upd H3 t (.tup [.int 8, .int 10, .int 6]) = Ht at *
    have sD := same_new (o := .lst []) nD
    refine lc_tup (K := K) (a := t) (xs := [.int 8, .int 10, .int 6]) (fun i H' => Off p Ht H' ∧ VatAt H' p ∧ ∃ (ys : List V) (ws : List (List Nat)), H' D = some (.lst ys) ∧ A2 (TI K H') ys (ws.map castW) ∧ ws.length = i ∧ ∀ w ∈ ws, Rt.In n w ∧ w.length ≤ 10) ⟨.of_same sD, bt.same sD, [], [], upd_same, trivial, rfl, fun _ h => by cases h⟩ (fun i H' _ h => .of (h.1 _ _ ntp tt)) ?_ ?_
    · rintro i x H4 hx ⟨o4, b4, ys, ws, hD4, a4, wl, wok⟩
      obtain ⟨m, rfl, m10⟩ : ∃ m : Nat, x = .int (m : Nat) ∧ m ≤ 10 := by
        have := List.mem_of_getElem? hx
        simp only [List.mem_cons, List.not_mem_nil, or_false] at this
        rcases this with rfl | rfl | rfl
        · exact ⟨8, rfl, by decide⟩
        · exact ⟨10, rfl, by decide⟩
        · exact ⟨6, rfl, by decide⟩
      have i3 : i < 3 := (List.getElem?_eq_some_iff.mp hx).1
      have yl := a4.len
      rw [List.length_map] at yl
      refine ⟨rfl, _, rfl, _, rfl, _, rfl, p, n, m, rfl, b4, by omega, by omega, by omega, fun v5 w5 H5 o5 b5 t5 w5i w5l => ?_⟩
      have hD5 := o5 _ _ nDp hD4
      have off : Off D H5 (upd H5 D (.lst (ys ++ [v5]))) := off_upd
      refine ⟨_, hD5, small1000 (by omega), fun q o nq e => ?_, b5.but off nDp.symm, ys ++ [v5], ws ++ [w5], upd_same, ?_, by rw [List.length_append, wl]; rfl, fun w hw => ?_⟩
      · rw [upd_ne (ne_of_none e nD)]
        exact o5 _ _ nq (o4 _ _ nq e)
      · rw [List.map_append]
        exact (((a4.imp fun _ _ z => z.but o5 b4).snoc t5).imp fun _ _ z => off.ti hD5 z)
      · rcases List.mem_append.mp hw with h | h
        · exact wok w h
        · rw [List.mem_singleton.mp h]
          exact ⟨w5i, by omega⟩
    · rintro H4 ⟨o4, b4, ys, ws, hD4, a4, wl, wok⟩
      have y4 := yt.but o4 bt
      have f4 := ft.but o4 bt
      have O4 := Ot.trans o4
      have yl := a4.len
      rw [List.length_map, wl] at yl
      obtain ⟨w1, w2, w3, rfl⟩ : ∃ w1 w2 w3 : List Nat, ws = [w1, w2, w3] := by
        match ws, wl with
        | [a, b, c], _ => exact ⟨a, b, c, rfl⟩
      obtain ⟨v1, v2, v3, rfl⟩ : ∃ v1 v2 v3 : V, ys = [v1, v2, v3] := by
        match ys, yl with
        | [a, b, c], _ => exact ⟨a, b, c, rfl⟩
      obtain ⟨⟨a1, rfl, q1⟩, ⟨a2, rfl, q2⟩, ⟨a3, rfl, q3⟩, _⟩ := a4
      have i1 := wok w1 (by simp)
      have i2 := wok w2 (by simp)
      have i3 := wok w3 (by simp)
      obtain ⟨h1, l1⟩ := i1
      obtain ⟨h2, l2⟩ := i2
      obtain ⟨h3, l3⟩ := i3
      have B4 : Bn K C H4 p r bw fv n bs [.ref a1, .ref a2, .ref a3] [w1, w2, w3] := ⟨b4, y4, f4, ⟨a1, rfl, q1⟩, ⟨a2, rfl, q2⟩, ⟨a3, rfl, q3⟩, trivial⟩
      have h12 : Rt.In n (w1 ++ w2) := Rt.In.app.mpr ⟨h1, h2⟩
      have h23 : Rt.In n (w2 ++ w3) := Rt.In.app.mpr ⟨h2, h3⟩
      have h123 : Rt.In n (w1 ++ w2 ++ w3) := Rt.In.app.mpr ⟨h12, h3⟩
      have l12 : (w1 ++ w2).length ≤ 20 := by rw [List.length_append]; omega
      have l23 : (w2 ++ w3).length ≤ 20 := by rw [List.length_append]; omega
      have l123 : (w1 ++ w2 ++ w3).length ≤ 30 := by rw [List.length_append]; omega
      obtain ⟨u1, n1', c1, e1, k1, g1⟩ := nf_all va h1
      obtain ⟨u2, n2', c2, e2, k2, g2⟩ := nf_all va h2
      obtain ⟨u12, n12, c12, e12, k12, g12⟩ := nf_all va h12
      obtain ⟨u23, n23, c23, e23, k23, g23⟩ := nf_all va h23
      obtain ⟨u123, n123, c123, e123, k123, g123⟩ := nf_all va h123
      obtain ⟨ur, nr, cr, er, kr, gr⟩ := nf_all va h1.rev
      obtain ⟨vr, mr, dr, fr2, jr, pr⟩ := nf_all va h2.rev
      obtain ⟨xr, nxr, cxr, exr, kxr, gxr⟩ := nf_all va h12.rev
      rw [List.length_reverse] at kr jr kxr
      have wd1 := wd_of h1 (by omega)
      have wd2 := wd_of h2 (by omega)
      have wd3 := wd_of h3 (by omega)
      have wd12 := wd_of g12 (by omega)
      have wd23 := wd_of g23 (by omega)
      have wdr := wd_of gr (by omega)
      have wds := wd_of pr (by omega)
      refine ⟨D, _, rfl, .of hD4, rfl, _, _, rfl, _, _, rfl, _, _, rfl, rfl, ?_⟩
      clear f3 b3 bt yt ft tt st sD hbs
      -- told, later
      refine ⟨_, rfl, _, rfl, _, rfl, .ref r, .ref a1, .ref a2, n, bs, castW w1, castW w2, castW u12, rfl, ⟨r, bw, rfl, B4.y, va, B4.t.1, wd1⟩, B4.t.2.1, wd2, by rw [← castW_app]; exact nw_of va h12 n12 (by omega), by rw [cast_len]; omega, fun v5 H5 s5 t5 => ?_⟩
      have B5 := B4.same s5
      refine ⟨_, rfl, _, rfl, _, rfl, .ref r, .ref a2, .ref a3, n, bs, castW w2, castW w3, castW u23, rfl, ⟨r, bw, rfl, B5.y, va, B5.t.2.1, wd2⟩, B5.t.2.2.1, wd3, by rw [← castW_app]; exact nw_of va h23 n23 (by omega), by rw [cast_len]; omega, fun v6 H6 s6 t6 => ⟨_, _, rfl, ?_⟩⟩
      have B6 : Bn K C H6 p r bw fv n bs [.ref a1, .ref a2, .ref a3, v5, v6] [w1, w2, w3, u12, u23] := ⟨(B5.same s6).b, (B5.same s6).y, (B5.same s6).f, (B5.same s6).t.1, (B5.same s6).t.2.1, (B5.same s6).t.2.2.1, t5.same s6, t6, trivial⟩
      have S6 : Same H4 H6 := s5.trans s6
      clear B4 B5 t5 t6 s5 s6
      -- told != made(one + other)
      have q1' : SqT K H6 a1 ((castW w1).map V.int) := sqT_same S6 q1
      have q2' : SqT K H6 a2 ((castW w2).map V.int) := sqT_same S6 q2
      refine ⟨_, rfl, _, rfl, _, rfl, _, rfl, cat_any q1' q2' (by rw [List.length_map, List.length_map, cast_len, cast_len]; omega) fun v7 H7 s7 ⟨c7, e7, q7⟩ => ?_⟩
      subst e7
      have B7 := B6.same s7
      have t7 : TI K H7 (.ref c7) (castW (w1 ++ w2)) := ⟨c7, rfl, by rw [castW_app, List.map_append]; exact q7⟩
      refine ⟨fv, .ref c7, n, bs, w1 ++ w2, u12, rfl, B7.f, t7, va, h12, n12, by omega, fun v8 H8 s8 t8 => ?_⟩
      have B8 := B7.same s8
      refine ⟨_, _, B8.t.2.2.2.1.dp, t8.dp, sh_dT _, sh_dT _, ?_⟩
      rw [eqv_same]
      refine ⟨_, rfl, iteF ?_⟩
      -- product(told, third) != product(one, later)
      have h' : Rt.In n (u12 ++ w3) := Rt.In.app.mpr ⟨g12, h3⟩
      have h'' : Rt.In n (w1 ++ u23) := Rt.In.app.mpr ⟨h1, g23⟩
      have n' : Rt.Nf n (mB bs) (u12 ++ w3) u123 := nf_cg va h123 h' n123 (c12.symm.right w3)
      have n'' : Rt.Nf n (mB bs) (w1 ++ u23) u123 := nf_cg va h123 h'' n123 (by rw [List.append_assoc]; exact c23.symm.left w1)
      have l' : (u12 ++ w3).length ≤ 30 := by rw [List.length_append]; omega
      have l'' : (w1 ++ u23).length ≤ 30 := by rw [List.length_append]; omega
      refine ⟨_, rfl, _, rfl, _, rfl, .ref r, v5, .ref a3, n, bs, castW u12, castW w3, castW u123, rfl, ⟨r, bw, rfl, B8.y, va, B8.t.2.2.2.1, wd12⟩, B8.t.2.2.1, wd3, by rw [← castW_app]; exact nw_of va h' n' (by omega), by rw [cast_len]; omega, fun v9 H9 s9 t9 => ?_⟩
      have B9 := B8.same s9
      refine ⟨_, rfl, _, rfl, _, rfl, .ref r, .ref a1, v6, n, bs, castW w1, castW u23, castW u123, rfl, ⟨r, bw, rfl, B9.y, va, B9.t.1, wd1⟩, B9.t.2.2.2.2.1, wd23, by rw [← castW_app]; exact nw_of va h'' n'' (by omega), by rw [cast_len]; omega, fun v10 H10 s10 t10 => ?_⟩
      have B10 := B9.same s10
      refine ⟨_, _, (t9.same s10).dp, t10.dp, sh_dT _, sh_dT _, ?_⟩
      rw [eqv_same]
      refine ⟨_, rfl, iteF ?_⟩
      -- back
      have nwr : Nw bs n (castW w1).reverse (castW ur) := by rw [← castW_rev]; exact nw_of va h1.rev nr (by rw [List.length_reverse]; omega)
      refine ⟨_, rfl, _, rfl, .ref r, .ref a1, n, bs, castW w1, castW ur, rfl, ⟨r, bw, rfl, B10.y, va, B10.t.1, wd1⟩, nwr, by rw [cast_len]; omega, fun v11 H11 s11 t11 => ?_⟩
      have S11 : Same H4 H11 := (((S6.trans s7).trans s8).trans s9).trans (s10.trans s11)
      have B11 : Bn K C H11 p r bw fv n bs [.ref a1, .ref a2, .ref a3, v5, v11] [w1, w2, w3, u12, ur] := ⟨(B10.same s11).b, (B10.same s11).y, (B10.same s11).f, (B10.same s11).t.1, (B10.same s11).t.2.1, (B10.same s11).t.2.2.1, (B10.same s11).t.2.2.2.1, t11, trivial⟩
      clear B6 B7 B8 B9 B10 t7 t8 t9 t10 q7 q1' q2'
      -- back != made(one[::-1])
      refine ⟨_, rfl, _, rfl, _, rfl, a1, _, rfl, sqT_same S11 q1, fun q12 n12' => ?_⟩
      have s12 := same_new (o := .tup ((castW w1).map V.int).reverse) n12'
      have B12 := B11.same s12
      have t12 : TI K (upd H11 q12 (.tup ((castW w1).map V.int).reverse)) (.ref q12) (castW w1.reverse) := ⟨q12, rfl, .of (by rw [upd_same, castW_rev, List.map_reverse])⟩
      refine ⟨fv, .ref q12, n, bs, w1.reverse, ur, rfl, B12.f, t12, va, h1.rev, nr, by rw [List.length_reverse]; omega, fun v13 H13 s13 t13 => ?_⟩
      have B13 := B12.same s13
      refine ⟨_, _, B13.t.2.2.2.2.1.dp, t13.dp, sh_dT _, sh_dT _, ?_⟩
      rw [eqv_same]
      refine ⟨_, rfl, iteF ?_⟩
      -- product(one, back) != ()
      have ha : Rt.In n (w1 ++ ur) := Rt.In.app.mpr ⟨h1, gr⟩
      have hb' : Rt.In n (ur ++ w1) := Rt.In.app.mpr ⟨gr, h1⟩
      have na : Rt.Nf n (mB bs) (w1 ++ ur) [] := nf_cg va Rt.In.nil ha (nf_nil va) ((cr.symm.left w1).trans (cg_inv h1))
      have nb' : Rt.Nf n (mB bs) (ur ++ w1) [] := nf_cg va Rt.In.nil hb' (nf_nil va) ((cr.symm.right w1).trans (cg_inv' h1))
      refine ⟨_, rfl, _, rfl, _, rfl, .ref r, .ref a1, v11, n, bs, castW w1, castW ur, castW [], rfl, ⟨r, bw, rfl, B13.y, va, B13.t.1, wd1⟩, B13.t.2.2.2.2.1, wdr, by rw [← castW_app]; exact nw_of va ha na (by rw [List.length_append, List.length_nil]; omega), by decide, fun v14 H14 s14 t14 => ?_⟩
      have B14 := B13.same s14
      refine ⟨Nat.zero_le _, fun e15 n15 => ?_⟩
      have s15 := same_new (o := .tup []) n15
      have B15 := B14.same s15
      have t15 : TI K (upd H14 e15 (.tup [])) (.ref e15) (castW []) := ⟨e15, rfl, .of upd_same⟩
      refine ⟨_, _, (t14.same s15).dp, t15.dp, sh_dT _, sh_dT _, ?_⟩
      rw [eqv_same]
      refine ⟨_, rfl, iteF ?_⟩
      refine ⟨_, rfl, _, rfl, _, rfl, .ref r, v11, .ref a1, n, bs, castW ur, castW w1, castW [], rfl, ⟨r, bw, rfl, B15.y, va, B15.t.2.2.2.2.1, wdr⟩, B15.t.1, wd1, by rw [← castW_app]; exact nw_of va hb' nb' (by rw [List.length_append, List.length_nil]; omega), by decide, fun v16 H16 s16 t16 => ?_⟩
      have B16 := B15.same s16
      refine ⟨Nat.zero_le _, fun e17 n17 => ?_⟩
      have s17 := same_new (o := .tup []) n17
      have B17 := B16.same s17
      have t17 : TI K (upd H16 e17 (.tup [])) (.ref e17) (castW []) := ⟨e17, rfl, .of upd_same⟩
      refine ⟨_, _, (t16.same s17).dp, t17.dp, sh_dT _, sh_dT _, ?_⟩
      rw [eqv_same]
      refine ⟨_, rfl, iteF ?_⟩
      have S17 : Same H4 (upd H16 e17 (.tup [])) := (((S11.trans s12).trans s13).trans s14).trans ((s15.trans s16).trans s17)
      generalize upd H16 e17 (.tup []) = H17 at *
      clear B11 B12 B13 B14 B15 B16 t11 t12 t13 t14 t15 t16 t17
      -- inverse(told) != product(inverse(other), back)
      have nx : Rt.Nf n (mB bs) u12.reverse xr := nf_cg va h12.rev g12.rev nxr c12.symm.rev
      have hvr : Rt.In n (vr ++ ur) := Rt.In.app.mpr ⟨pr, gr⟩
      have nvr : Rt.Nf n (mB bs) (vr ++ ur) xr := nf_cg va h12.rev hvr nxr (by
        rw [List.reverse_append]
        exact (dr.symm.right ur).trans (cr.symm.left w2.reverse))
      refine ⟨_, rfl, _, rfl, .ref r, v5, n, bs, castW u12, castW xr, rfl, ⟨r, bw, rfl, B17.y, va, B17.t.2.2.2.1, wd12⟩, by rw [← castW_rev]; exact nw_of va g12.rev nx (by rw [List.length_reverse]; omega), by rw [cast_len]; omega, fun v18 H18 s18 t18 => ?_⟩
      have B18 := B17.same s18
      refine ⟨_, rfl, _, rfl, _, rfl, .ref r, .ref a2, n, bs, castW w2, castW vr, rfl, ⟨r, bw, rfl, B18.y, va, B18.t.2.1, wd2⟩, by rw [← castW_rev]; exact nw_of va h2.rev mr (by rw [List.length_reverse]; omega), by rw [cast_len]; omega, fun v19 H19 s19 t19 => ?_⟩
      have B19 := B18.same s19
      refine ⟨_, rfl, .ref r, v19, v11, n, bs, castW vr, castW ur, castW xr, rfl, ⟨r, bw, rfl, B19.y, va, t19, wds⟩, B19.t.2.2.2.2.1, wdr, by rw [← castW_app]; exact nw_of va hvr nvr (by rw [List.length_append]; omega), by rw [cast_len]; omega, fun v20 H20 s20 t20 => ?_⟩
      have B20 := B19.same s20
      refine ⟨_, _, (t18.same (s19.trans s20)).dp, t20.dp, sh_dT _, sh_dT _, ?_⟩
      rw [eqv_same]
      refine ⟨_, rfl, iteF ?_⟩
      -- inverse(back) != normal(one)
      have nu : Rt.Nf n (mB bs) ur.reverse u1 := nf_cg va h1 gr.rev n1' (by
        have := cr.symm.rev
        rwa [List.reverse_reverse] at this)
      refine ⟨_, rfl, _, rfl, .ref r, v11, n, bs, castW ur, castW u1, rfl, ⟨r, bw, rfl, B20.y, va, B20.t.2.2.2.2.1, wdr⟩, by rw [← castW_rev]; exact nw_of va gr.rev nu (by rw [List.length_reverse]; omega), by rw [cast_len]; omega, fun v21 H21 s21 t21 => ?_⟩
      have B21 := B20.same s21
      refine ⟨_, rfl, _, rfl, .ref r, .ref a1, n, bs, castW w1, castW u1, rfl, ⟨r, bw, rfl, B21.y, va, B21.t.1, wd1⟩, nw_of va h1 n1' (by omega), by rw [cast_len]; omega, fun v22 H22 s22 t22 => ?_⟩
      have B22 := B21.same s22
      refine ⟨_, _, (t21.same s22).dp, t22.dp, sh_dT _, sh_dT _, ?_⟩
      rw [eqv_same]
      refine ⟨_, rfl, iteF ?_⟩
      -- the size
      refine ⟨_, rfl, _, rfl, .ref r, .ref a1, n, bs, castW w1, castW u1, rfl, ⟨r, bw, rfl, B22.y, va, B22.t.1, wd1⟩, nw_of va h1 n1' (by omega), by rw [cast_len]; omega, fun H23 s23 => ?_⟩
      have B23 := B22.same s23
      refine ⟨_, rfl, _, rfl, .ref r, .ref a2, n, bs, castW w2, castW u2, rfl, ⟨r, bw, rfl, B23.y, va, B23.t.2.1, wd2⟩, nw_of va h2 n2' (by omega), by rw [cast_len]; omega, fun H24 s24 => ⟨_, _, rfl, rfl, ?_⟩⟩
      have B24 := B23.same s24
      refine ⟨_, rfl, _, rfl, .ref r, v5, n, bs, castW u12, castW u12, rfl, ⟨r, bw, rfl, B24.y, va, B24.t.2.2.2.1, wd12⟩, nw_of va g12 (nf_cg va h12 g12 n12 c12.symm) (by omega), by rw [cast_len]; omega, fun H25 s25 => ⟨_, _, rfl, rfl, ?_⟩⟩
      have B25 := B24.same s25
      have hle : u12.length ≤ u1.length + u2.length := by
        rw [e12, e1, e2]
        exact Rt.len_app w1 w2
      have hpar : (u1.length + u2.length) % 2 = u12.length % 2 := by
        have z1 := Rt.len_par (n := n) (m := mB bs) w1
        have z2 := Rt.len_par (n := n) (m := mB bs) w2
        have z3 := Rt.len_par (n := n) (m := mB bs) (w1 ++ w2)
        rw [List.length_append] at z3
        omega
      rw [cast_len, cast_len, cast_len]
      refine ⟨_, rfl, _, _, rfl, rfl, _, rfl, ite2 (fun z => ?_) (fun _ => ?_)⟩
      · exfalso
        have := of_decide_eq_true z
        omega
      refine ⟨_, rfl, _, _, rfl, rfl, show (0 : Int) < 2 by decide, rfl, _, rfl, ite2 (fun z => ?_) (fun _ => ?_)⟩
      · exfalso
        have e0 : V.int (((u1.length : Nat) + (u2.length : Nat) - (u12.length : Nat) : Int) % 2) = V.int 0 := by rw [show (((u1.length : Nat) + (u2.length : Nat) - (u12.length : Nat) : Int) % 2) = 0 by omega]
        have z' : (!decide (V.int (((u1.length : Nat) + (u2.length : Nat) - (u12.length : Nat) : Int) % 2) = V.int 0)) = true := z
        rw [decide_eq_true e0] at z'
        cases z'
      refine ⟨_, rfl, _, rfl, Nat.zero_le _, fun e26 n26 => ?_⟩
      have s26 := same_new (o := .tup []) n26
      have B26 := B25.same s26
      have t26 : TI K (upd H25 e26 (.tup [])) (.ref e26) (castW []) := ⟨e26, rfl, .of upd_same⟩
      have h0 : Rt.In n (w1 ++ []) := by rw [List.append_nil]; exact h1
      refine ⟨.ref r, .ref a1, .ref e26, n, bs, castW w1, castW [], castW u1, rfl, ⟨r, bw, rfl, B26.y, va, B26.t.1, wd1⟩, t26, wd_of Rt.In.nil (by decide), by rw [← castW_app]; exact nw_of va h0 (by rw [List.append_nil]; exact n1') (by rw [List.append_nil]; omega), by rw [cast_len]; omega, fun v27 H27 s27 t27 => ?_⟩
      have B27 := B26.same s27
      refine ⟨_, rfl, _, rfl, .ref r, .ref a1, n, bs, castW w1, castW u1, rfl, ⟨r, bw, rfl, B27.y, va, B27.t.1, wd1⟩, nw_of va h1 n1' (by omega), by rw [cast_len]; omega, fun v28 H28 s28 t28 => ?_⟩
      have B28 := B27.same s28
      refine ⟨_, _, (t27.same s28).dp, t28.dp, sh_dT _, sh_dT _, ?_⟩
      rw [eqv_same]
      refine ⟨_, rfl, iteF ?_⟩
      refine ⟨_, rfl, _, rfl, _, rfl, r, bw, fv, .ref a1, n, bs, w1, rfl, B28.y, B28.f, B28.t.1, va, h1, by omega, fun H29 s29 => ?_⟩
      have B29 := B28.same s29
      refine ⟨_, rfl, iteT ?_⟩
      refine ⟨_, rfl, _, rfl, _, rfl, r, bw, fv, .ref a2, n, bs, w2, rfl, B29.y, B29.f, B29.t.2.1, va, h2, by omega, fun H30 s30 => ?_⟩
      have B30 := B29.same s30
      refine k _ (O4.trans (.of_same ?_)) B30.b
      exact S17.trans (((((((s18.trans s19).trans s20).trans s21).trans s22).trans s23).trans ((s24.trans s25).trans s26)).trans (((s27.trans s28).trans s29).trans s30))
end
end Sk

namespace Sk
open PySem L2 Ow
def smB (i : Int) : Bool := decide (-1000000 ≤ i) && decide (i ≤ 1000000)
def fineB (st : List (List Int)) : Bool := st.all fun x => x.getD 1 0 == 0 || (smB (x.getD 0 0) && smB (x.getD 1 0))
theorem smB_ok {i : Int} (h : smB i = true) : B 1000 i := by
  unfold smB at h
  obtain ⟨h1, h2⟩ := Bool.and_eq_true_iff.mp h
  have h1 := of_decide_eq_true h1
  have h2 := of_decide_eq_true h2
  unfold B
  exact Nat.lt_of_le_of_lt (show i.natAbs ≤ 1000000 by omega) (by decide)
theorem fineB_ok {st : List (List Int)} (h : fineB st = true) : Fine st := fun x hx => by
  have z := List.all_eq_true.mp h x hx
  rcases Bool.or_eq_true_iff.mp z with z | z
  · exact .inl (eq_of_beq z)
  · obtain ⟨a, b⟩ := Bool.and_eq_true_iff.mp z
    exact .inr ⟨smB_ok a, smB_ok b⟩
def stB (n : Nat) (st : List (List Int)) : Bool := st.length == n && st.all fun x => x.length == 2
theorem stB_ok {n : Nat} {st : List (List Int)} (h : stB n st = true) : StOk n st := by
  obtain ⟨a, b⟩ := Bool.and_eq_true_iff.mp h
  refine ⟨eq_of_beq a, fun x hx => ?_⟩
  have z : x.length = 2 := eq_of_beq (List.all_eq_true.mp b x hx)
  match x, z with
  | [a, b], _ => exact ⟨a, b, rfl⟩
def fineLB (lk : List (List (List Int))) (n : Nat) (lv : Lv) : Bool := lv.all fun p => stB n p.1 && (fineB p.1 && (decide (p.2.length ≤ 100) && (List.range n).all fun l => fineB (putA lk p.1 (l : Int))))
theorem fineLB_ok {lk : List (List (List Int))} {n : Nat} {lv : Lv} (h : fineLB lk n lv = true) : fineL lk n lv := fun p hp => by
  obtain ⟨a, h⟩ := Bool.and_eq_true_iff.mp (List.all_eq_true.mp h p hp)
  obtain ⟨b, h⟩ := Bool.and_eq_true_iff.mp h
  obtain ⟨c, h⟩ := Bool.and_eq_true_iff.mp h
  refine ⟨stB_ok a, fineB_ok b, of_decide_eq_true c, fun l l0 l1 => ?_⟩
  obtain ⟨k, rfl⟩ : ∃ k : Nat, l = (k : Nat) := ⟨l.toNat, by omega⟩
  exact fineB_ok (List.all_eq_true.mp h k (List.mem_range.mpr (by omega)))
def bdB (u : List Int) : Bool := u.all fun x => decide (0 ≤ x) && decide (x < 8)
theorem bdB_ok {u : List Int} (h : bdB u = true) : TS.Bd 8 u := fun m hm => by
  obtain ⟨a, b⟩ := Bool.and_eq_true_iff.mp (List.all_eq_true.mp h m hm)
  exact ⟨of_decide_eq_true a, of_decide_eq_true b⟩
def ascB : List (List Int) → Bool
  | [] => true
  | u :: us => (us.all fun v => decide (TS.code 8 u < TS.code 8 v)) && ascB us
theorem ascB_ok : ∀ {us : List (List Int)}, ascB us = true → us.Pairwise fun a b => TS.code 8 a < TS.code 8 b
  | [], _ => .nil
  | u :: us, h => by
    obtain ⟨a, b⟩ := Bool.and_eq_true_iff.mp h
    exact .cons (fun v hv => of_decide_eq_true (List.all_eq_true.mp a v hv)) (ascB_ok b)
theorem asc_inj {us : List (List Int)} (h : us.Pairwise fun a b => TS.code 8 a < TS.code 8 b) : ∀ {a b : List Int}, a ∈ us → b ∈ us → TS.code 8 a ≤ TS.code 8 b → TS.code 8 b ≤ TS.code 8 a → a = b := by
  induction h with
  | nil => intro a b ha; cases ha
  | cons hx _ ih =>
    intro a b ha hb h1 h2
    rcases List.mem_cons.mp ha with e | ha <;> rcases List.mem_cons.mp hb with f | hb
    · rw [e, f]
    · rw [e] at h2
      have := hx _ hb
      omega
    · rw [f] at h1
      have := hx _ ha
      omega
    · exact ih ha hb h1 h2
theorem perm_small {a b : List (List Int)} (h : a.Perm b) (l : b.length < 2) : a = b := by
  match b, l with
  | [], _ => exact h.eq_nil
  | [x], _ => exact List.perm_singleton.mp h
def chainB (lk : List (List (List Int))) (n : Nat) : Nat → Lv → List (List (List Int)) → Bool
  | _, lv, [] => lv.isEmpty
  | d, lv, s :: ss => !lv.isEmpty && (decide (lv.length < 64) && (fineLB lk n lv && ((decide (lv.length < 2) || (decide (1 ≤ d) && (lv.all fun p => p.2.length == d && bdB p.2))) && (s.isPerm (lv.map (·.2)) && (ascB s &&
    match nextO lk n lv with
    | none => false
    | some lv' => chainB lk n (d + 1) lv' ss)))))
theorem chainB_ok {lk : List (List (List Int))} {n : Nat} : ∀ {ss : List (List (List Int))} {d : Nat} {lv : Lv}, chainB lk n d lv ss = true → Chain lk n lv ss.flatten
  | [], d, lv, h => by
    unfold chainB at h
    rw [List.isEmpty_iff.mp h]
    exact .done
  | s :: ss, d, lv, h => by
    unfold chainB at h
    obtain ⟨h1, h⟩ := Bool.and_eq_true_iff.mp h
    obtain ⟨h2, h⟩ := Bool.and_eq_true_iff.mp h
    obtain ⟨h3, h⟩ := Bool.and_eq_true_iff.mp h
    obtain ⟨h4, h⟩ := Bool.and_eq_true_iff.mp h
    obtain ⟨h5, h⟩ := Bool.and_eq_true_iff.mp h
    obtain ⟨h6, h⟩ := Bool.and_eq_true_iff.mp h
    have pm := List.isPerm_iff.mp h5
    have as := ascB_ok h6
    cases e : nextO lk n lv with
    | none =>
      rw [e] at h
      cases h
    | some lv' =>
      rw [e] at h
      rw [List.flatten_cons]
      refine .step (d := d) (B := 8) (fun z => by rw [z] at h1; cases h1) (of_decide_eq_true h2) (fineLB_ok h3) (fun l2 => ?_) (fun zs pz pw => ?_) e (chainB_ok h)
      · rcases Bool.or_eq_true_iff.mp h4 with z | z
        · have := of_decide_eq_true z
          omega
        · obtain ⟨z1, z2⟩ := Bool.and_eq_true_iff.mp z
          refine ⟨of_decide_eq_true z1, fun u hu => ?_⟩
          obtain ⟨p, hp, rfl⟩ := List.mem_map.mp hu
          obtain ⟨y1, y2⟩ := Bool.and_eq_true_iff.mp (List.all_eq_true.mp z2 p hp)
          exact ⟨eq_of_beq y1, bdB_ok y2⟩
      · have ps : zs.Perm s := pz.trans pm.symm
        by_cases l2 : 2 ≤ lv.length
        · refine List.Perm.eq_of_pairwise (le := fun a b => TS.code 8 a ≤ TS.code 8 b) (fun a b ha hb h1 h2 => asc_inj as (ps.mem_iff.mp ha) hb h1 h2) (pw l2) (as.imp fun h => Int.le_of_lt h) ps
        · refine perm_small ps ?_
          have := pm.length_eq
          rw [List.length_map] at this
          omega
end Sk

namespace Sk
open PySem L2 Ow
def signedD (p : Int) : Dat := (p, [0, 1, 4] :: nb 1 p)
def polyD (b : Int) : Dat := (2, [[0, 1, b]])
def twentyD : Dat := (3, [[0, 1, 5], [1, 2, 3]])
section
variable {X : Cx} {k i : Nat} {C : Addr} {e o : Expr} {es : List Expr} {ta : TE} {t : TA} {p pos apos : Pos} {x : Str}
def tCMeth0 (C : Addr) (sp : Sp) (E : XK) (ta : TE) : TE := fun σ H Q => ta σ H fun x H1 => x = .ref C ∧ sp [.ref C] H1 Q E
theorem pe_cmeth0 {CX : CXT} {sp : Sp} {E : XK} {m : Str} {mc : Value} {q g : Addr} {pl : Sem Bool} (he : PE X o ta) (r : ClX.CRead X.K C mc) (c : ClX.CMet X.K C mc m q g) (F : FnR X.prog X.w X.K X.mg X.base CX k g sp) (hr : Room k X.A) (hx : Passes CX X E)
    (ht : eval (.Call (.Attribute o m apos) [] [] pos) X.env = (do
      let ov ← eval o X.env
      standAt apos.atName
      let (f, first) ← holding [ov] (getMethod ov m pl)
      callWith pos f first (backTo pos (starEach [] X.env)) (backToKw pos (keywordEach [] X.env))) := by rfl) :
    PE X (.Call (.Attribute o m apos) [] [] pos) (tCMeth0 C sp E ta) := by
  refine ⟨fun pins s σ H Q I h => ?_⟩
  refine PySem.W.methodCall_KW (pl := pl) (thn (he.run pins s σ H _ I h) fun u s1 ⟨x, H1, I1, rx, ex, q⟩ => ?_) ht
  subst ex
  obtain rfl : u = Value.ref C := rx
  refine ClX.getmethcm_ok I1 r c fun s2 I2 => ?_
  refine PySem.W.callWith_M0 (K := X.K) (first := []) ⟨ClX.pin_at I2, I2.kIn⟩ c.fi ?_
  exact ClX.run_cm (us := []) (vs := []) F hr hx I2 .nil q
end
section
variable {P : Program} {w : World} {K : PySem.W.Frag} {mg : Str → Option Value} {base : Heap} {C : Addr}
theorem ok_signed (T : Txt K mg C) {f : Addr} {fd : FuncData} (D : Fun K "signed" "System.signed" s_signed f fd) : FnOk P w K mg base CX0 6 f fd ["cls", "places"] (spC K C (fun p => p = 2) signedD) := by
  refine D.ok sc_signed (fun vs H Q E h => ?_) (fun cdv A outer s H vs Q E hr h => ?_)
  · obtain ⟨i, rfl, _⟩ := h
    rfl
  · obtain ⟨_, rfl, rfl, q⟩ := h
    refine ⟨_, (pss_cons (ps_if (pt_not (pt_val (pe_cal (cal_is_within T) (hr.mono (by decide)) (by rfl) (pa_cons (pv 1) (pa_cons pe_int (pa_cons pe_int pa_nil)))))) (pss_one ps_never) pss_nil)
      (pss_one (ps_ret (pe_cls (i := 0) T (hr.mono (by decide)) rfl (Or.inl rfl) (pa_cons (pv 1) (pa_cons (pe_tup (pa_cons (pe_tup (pa_cons pe_int (pa_cons pe_int (pa_cons pe_int pa_nil)))) (StX.pa_star (pe_cal (cal_neighbours T) (hr.mono (by decide)) (by rfl) (pa_cons pe_int (pa_cons (pv 1) pa_nil))) pa_nil))) pa_nil)))))), ?_⟩
    refine ⟨_, rfl, _, _, _, rfl, _, rfl, iteNT' (by decide) ?_⟩
    refine ⟨rfl, _, rfl, show 3 ≤ sizeLine by decide, fun p0 n0 => ?_⟩
    have s1 := same_new (o := .tup [.int 0, .int 1, .int 4]) n0
    have t1 : TI K (upd H p0 (.tup [.int 0, .int 1, .int 4])) (.ref p0) [0, 1, 4] := ⟨p0, rfl, .of upd_same⟩
    refine ⟨_, rfl, _, _, rfl, by omega, by omega, by omega, by omega, fun v2 H2 s2 hb => ?_⟩
    obtain ⟨a, xs, rfl, ha, hx⟩ := hb
    refine ⟨a, xs, rfl, .inl ha, ?_⟩
    have hl := hx.len
    have hn : (nb 1 2).length ≤ 4 := by decide
    refine ⟨szl (by simp only [List.length_cons, List.length_append, List.length_nil]; omega), fun p np => ?_⟩
    refine ⟨_, .ref p, [0, 1, 4] :: nb 1 2, .inl rfl, fun _ => ⟨p, _, rfl, .of upd_same, ?_⟩, okB_valid (d := signedD 2) (by decide), q.sys (s1.trans (s2.trans (same_new np))) rfl⟩
    rw [List.append_nil]
    exact ⟨(t1.same s2).same (same_new np), hx.same (same_new np)⟩
theorem ok_polygon (T : Txt K mg C) {f : Addr} {fd : FuncData} (D : Fun K "polygon" "System.polygon" s_polygon f fd) : FnOk P w K mg base CX0 6 f fd ["cls", "bond"] (spC K C (fun p => p = 5) polyD) := by
  refine D.ok sc_polygon (fun vs H Q E h => ?_) (fun cdv A outer s H vs Q E hr h => ?_)
  · obtain ⟨i, rfl, _⟩ := h
    rfl
  · obtain ⟨_, rfl, rfl, q⟩ := h
    obtain ⟨aB, gB, sB⟩ := T.gB
    refine ⟨_, (pss_cons (ps_if (PW.pt (pw_or (pt_not (pt_val (pe_cal (cal_is_within T) (hr.mono (by decide)) (by rfl) (pa_cons (pv 1) (pa_cons pe_int (pa_cons pe_int pa_nil)))))) (pw_or1 (pt_cmpR op_notIn_seq (pv 1) (pe_bonds (by rfl) gB) (by rfl))))) (pss_one ps_never) pss_nil)
      (pss_one (ps_ret (pe_cls (i := 0) T (hr.mono (by decide)) rfl (Or.inl rfl) (pa_cons pe_int (pa_cons (pe_ifExp (pt_cmpR op_eq (pv 1) pe_int (nomark _)) (pe_tup pa_nil) (pe_tup (pa_cons (pe_tup (pa_cons pe_int (pa_cons pe_int (pa_cons (pv 1) pa_nil)))) pa_nil))) pa_nil)))))), ?_⟩
    refine ⟨_, rfl, _, _, _, rfl, _, rfl, iteNT' (by decide) ?_⟩
    refine ⟨_, rfl, _, _, rfl, .inr (sB H), rfl, rfl, _, rfl, iteF ?_⟩
    refine ⟨rfl, _, rfl, rfl, _, rfl, iteF ?_⟩
    refine ⟨_, rfl, show 3 ≤ sizeLine by decide, fun p0 n0 => ⟨show 1 ≤ sizeLine by decide, fun p np => ?_⟩⟩
    have s1 := same_new (o := .tup [.int 0, .int 1, .int 5]) n0
    exact ⟨_, .ref p, [[0, 1, 5]], .inl rfl, fun _ => ⟨p, _, rfl, .of upd_same, ⟨p0, rfl, .of (same_new np _ _ upd_same)⟩, trivial⟩, okB_valid (d := polyD 5) (by decide), q.sys (s1.trans (same_new np)) rfl⟩
theorem ok_twenty (T : Txt K mg C) {f : Addr} {fd : FuncData} (D : Fun K "twenty" "System.twenty" s_twenty f fd) : FnOk P w K mg base CX0 6 f fd ["cls"] (fun vs H Q _ => vs = [.ref C] ∧ NewD K C H Q twentyD) := by
  refine D.ok sc_twenty (fun vs H Q E h => ?_) (fun cdv A outer s H vs Q E hr h => ?_)
  · obtain ⟨rfl, _⟩ := h
    rfl
  · obtain ⟨rfl, q⟩ := h
    refine ⟨_, (pss_one (ps_ret (pe_cls (i := 0) T (hr.mono (by decide)) rfl (Or.inl rfl) (pa_cons pe_int (pa_cons (pe_bs (pas_cons pe_ti3 (pas_cons pe_ti3 pas_nil))) pa_nil))))), ?_⟩
    exact ⟨rfl, fun v H1 s1 hb => ⟨_, v, _, .inl rfl, fun _ => hb, okB_valid (d := twentyD) (by decide), q.sys s1 rfl⟩⟩
section
variable {X : Cx} {o e : Expr} {ta : TE} {t : TA} {apos pos : Pos}
theorem pe_cSigned {pl : Sem Bool} (T : Txt X.K X.mg C) (hr : Room 6 X.A) (he : PE X o ta) (ha : PA X [e] t)
    (hst : starEach [e] X.env = (false, eval e X.env) :: starEach [] X.env := by rfl)
    (ht : eval (.Call (.Attribute o "signed" apos) [e] [] pos) X.env = (do
      let ov ← eval o X.env
      standAt apos.atName
      let (f, first) ← holding [ov] (getMethod ov "signed" pl)
      callWith pos f first (backTo pos (starEach [e] X.env)) (backToKw pos (keywordEach [] X.env))) := by rfl) :
    PE X (.Call (.Attribute o "signed" apos) [e] [] pos) (ClX.tCMeth C (spC X.K C (fun p => p = 2) signedD) E0 ta t) := by
  obtain ⟨_, _, _, c, D⟩ := T.cSigned
  exact ClX.pe_cmeth he T.crd c (unraw (ok_signed T D) (D.binds fun _ _ _ _ _ _ us hl => match us, hl with | [_, _], _ => rfl)) hr pass0 ha hst rfl ht
theorem pe_cPolygon {pl : Sem Bool} (T : Txt X.K X.mg C) (hr : Room 6 X.A) (he : PE X o ta) (ha : PA X [e] t)
    (hst : starEach [e] X.env = (false, eval e X.env) :: starEach [] X.env := by rfl)
    (ht : eval (.Call (.Attribute o "polygon" apos) [e] [] pos) X.env = (do
      let ov ← eval o X.env
      standAt apos.atName
      let (f, first) ← holding [ov] (getMethod ov "polygon" pl)
      callWith pos f first (backTo pos (starEach [e] X.env)) (backToKw pos (keywordEach [] X.env))) := by rfl) :
    PE X (.Call (.Attribute o "polygon" apos) [e] [] pos) (ClX.tCMeth C (spC X.K C (fun p => p = 5) polyD) E0 ta t) := by
  obtain ⟨_, _, _, c, D⟩ := T.cPolygon
  exact ClX.pe_cmeth he T.crd c (unraw (ok_polygon T D) (D.binds fun _ _ _ _ _ _ us hl => match us, hl with | [_, _], _ => rfl)) hr pass0 ha hst rfl ht
theorem pe_cTwenty {pl : Sem Bool} (T : Txt X.K X.mg C) (hr : Room 6 X.A) (he : PE X o ta)
    (ht : eval (.Call (.Attribute o "twenty" apos) [] [] pos) X.env = (do
      let ov ← eval o X.env
      standAt apos.atName
      let (f, first) ← holding [ov] (getMethod ov "twenty" pl)
      callWith pos f first (backTo pos (starEach [] X.env)) (backToKw pos (keywordEach [] X.env))) := by rfl) :
    PE X (.Call (.Attribute o "twenty" apos) [] [] pos) (tCMeth0 C (fun vs H Q _ => vs = [.ref C] ∧ NewD X.K C H Q twentyD) E0 ta) := by
  obtain ⟨_, _, _, c, D⟩ := T.cTwenty
  exact pe_cmeth0 he T.crd c (unraw (ok_twenty T D) (D.binds fun _ _ _ _ _ _ us hl => match us, hl with | [_], _ => rfl)) hr pass0 ht
end
end
end Sk

namespace Sk
open PySem L2 Ow
def runsF (lk : List (List (List Int))) : List (List Int) → List Int → Bool
  | st, [] => fineB st && (lefts st).isEmpty
  | st, l :: ws => fineB st && ((lefts st).head? == some l && runsF lk (putA lk st l) ws)
theorem runsF_ok {lk : List (List (List Int))} : ∀ {ws : List Int} {st : List (List Int)}, runsF lk st ws = true → Runs lk st ws
  | [], st, h => by
    unfold runsF at h
    have h := Bool.and_eq_true_iff.mp h
    exact .done (fineB_ok h.1) (List.isEmpty_iff.mp h.2)
  | l :: ws, st, h => by
    unfold runsF at h
    have h := Bool.and_eq_true_iff.mp h
    have h2 := Bool.and_eq_true_iff.mp h.2
    have h3 := eq_of_beq h2.1
    cases e : lefts st with
    | nil => rw [e] at h3; cases h3
    | cons a r =>
      rw [e] at h3
      obtain rfl : a = l := Option.some.inj h3
      exact .step (fineB_ok h.1) e (runsF_ok h2.2)
structure Box (n : Nat) (bs : List (List Int)) (W : List (List Int)) (top : List Int) : Prop where
  va : Valid n bs
  ch : Chain (lkOf bs n) n [(first n, [])] W
  few : W.length ≤ 120
  wd : ∀ w ∈ W, Wd n w ∧ Fine (stOf bs n w.reverse)
  flt : (W.filter fun w => decide (lefts (stOf bs n w.reverse) = upto n)) = [top]
  wt : Wd n top
  inv : Nw bs n top.reverse top
  last : atI W (-1) = some top
def wdB (n : Nat) (w : List Int) : Bool := (w.all fun x => decide (0 ≤ x) && decide (x < n)) && decide (w.length ≤ 40)
theorem wdB_ok {n : Nat} {w : List Int} (h : wdB n w = true) : Wd n w := by
  obtain ⟨a, b⟩ := Bool.and_eq_true_iff.mp h
  refine ⟨fun x hx => ?_, of_decide_eq_true b⟩
  obtain ⟨c, d⟩ := Bool.and_eq_true_iff.mp (List.all_eq_true.mp a x hx)
  exact ⟨of_decide_eq_true c, of_decide_eq_true d⟩
def boxB (n : Nat) (bs : List (List Int)) (ss : List (List (List Int))) (top : List Int) : Bool :=
  okB (n, bs) && (chainB (lkOf bs n) n 0 [(first n, [])] ss && (decide (ss.flatten.length ≤ 120) && ((ss.flatten.all fun w => wdB n w && fineB (stOf bs n w.reverse)) &&
  (((ss.flatten.filter fun w => decide (lefts (stOf bs n w.reverse) = upto n)) == [top]) && (wdB n top && (runsF (lkOf bs n) (stOf bs n top.reverse) top && (atI ss.flatten (-1) == some top)))))))
theorem boxB_ok {n : Nat} {bs : List (List Int)} {ss : List (List (List Int))} {top : List Int} (h : boxB n bs ss top = true) : Box n bs ss.flatten top := by
  obtain ⟨h1, h⟩ := Bool.and_eq_true_iff.mp h
  obtain ⟨h2, h⟩ := Bool.and_eq_true_iff.mp h
  obtain ⟨h3, h⟩ := Bool.and_eq_true_iff.mp h
  obtain ⟨h4, h⟩ := Bool.and_eq_true_iff.mp h
  obtain ⟨h5, h⟩ := Bool.and_eq_true_iff.mp h
  obtain ⟨h6, h⟩ := Bool.and_eq_true_iff.mp h
  obtain ⟨h7, h⟩ := Bool.and_eq_true_iff.mp h
  refine ⟨okB_valid h1, chainB_ok h2, of_decide_eq_true h3, fun w hw => ?_, eq_of_beq h5, wdB_ok h6, runsF_ok h7, eq_of_beq h⟩
  obtain ⟨a, b⟩ := Bool.and_eq_true_iff.mp (List.all_eq_true.mp h4 w hw)
  exact ⟨wdB_ok a, fineB_ok b⟩
def ss1 : List (List (List Int)) := [[[]], [[0], [1], [2]], [[0, 1], [0, 2], [1, 0], [1, 2], [2, 1]], [[0, 1, 0], [0, 1, 2], [0, 2, 1], [1, 0, 2], [1, 2, 1], [2, 1, 0]], [[0, 1, 0, 2], [0, 1, 2, 1], [0, 2, 1, 0], [1, 0, 2, 1], [1, 2, 1, 0]], [[0, 1, 0, 2, 1], [0, 1, 2, 1, 0], [1, 0, 2, 1, 0]], [[0, 1, 0, 2, 1, 0]]]
theorem box1 : Box 3 (nb 0 3) ss1.flatten [0, 1, 0, 2, 1, 0] := boxB_ok (by decide +kernel)
def ss2 : List (List (List Int)) := [[[]], [[0], [1]], [[0, 1], [1, 0]], [[0, 1, 0], [1, 0, 1]], [[0, 1, 0, 1]]]
theorem box2 : Box 2 ([0, 1, 4] :: nb 1 2) ss2.flatten [0, 1, 0, 1] := boxB_ok (by decide +kernel)
def ss3 : List (List (List Int)) := [[[]], [[0], [1]], [[0, 1], [1, 0]], [[0, 1, 0], [1, 0, 1]], [[0, 1, 0, 1], [1, 0, 1, 0]], [[0, 1, 0, 1, 0]]]
theorem box3 : Box 2 [[0, 1, 5]] ss3.flatten [0, 1, 0, 1, 0] := boxB_ok (by decide +kernel)
def ss4 : List (List (List Int)) := [[[]], [[0], [1]], [[0, 1]]]
theorem box4 : Box 2 [] ss4.flatten [0, 1] := boxB_ok (by decide +kernel)
theorem law1 : Nw (nb 0 3) 3 [0, 1, 0, 1] [1, 0] := runsF_ok (by decide +kernel)
theorem law2 : Nw [[0, 1, 5], [1, 2, 3]] 3 [2, 1, 0] [2, 1, 0] := runsF_ok (by decide +kernel)
theorem law3 : Fine (stOf (nb 0 3) 3 [0, 1, 0]) := fineB_ok (by decide +kernel)
theorem law4 : lefts (stOf (nb 0 3) 3 [0, 1, 0]) = [0, 1] := by decide +kernel
theorem law5 : Fine (stOf (nb 0 3) 3 [1, 2, 0]) := fineB_ok (by decide +kernel)
theorem law6 : lefts (stOf (nb 0 3) 3 [1, 2, 0]) = [1] := by decide +kernel
theorem at_len {α β : Type} {R : α → β → Prop} {xs : List α} {ys : List β} (hl : xs.length = ys.length) (h : ∀ (i : Nat) (y : β), ys[i]? = some y → ∃ x, xs[i]? = some x ∧ R x y) {j : Int} {y : β} (e : atI ys j = some y) : ∃ x, atI xs j = some x ∧ R x y := by
  unfold atI at e ⊢
  rw [hl]
  cases z : ixN ys.length j with
  | none => rw [z] at e; cases e
  | some i =>
    rw [z] at e
    exact h i y e
end Sk

namespace Sk
open PySem L2 Ow
def spLaw (K : PySem.W.Frag) : Sp := fun vs H Q _ => ∃ (a : Addr) (ns : List Int), vs = [.ref a] ∧ SqL K H a (ns.map V.int) ∧ ns.length ≤ 63 ∧ ∀ H', Q (.bl true) H'
/-- a system of the four, as it stands -/
def BoxAt (K : PySem.W.Frag) (C : Addr) (H : Hp) (x : V) : Prop := ∃ (r : Addr) (n : Nat) (bv : V) (bs W : List (List Int)) (top : List Int), x = .ref r ∧ SysAt K C H r n bv bs ∧ Box n bs W top
section
variable {P : Program} {w : World} {K : PySem.W.Frag} {mg : Str → Option Value} {base : Heap} {C : Addr}
theorem ok_law (T : Txt K mg C) {f : Addr} {fd : FuncData} (D : Fun K "law" "law" s_law f fd) : FnOk P w K mg base CX0 11 f fd ["_law_script"] (spLaw K) := by
  refine D.ok sc_law (fun vs H Q E h => ?_) (fun cdv A outer s H vs Q E hr h => ?_)
  · obtain ⟨a, ns, rfl, _⟩ := h
    rfl
  · obtain ⟨sa, ns, rfl, hs, hlen, k⟩ := h
    refine ⟨_, (pss_cons (ps_for PassesOwn.never rfl (pi_range1 (by rfl) T.b_range (pa_cons (pe_callB (call_max2 rfl) (by rfl) T.b_max (by decide +kernel) (pa_cons pe_int (pa_cons (pe_callB (call_min2 rfl) (by rfl) T.b_min (by decide +kernel) (pa_cons pe_int (pa_cons (pe_callB call_len_seq (by rfl) T.b_len (by decide +kernel) (pa_cons (pv 0) pa_nil)) pa_nil))) pa_nil))) pa_nil)) (pg_name (i := 1) sc_law.nd rfl (Or.inl rfl)) (pss_cons (ps_set (i := 2) sc_law.nd rfl (Or.inl rfl) (pe_cal (cal_l_vat T) (hr.mono (by decide)) (by rfl) (pa_cons (pv 0) (pa_cons (pv 1) pa_nil))))
      (pss_one (ps_for PassesOwn.never rfl (pi_range1 (by rfl) T.b_range (pa_cons pe_int pa_nil)) (pg_name (i := 3) sc_law.nd rfl (Or.inl rfl)) (pss_one (ps_if (pt_not (pt_val (pe_cal (cal_l_right T) (hr.mono (by decide)) (by rfl) (pa_cons (pv 2) pa_nil)))) (pss_one (ps_ret pe_bl)) pss_nil))))))
      (pss_cons (ps_for PassesOwn.never rfl (pi_tup (pe_tup (pa_cons (pe_cRows T (hr.mono (by decide)) (pe_glob (v := .ref C) (by rfl) T.mgSystem rfl) (pa_cons pe_int pa_nil)) (pa_cons (pe_cSigned T (hr.mono (by decide)) (pe_glob (v := .ref C) (by rfl) T.mgSystem rfl) (pa_cons pe_int pa_nil)) (pa_cons (pe_cPolygon T (hr.mono (by decide)) (pe_glob (v := .ref C) (by rfl) T.mgSystem rfl) (pa_cons pe_int pa_nil)) (pa_cons (pe_sys T (hr.mono (by decide)) (by rfl) (pa_cons pe_int pa_nil)) pa_nil)))))) (pg_name (i := 4) sc_law.nd rfl (Or.inr rfl)) (pss_cons (ps_set (i := 5) sc_law.nd rfl (Or.inr rfl) (pe_tupRg rfl (by rfl) T.b_tuple (prg_1 (by rfl) T.b_range (pe_sletters T (hr.mono (by decide)) (pv 4)))))
      (pss_cons (ps_setLc (i := 6) (own := [("_law_word_here", 7)]) (g := gName 7) rfl sc_law.nd rfl rfl (sw_true rfl rfl rfl (by decide +kernel)) (pi_tup (pe_cal (cal_members T) (hr.mono (by decide)) (by rfl) (pa_cons (pv 4) pa_nil))) (blkOk_by (own := [("_law_word_here", 7)]) (N := ["_law_script", "_law_spot", "_law_vat_here", "_law_turn", "_law_system_here", "_law_every", "_law_some", "_law_word_here", "_law_four"]) (sc := defScope s_law) (by decide +kernel)) (fun _ _ _ _ _ => (pg_name (i := 7) sc_law.nd rfl (Or.inl rfl))) (fun _ _ _ _ _ => (pts_one (pt_cmpR (show OpR _ _ (rEqD K) from (op_eqD hr.units)) (pe_cal (cal_right_letters T) (hr.mono (by decide)) (by rfl) (pa_cons (pv 4) (pa_cons (pv 7) pa_nil))) (pv 5) (nomark _)))) (fun _ _ _ _ _ => (pv 7)))
      (pss_one (ps_if (PW.pt (pw_or (pt_cmpR op_ne (pe_callB call_len_seq (by rfl) T.b_len (by decide +kernel) (pa_cons (pv 6) pa_nil)) pe_int (nomark _)) (pw_or (pt_cmpR (op_neD hr.units) (pe_cal (cal_inverse T) (hr.mono (by decide)) (by rfl) (pa_cons (pv 4) (pa_cons (pe_ix ix_list (pv 6) pe_int (fun _ _ => rfl)) pa_nil))) (pe_ix ix_list (pv 6) pe_int (fun _ _ => rfl)) (nomark _)) (pw_or1 (pt_cmpR (op_neD hr.units) (pe_ix ix_list (pv 6) pe_int (fun _ _ => rfl)) (pe_ix ix_tup (pe_cal (cal_members T) (hr.mono (by decide)) (by rfl) (pa_cons (pv 4) pa_nil)) (pe_un un_neg pe_int) (fun _ _ => rfl)) (nomark _)))))) (pss_one (ps_ret pe_bl)) pss_nil)))))
      (pss_cons (ps_set (i := 8) sc_law.nd rfl (Or.inl rfl) (pe_cRows T (hr.mono (by decide)) (pe_glob (v := .ref C) (by rfl) T.mgSystem rfl) (pa_cons pe_int pa_nil)))
      (pss_cons (ps_if (PW.pt (pw_or (pt_cmpR (op_neD hr.units) (pe_cal (cal_product T) (hr.mono (by decide)) (by rfl) (pa_cons (pv 8) (pa_cons (pe_tup (pa_cons pe_int (pa_cons pe_int pa_nil))) (pa_cons (pe_tup (pa_cons pe_int (pa_cons pe_int pa_nil))) pa_nil)))) (pe_tup (pa_cons pe_int (pa_cons pe_int pa_nil))) (nomark _)) (pw_or1 (pt_cmpR (op_neD hr.units) (pe_cal (cal_inverse T) (hr.mono (by decide)) (by rfl) (pa_cons (pe_cTwenty T (hr.mono (by decide)) (pe_glob (v := .ref C) (by rfl) T.mgSystem rfl)) (pa_cons (pe_tup (pa_cons pe_int (pa_cons pe_int (pa_cons pe_int pa_nil)))) pa_nil))) (pe_tup (pa_cons pe_int (pa_cons pe_int (pa_cons pe_int pa_nil)))) (nomark _))))) (pss_one (ps_ret pe_bl)) pss_nil)
      (pss_one (ps_ret (pe_and (pe_cmpR (op_eqD hr.units) (pe_cal (cal_left_letters T) (hr.mono (by decide)) (by rfl) (pa_cons (pv 8) (pa_cons (pe_tup (pa_cons pe_int (pa_cons pe_int (pa_cons pe_int pa_nil)))) pa_nil))) (pe_tup (pa_cons pe_int (pa_cons pe_int pa_nil))) (nomark _)) (pe_one (pe_cmpR (op_eqD hr.units) (pe_cal (cal_right_letters T) (hr.mono (by decide)) (by rfl) (pa_cons (pv 8) (pa_cons (pe_tup (pa_cons pe_int (pa_cons pe_int (pa_cons pe_int pa_nil)))) pa_nil))) (pe_tup (pa_cons pe_int pa_nil)) (nomark _)))))))))), ?_⟩
    have hj : ∀ j : Int, -(2 ^ 62) ≤ (if (if (j : Int) < 4 then (j : Int) else 4) > 1 then (if (j : Int) < 4 then (j : Int) else 4) else 1) ∧ (if (if (j : Int) < 4 then (j : Int) else 4) > 1 then (if (j : Int) < 4 then (j : Int) else 4) else 1) < 2 ^ 62 := fun j => by
      split <;> split <;> omega
    refine ⟨_, rfl, _, _, rfl, .inl hs, _, _, rfl, _, _, rfl, _, rfl, (hj _).1, (hj _).2, for_range (lo := 0) (fun _ σ H' => SqL K H' sa (ns.map V.int) ∧ ∃ v1 v2 v3 : Option V, σ = [some (.ref sa), v1, v2, v3, none, none, none, none, none]) ⟨hs, none, none, none, rfl⟩ ?_ ?_⟩
    · rintro i σ H0 hi ⟨hs, v1, v2, v3, rfl⟩
      refine ⟨_, rfl, _, rfl, sa, _, ns, rfl, hs, by omega, fun p H1 s1 np bb => ?_⟩
      refine ⟨_, rfl, by decide, by decide, for_range (lo := 0) (n := 2) (fun _ σ H2 => Off p H1 H2 ∧ VatAt H2 p ∧ ∃ v3 : Option V, σ = [some (.ref sa), some (.int (0 + (i : Int))), some (.ref p), v3, none, none, none, none, none]) ⟨.refl, bb, _, rfl⟩ ?_ ?_⟩
      · rintro j σ H2 hj2 ⟨k0, c0, v3, rfl⟩
        exact ⟨_, rfl, p, rfl, c0, fun H3 o3 b3 => ⟨_, rfl, iteF ⟨k0.trans o3, b3, _, rfl⟩⟩⟩
      · rintro σ H2 ⟨k0, c0, v3, rfl⟩
        exact ⟨SqL.ext hs (same_off np s1 k0), _, _, _, rfl⟩
    · rintro σ H0 ⟨hs, v1, v2, v3, rfl⟩
      refine ⟨rfl, 4, rfl, ⟨by decide, by decide⟩, fun r1 b1 H1 s1 n1 y1 => ?_⟩
      refine ⟨rfl, 2, rfl, rfl, fun r2 b2 H2 s2 n2 y2 => ?_⟩
      refine ⟨rfl, 5, rfl, rfl, fun r3 b3 H3 s3 n3 y3 => ?_⟩
      refine ⟨2, .ref 0, [], .inr ⟨rfl, rfl, _, rfl⟩, fun h => by simp at h, box4.va, fun b4 r4 H4 s4 n4 y4 => ?_⟩
      refine ⟨show 4 ≤ sizeLine by decide, fun t nt => ?_⟩
      have x1 : BoxAt K C H4 (.ref r1) := ⟨r1, 3, b1, _, _, _, rfl, ((y1.same s2).same s3).same s4, box1⟩
      have x2 : BoxAt K C H4 (.ref r2) := ⟨r2, 2, b2, _, _, _, rfl, (y2.same s3).same s4, box2⟩
      have x3 : BoxAt K C H4 (.ref r3) := ⟨r3, 2, b3, _, _, _, rfl, y3.same s4, box3⟩
      have x4 : BoxAt K C H4 (.ref r4) := ⟨r4, 2, b4, _, _, _, rfl, y4, box4⟩
      have st := same_new (o := .tup [.ref r1, .ref r2, .ref r3, .ref r4]) nt
      have tt : (upd H4 t (.tup [.ref r1, .ref r2, .ref r3, .ref r4])) t = some (.tup [.ref r1, .ref r2, .ref r3, .ref r4]) := upd_same
      have xs : ∀ x ∈ [V.ref r1, .ref r2, .ref r3, .ref r4], BoxAt K C (upd H4 t (.tup [.ref r1, .ref r2, .ref r3, .ref r4])) x := fun x hx => by
        have e : BoxAt K C H4 x := by
          simp only [List.mem_cons, List.not_mem_nil, or_false] at hx
          rcases hx with rfl | rfl | rfl | rfl
          · exact x1
          · exact x2
          · exact x3
          · exact x4
        obtain ⟨r, n, bv, bs, W, top, e, y, b⟩ := e
        exact ⟨r, n, bv, bs, W, top, e, y.same st, b⟩
      generalize upd H4 t (.tup [.ref r1, .ref r2, .ref r3, .ref r4]) = H5 at *
      refine ⟨t, rfl, ⟨_, .of tt⟩, for_tup (K := K) (a := t) (xs := [.ref r1, .ref r2, .ref r3, .ref r4]) (fun i σ H' => (∃ v4 v5 v6 v7 : Option V, σ = [some (.ref sa), v1, v2, v3, v4, v5, v6, v7, none]) ∧ Same H5 H') ⟨⟨_, _, _, _, rfl⟩, .refl _⟩ (fun i σ H' _ h => .of (h.2 _ _ tt)) ?_ ?_⟩
      · rintro i x σ H6 hx ⟨⟨v4, v5, v6, v7, rfl⟩, s6⟩
        obtain ⟨r, n, bv, bs, W, top, rfl, y, bx⟩ := xs x (List.mem_of_getElem? hx)
        have y6 := y.same s6
        have va := bx.va
        have n4' := va.hi
        have n1' := va.lo
        obtain ⟨dx, g⟩ := y6.1
        have rg : rgV 0 (n : Int) = (upto (n : Nat)).map V.int := by
          unfold rgV upto
          rw [List.map_map, Int.sub_zero]
          rfl
        refine ⟨_, rfl, r, dx, _, rfl, g, r, n, bv, bs, rfl, y6, _, rfl, .of_le (by decide) (by omega) (by decide) (by omega), fun q nq => ?_⟩
        have sq := same_new (o := .tup (rgV 0 (n : Int))) nq
        have tq : TI K (upd H6 q (.tup (rgV 0 (n : Int)))) (.ref q) (upto (n : Nat)) := ⟨q, rfl, by rw [rg]; exact .of upd_same⟩
        generalize upd H6 q (.tup (rgV 0 (n : Int))) = H7 at *
        have y7 := y6.same sq
        refine ⟨_, rfl, r, n, bv, bs, W, rfl, y7, va, bx.ch, bx.few, fun v8 H8 s8 hb => ?_⟩
        obtain ⟨wa, wx, rfl, hwa, hwx⟩ := hb
        have hwx := A2.of_tis hwx
        have y8 := y7.same s8
        have t8 := tq.same s8
        refine ⟨wa, rfl, ⟨_, hwa⟩, fun D nD => ?_⟩
        have sD := same_new (o := .lst []) nD
        have WL : wx.length = W.length := hwx.len
        have few := bx.few
        refine lc_tup (K := K) (a := wa) (xs := wx) (fun i H' => Same H8 H' ∧ ∃ ys, H' D = some (.lst ys) ∧ A2 (TI K H') ys ((W.take i).filter fun (w : List Int) => decide (lefts (stOf bs n w.reverse) = upto n))) ⟨sD, [], upd_same, trivial⟩ (fun i H' _ h => sqT_same h.1 hwa) ?_ ?_
        · rintro i x H9 hx ⟨s9, ys, hD9, a9⟩
          obtain ⟨w, ew, tw⟩ := hwx.get hx
          have wm : w ∈ W := List.mem_of_getElem? ew
          obtain ⟨wwd, wfn⟩ := bx.wd w wm
          refine ⟨rfl, ?_⟩
          refine ⟨_, rfl, _, rfl, .ref r, x, n, bs, w, rfl, ⟨r, bv, rfl, y8.same s9, va, tw.same s9, wwd⟩, wfn, fun v10 H10 s10 t10 => ?_⟩
          refine ⟨_, rfl, _, _, t10.dp, ((t8.same s9).same s10).dp, sh_dT _, sh_dT _, ?_⟩
          rw [eqv_dT]
          refine ⟨_, rfl, ?_⟩
          have il : i < W.length := (List.getElem?_eq_some_iff.mp ew).1
          rw [take_snoc ew, List.filter_append]
          have sA := s9.trans s10
          by_cases z : lefts (stOf bs n w.reverse) = upto n
          · rw [decide_eq_true z]
            refine iteT ?_
            have hDA := s10 _ _ hD9
            have off : Off D H10 (upd H10 D (.lst (ys ++ [x]))) := off_upd
            have tx : TI K H10 x w := (tw.same s9).same s10
            refine ⟨_, rfl, _, hDA, small1000 (by have := a9.len; have := List.length_filter_le (fun (w : List Int) => decide (lefts (stOf bs n w.reverse) = upto n)) (W.take i); rw [List.length_take] at this; omega), same_off nD sA off, ys ++ [x], upd_same, ?_⟩
            rw [List.filter_cons_of_pos (p := fun (w : List Int) => decide (lefts (stOf bs n w.reverse) = upto n)) (decide_eq_true z), List.filter_nil]
            exact ((a9.imp fun _ _ q => q.same s10).snoc tx).imp fun _ _ q => off.ti hDA q
          · rw [decide_eq_false z]
            refine iteF ?_
            rw [List.filter_cons_of_neg (p := fun (w : List Int) => decide (lefts (stOf bs n w.reverse) = upto n)) (by rw [decide_eq_false z]; decide), List.filter_nil, List.append_nil]
            exact ⟨sA, ys, s10 _ _ hD9, a9.imp fun _ _ q => q.same s10⟩
        · rintro H9 ⟨s9, ys, hD9, a9⟩
          rw [List.take_of_length_le (by omega), bx.flt] at a9
          obtain ⟨v10, rfl⟩ : ∃ v, ys = [v] := by
            match ys, a9.len with
            | [v], _ => exact ⟨v, rfl⟩
          have t10 : TI K H9 v10 top := a9.1
          have y9 := y8.same s9
          refine ⟨_, rfl, _, _, rfl, .inl (.of hD9), rfl, _, rfl, iteF ?_⟩
          refine ⟨_, rfl, _, rfl, _, _, _, _, rfl, rfl, .of hD9, at_of (j := 0) rfl rfl, .ref r, v10, n, bs, top, top, rfl, ⟨r, bv, rfl, y9, va, t10, bx.wt⟩, bx.inv, by have := bx.wt.2; omega, fun v11 H11 s11 t11 => ?_⟩
          have hDB := s11 _ _ hD9
          refine ⟨_, rfl, _, _, _, _, rfl, rfl, .of hDB, at_of (j := 0) rfl rfl, ?_⟩
          refine ⟨_, _, t11.dp, (t10.same s11).dp, sh_dT _, sh_dT _, ?_⟩
          rw [eqv_same]
          refine ⟨_, rfl, iteF ?_⟩
          have y11 := y9.same s11
          refine ⟨_, rfl, _, _, _, _, rfl, rfl, .of hDB, at_of (j := 0) rfl rfl, ?_⟩
          refine ⟨_, rfl, r, n, bv, bs, W, rfl, y11, va, bx.ch, bx.few, fun v12 H12 s12 hb12 => ?_⟩
          obtain ⟨wb, wy, rfl, hwb, hwy⟩ := hb12
          have hwy := A2.of_tis hwy
          obtain ⟨vt, evt, tvt⟩ := at_len (R := TI K H12) hwy.len (fun i y e => hwy.at_ e) bx.last
          refine ⟨_, rfl, _, _, _, _, rfl, rfl, hwb, evt, ?_⟩
          refine ⟨_, _, ((t10.same s11).same s12).dp, tvt.dp, sh_dT _, sh_dT _, ?_⟩
          rw [eqv_same]
          refine ⟨_, rfl, iteF ?_⟩
          exact ⟨⟨_, _, _, _, rfl⟩, ((((s6.trans sq).trans s8).trans s9).trans s11).trans s12⟩
      · rintro σ H6 ⟨⟨v4, v5, v6, v7, rfl⟩, s6⟩
        refine ⟨rfl, 4, rfl, ⟨by decide, by decide⟩, fun r bv H7 s7 n7 y7 => ?_⟩
        have y7 : SysAt K C H7 r 3 bv (nb 0 3) := y7
        have va := box1.va
        refine ⟨_, rfl, show 2 ≤ sizeLine by decide, fun t1 m1 => ⟨show 2 ≤ sizeLine by decide, fun t2 m2 => ?_⟩⟩
        have z1 := same_new (o := .tup [.int 0, .int 1]) m1
        have z2 := same_new (o := .tup [.int 0, .int 1]) m2
        have y8 := (y7.same z1).same z2
        refine ⟨.ref r, .ref t1, .ref t2, 3, nb 0 3, [0, 1], [0, 1], [1, 0], rfl, ⟨r, bv, rfl, y8, va, ⟨t1, rfl, .of (z2 _ _ upd_same)⟩, by decide, by decide⟩, ⟨t2, rfl, .of upd_same⟩, ⟨by decide, by decide⟩, law1, by decide, fun v9 H9 s9 d9 => ?_⟩
        have y9 := y8.same s9
        refine ⟨show 2 ≤ sizeLine by decide, fun t3 m3 => ⟨dT [1, 0], dT [1, 0], (d9.same (same_new m3)).dp, TI.dp (ns := [1, 0]) ⟨t3, rfl, .of upd_same⟩, sh_dT _, sh_dT _, ?_⟩⟩
        rw [eqv_same]
        refine ⟨_, rfl, iteF ?_⟩
        have y10 := y9.same (same_new (o := .tup [.int 1, .int 0]) m3)
        refine ⟨rfl, rfl, fun q cv H11 s11 n11 yq => ⟨show 3 ≤ sizeLine by decide, fun t4 m4 => ?_⟩⟩
        have yq : SysAt K C H11 q 3 cv [[0, 1, 5], [1, 2, 3]] := yq
        have vq : Valid 3 [[0, 1, 5], [1, 2, 3]] := okB_valid (d := twentyD) (by decide)
        have z4 := same_new (o := .tup [.int 0, .int 1, .int 2]) m4
        refine ⟨.ref q, .ref t4, 3, _, [0, 1, 2], [2, 1, 0], rfl, ⟨q, cv, rfl, yq.same z4, vq, ⟨t4, rfl, .of upd_same⟩, by decide, by decide⟩, law2, by decide, fun v12 H12 s12 d12 => ?_⟩
        refine ⟨show 3 ≤ sizeLine by decide, fun t5 m5 => ⟨dT [2, 1, 0], dT [2, 1, 0], (d12.same (same_new m5)).dp, TI.dp (ns := [2, 1, 0]) ⟨t5, rfl, .of upd_same⟩, sh_dT _, sh_dT _, ?_⟩⟩
        rw [eqv_same]
        refine ⟨_, rfl, iteF ?_⟩
        have y13 := (((y10.same s11).same z4).same s12).same (same_new (o := .tup [.int 2, .int 1, .int 0]) m5)
        refine ⟨_, rfl, show 3 ≤ sizeLine by decide, fun t6 m6 => ?_⟩
        have z6 := same_new (o := .tup [.int 0, .int 1, .int 0]) m6
        have y14 := y13.same z6
        refine ⟨.ref r, .ref t6, 3, nb 0 3, [0, 1, 0], rfl, ⟨r, bv, rfl, y14, va, ⟨t6, rfl, .of upd_same⟩, by decide, by decide⟩, law3, fun v15 H15 s15 d15 => ?_⟩
        rw [law4] at d15
        refine ⟨show 2 ≤ sizeLine by decide, fun t7 m7 => ⟨dT [0, 1], dT [0, 1], (d15.same (same_new m7)).dp, TI.dp (ns := [0, 1]) ⟨t7, rfl, .of upd_same⟩, sh_dT _, sh_dT _, ?_⟩⟩
        rw [eqv_same]
        refine ⟨_, rfl, iteT ?_⟩
        have y16 := (y14.same s15).same (same_new (o := .tup [.int 0, .int 1]) m7)
        refine ⟨_, rfl, show 3 ≤ sizeLine by decide, fun t8 m8 => ?_⟩
        refine ⟨.ref r, .ref t8, 3, nb 0 3, [0, 2, 1], rfl, ⟨r, bv, rfl, y16.same (same_new m8), va, ⟨t8, rfl, .of upd_same⟩, by decide, by decide⟩, law5, fun v17 H17 s17 d17 => ?_⟩
        rw [show lefts (stOf (nb 0 3) 3 ([0, 2, 1] : List Int).reverse) = [1] from law6] at d17
        refine ⟨show 1 ≤ sizeLine by decide, fun t9 m9 => ⟨dT [1], dT [1], (d17.same (same_new m9)).dp, TI.dp (ns := [1]) ⟨t9, rfl, .of upd_same⟩, sh_dT _, sh_dT _, ?_⟩⟩
        rw [eqv_same]
        exact k _
end
end Sk

namespace Sk
open PySem L2 Ow
section
variable {K : PySem.W.Frag} {h : Heap} {mg : Str → Option Value} {x qual : Str} {st : Stmt} {f p C T0 : Addr} {oc kV doc pm cdv ct oc2 : Value} {od an od2 : Option Addr} {sl sl2 : Array (Option Value)} {tk n : Nat} {rest : List Value}
theorem mdef_mk (X : K.In h) (G : h.Ns mainGlobals mg) (a : PySem.W.nsIn K mainGlobals x = some (some (.ref f)))
    (l : K.lookup f = some ⟨oc, od, .func (PySem.W.fnOf x x (defArgs st) (defBody st) (defScope st) .none kV doc pm an cdv ct), sl⟩) (c : PySem.W.codeIn K cdv x = true) (k : PySem.W.keepIn K (.ref f) = true) : MDef K mg x st :=
  ⟨f, _, fun_mk l c k, PySem.W.mg_of X G a⟩
theorem gm_mk (a : PySem.W.findIn K (.ref C) x = some (some (.ref f))) (i : PySem.W.isFn K (.ref f) = true)
    (l : K.lookup f = some ⟨oc, od, .func (PySem.W.fnOf x qual (defArgs st) (defBody st) (defScope st) .none kV doc pm an cdv ct), sl⟩) (c : PySem.W.codeIn K cdv qual = true) (k : PySem.W.keepIn K (.ref f) = true) : GM K C x qual st :=
  ⟨f, _, fun_mk l c k, ⟨a, i⟩⟩
theorem gp_mk (a : PySem.W.findIn K (.ref C) x = some (some (.ref p))) (g : PySem.W.specialIn K (.ref p) "__get__" = some (some (.builtin "property.__get__"))) (t : PySem.W.takesIn K (.ref p) = some true) (r : PySem.W.recIn K p "property" = some (.ref f :: rest))
    (l : K.lookup f = some ⟨oc, od, .func (PySem.W.fnOf x qual (defArgs st) (defBody st) (defScope st) .none kV doc pm an cdv ct), sl⟩) (c : PySem.W.codeIn K cdv qual = true) (k : PySem.W.keepIn K (.ref f) = true) : GP K C x qual st :=
  ⟨p, f, _, ⟨a, g, t, rest, r⟩, fun_mk l c k⟩
theorem init_mk {e0 : Addr} {od3 : Option Addr} {sl3 : Array (Option Value)} {n3 : Nat} (mk : PySem.W.makesIn K C = true) (kc : PySem.W.keepIn K (.ref C) = true) (a : PySem.W.findIn K (.ref C) "__init__" = some (some (.ref f))) (i : PySem.W.isFn K (.ref f) = true)
    (l : K.lookup f = some ⟨oc, od, .func (PySem.W.fnOf "__init__" "System.__init__" (defArgs s_init) (defBody s_init) (defScope s_init) (.ref T0) kV doc pm an cdv ct), sl⟩) (c : PySem.W.codeIn K cdv "System.__init__" = true) (k : PySem.W.keepIn K (.ref f) = true)
    (lT : K.lookup T0 = some ⟨oc2, od2, .seq #[.ref e0] n, sl2⟩) (lE : K.lookup e0 = some ⟨.type "tuple", od3, .seq #[] n3, sl3⟩) : ∃ f fd e, Mk K C f ∧ FunD K "__init__" "System.__init__" (defArgs s_init) (defBody s_init) (defScope s_init) [.ref e] [] f fd ∧ ∀ H, SqT K H e [] :=
  ⟨f, _, e0, ⟨mk, a, i, kc⟩, ⟨⟨oc, od, .ref T0, kV, doc, pm, an, cdv, ct, sl, rfl, l, c, .inr ⟨by simp, T0, _, [.ref e0], n, rfl, lT, rfl, .cons rfl .nil⟩, .inl rfl⟩, k⟩, fun H => .inr ⟨_, #[], n3, lE, rfl, rfl, Nat.zero_le _, .nil⟩⟩
theorem cg_mk {g : Addr} (a : PySem.W.findCls K (.ref C) (.type "type") x = some (.get (.builtin "classmethod.__get__") (.ref p) .none (.ref C))) (r : PySem.W.recIn K p "classmethod" = some (.ref g :: rest)) (fi : PySem.W.fnIn K g = true)
    (l : K.lookup g = some ⟨oc, od, .func (PySem.W.fnOf x qual (defArgs st) (defBody st) (defScope st) .none kV doc pm an cdv ct), sl⟩) (c : PySem.W.codeIn K cdv qual = true) (k : PySem.W.keepIn K (.ref g) = true) : CG K C x qual st :=
  ⟨p, g, _, ⟨a, ⟨rest, r⟩, fi⟩, fun_mk l c k⟩
theorem gi_mk {t : Nat} {i : Int} {x : Str} (X : K.In h) (G : h.Ns mainGlobals mg) (a : PySem.W.nsIn K mainGlobals x = some (some (.int i t))) : ∃ u, mg x = some u ∧ RelV (.int i) u := ⟨_, PySem.W.mg_of X G a, ⟨t, rfl⟩⟩
theorem bo_mk {q : Addr} {t0 t1 t2 t3 t4 t5 : Nat} (X : K.In h) (G : h.Ns mainGlobals mg) (a : PySem.W.nsIn K mainGlobals "BONDS" = some (some (.ref q))) (l : K.lookup q = some ⟨.type "tuple", od, .seq #[.int 0 t0, .int 2 t1, .int 3 t2, .int 4 t3, .int 5 t4, .int 6 t5] n, sl⟩) :
    ∃ a, mg "BONDS" = some (.ref a) ∧ ∀ H, SqT K H a [.int 0, .int 2, .int 3, .int 4, .int 5, .int 6] :=
  ⟨q, PySem.W.mg_of X G a, fun H => .inr ⟨_, _, n, l, rfl, rfl, (show 6 ≤ sizeLine by decide), .cons ⟨_, rfl⟩ (.cons ⟨_, rfl⟩ (.cons ⟨_, rfl⟩ (.cons ⟨_, rfl⟩ (.cons ⟨_, rfl⟩ (.cons ⟨_, rfl⟩ .nil)))))⟩⟩
theorem pair_at {a x y : Addr} {w p u q : Int} {t1 t2 t3 t4 n0 n1 n2 : Nat} {d0 d1 d2 : Option Addr} {s0 s1 s2 : Array (Option Value)}
    (l : K.lookup a = some ⟨.type "tuple", d0, .seq #[.ref x, .ref y] n0, s0⟩) (lx : K.lookup x = some ⟨.type "tuple", d1, .seq #[.int w t1, .int p t2] n1, s1⟩) (ly : K.lookup y = some ⟨.type "tuple", d2, .seq #[.int u t3, .int q t4] n2, s2⟩) (H : Hp) : BsAt K H (.ref a) [[w, p], [u, q]] :=
  ⟨a, [.ref x, .ref y], rfl, .inr ⟨_, _, n0, l, rfl, rfl, (show 2 ≤ sizeLine by decide), .cons rfl (.cons rfl .nil)⟩, ⟨x, rfl, .inr ⟨_, _, n1, lx, rfl, rfl, (show 2 ≤ sizeLine by decide), .cons ⟨_, rfl⟩ (.cons ⟨_, rfl⟩ .nil)⟩⟩, ⟨y, rfl, .inr ⟨_, _, n2, ly, rfl, rfl, (show 2 ≤ sizeLine by decide), .cons ⟨_, rfl⟩ (.cons ⟨_, rfl⟩ .nil)⟩⟩, trivial⟩
theorem fac_mk {dd : Addr} {nd : Nat} {a0 x0 y0 a2 x2 y2 a3 x3 y3 a4 x4 y4 a5 x5 y5 a6 x6 y6 : Addr} {na0 nx0 ny0 na2 nx2 ny2 na3 nx3 ny3 na4 nx4 ny4 na5 nx5 ny5 na6 nx6 ny6 : Nat} {da0 dx0 dy0 da2 dx2 dy2 da3 dx3 dy3 da4 dx4 dy4 da5 dx5 dy5 da6 dx6 dy6 : Option Addr} {sla0 slx0 sly0 sla2 slx2 sly2 sla3 slx3 sly3 sla4 slx4 sly4 sla5 slx5 sly5 sla6 slx6 sly6 : Array (Option Value)} {u0 r0 s0 v0 z0 u2 r2 s2 v2 z2 u3 r3 s3 v3 z3 u4 r4 s4 v4 z4 u5 r5 s5 v5 z5 u6 r6 s6 v6 z6 : Nat} (X : K.In h) (G : h.Ns mainGlobals mg) (a : PySem.W.nsIn K mainGlobals "FACTORS" = some (some (.ref dd)))
    (l : K.lookup dd = some ⟨.type "dict", none, .dict #[⟨0, .int 0 u0, .ref a0⟩, ⟨2, .int 2 u2, .ref a2⟩, ⟨3, .int 3 u3, .ref a3⟩, ⟨4, .int 4 u4, .ref a4⟩, ⟨5, .int 5 u5, .ref a5⟩, ⟨6, .int 6 u6, .ref a6⟩] nd, #[]⟩)
    (la0 : K.lookup a0 = some ⟨.type "tuple", da0, .seq #[.ref x0, .ref y0] na0, sla0⟩)
    (lx0 : K.lookup x0 = some ⟨.type "tuple", dx0, .seq #[.int 2 r0, .int 0 s0] nx0, slx0⟩)
    (ly0 : K.lookup y0 = some ⟨.type "tuple", dy0, .seq #[.int 2 v0, .int 0 z0] ny0, sly0⟩)
    (la2 : K.lookup a2 = some ⟨.type "tuple", da2, .seq #[.ref x2, .ref y2] na2, sla2⟩)
    (lx2 : K.lookup x2 = some ⟨.type "tuple", dx2, .seq #[.int 0 r2, .int 0 s2] nx2, slx2⟩)
    (ly2 : K.lookup y2 = some ⟨.type "tuple", dy2, .seq #[.int 0 v2, .int 0 z2] ny2, sly2⟩)
    (la3 : K.lookup a3 = some ⟨.type "tuple", da3, .seq #[.ref x3, .ref y3] na3, sla3⟩)
    (lx3 : K.lookup x3 = some ⟨.type "tuple", dx3, .seq #[.int 1 r3, .int 0 s3] nx3, slx3⟩)
    (ly3 : K.lookup y3 = some ⟨.type "tuple", dy3, .seq #[.int 1 v3, .int 0 z3] ny3, sly3⟩)
    (la4 : K.lookup a4 = some ⟨.type "tuple", da4, .seq #[.ref x4, .ref y4] na4, sla4⟩)
    (lx4 : K.lookup x4 = some ⟨.type "tuple", dx4, .seq #[.int 1 r4, .int 0 s4] nx4, slx4⟩)
    (ly4 : K.lookup y4 = some ⟨.type "tuple", dy4, .seq #[.int 2 v4, .int 0 z4] ny4, sly4⟩)
    (la5 : K.lookup a5 = some ⟨.type "tuple", da5, .seq #[.ref x5, .ref y5] na5, sla5⟩)
    (lx5 : K.lookup x5 = some ⟨.type "tuple", dx5, .seq #[.int 0 r5, .int 1 s5] nx5, slx5⟩)
    (ly5 : K.lookup y5 = some ⟨.type "tuple", dy5, .seq #[.int 0 v5, .int 1 z5] ny5, sly5⟩)
    (la6 : K.lookup a6 = some ⟨.type "tuple", da6, .seq #[.ref x6, .ref y6] na6, sla6⟩)
    (lx6 : K.lookup x6 = some ⟨.type "tuple", dx6, .seq #[.int 1 r6, .int 0 s6] nx6, slx6⟩)
    (ly6 : K.lookup y6 = some ⟨.type "tuple", dy6, .seq #[.int 3 v6, .int 0 z6] ny6, sly6⟩) :
    ∃ d es n, mg "FACTORS" = some (.ref d) ∧ K.lookup d = some ⟨.type "dict", none, .dict es n, #[]⟩ ∧ IntKeys es ∧ ∀ b : Int, (b = 0 ∨ b = 2 ∨ b = 3 ∨ b = 4 ∨ b = 5 ∨ b = 6) → ∃ a, findBy Value.isInt es b = some (.ref a) ∧ ∀ H, BsAt K H (.ref a) (facT b) := by
  refine ⟨dd, _, nd, PySem.W.mg_of X G a, l, fun e he => ?_, fun b hb => ?_⟩
  · simp at he
    rcases he with rfl | rfl | rfl | rfl | rfl | rfl
    · exact ⟨0, _, rfl, (by decide : (0 : Int) = hashInt 0)⟩
    · exact ⟨2, _, rfl, (by decide : (2 : Int) = hashInt 2)⟩
    · exact ⟨3, _, rfl, (by decide : (3 : Int) = hashInt 3)⟩
    · exact ⟨4, _, rfl, (by decide : (4 : Int) = hashInt 4)⟩
    · exact ⟨5, _, rfl, (by decide : (5 : Int) = hashInt 5)⟩
    · exact ⟨6, _, rfl, (by decide : (6 : Int) = hashInt 6)⟩
  · rcases hb with rfl | rfl | rfl | rfl | rfl | rfl
    · exact ⟨a0, by simp [findBy, Value.isInt], pair_at la0 lx0 ly0⟩
    · exact ⟨a2, by simp [findBy, Value.isInt], pair_at la2 lx2 ly2⟩
    · exact ⟨a3, by simp [findBy, Value.isInt], pair_at la3 lx3 ly3⟩
    · exact ⟨a4, by simp [findBy, Value.isInt], pair_at la4 lx4 ly4⟩
    · exact ⟨a5, by simp [findBy, Value.isInt], pair_at la5 lx5 ly5⟩
    · exact ⟨a6, by simp [findBy, Value.isInt], pair_at la6 lx6 ly6⟩
theorem end_mk {l : PySem.W.OpenLaw} {w : World} {fa : Addr} (X : K.In h) (G : h.Ns mainGlobals mg) (hfa : mg "law" = some (.ref fa)) (T : Txt K mg C) (a : PySem.W.nsIn K mainGlobals "law" = some (some (.ref f)))
    (l1 : K.lookup f = some ⟨oc, od, .func (PySem.W.fnOf "law" "law" (defArgs s_law) (defBody s_law) (defScope s_law) .none kV doc pm an cdv ct), sl⟩) (c : PySem.W.codeIn K cdv "law" = true) (k : PySem.W.keepIn K (.ref f) = true) :
    ∃ fd : FuncData, (∀ (s : Shared) (v : Value), BindsTo s fd ⟨[v], []⟩ [("_law_script", v)]) ∧ ∀ base : Heap, K.In base → base.Ns mainGlobals mg → FnOk l.prog w K mg base CX0 11 fa fd ["_law_script"] (spLaw K) := by
  have e := hfa.symm.trans (PySem.W.mg_of X G a)
  cases e
  exact ⟨PySem.W.fnOf "law" "law" (defArgs s_law) (defBody s_law) (defScope s_law) .none kV doc pm an cdv ct, fun s v => .of_eq rfl, fun base _ _ => ok_law T (fun_mk (st := s_law) l1 c k)⟩
end
theorem walkEnd {l : PySem.W.OpenLaw} {q : Program} {loose : List Str} {XP : (Str → Option Value) → Heap → Prop} {YP : World → Heap → Prop} {d : DefRec} {K : Params → PySem.W.Frag} (hn : l.most = some 63) (hdf : d.params.defaults = [])
    (hY : ∀ (w : World) (h : Heap), YP w h → (K w.params).In h)
    (F : ∀ (w : World) (mg : Str → Option Value) (fa : Addr) (h : Heap), (K w.params).In h → h.Ns mainGlobals mg → mg d.name = some (.ref fa) →
      ∃ fd : FuncData, (∀ (s : Shared) (u : Value), BindsTo s fd ⟨[u], []⟩ [("_law_script", u)]) ∧ ∀ base : Heap, (K w.params).In base → base.Ns mainGlobals mg → FnOk l.prog w (K w.params) mg base CX0 11 fa fd ["_law_script"] (spLaw (K w.params))) :
    PySem.W.WalkO q loose XP YP l.row.toRowW d [] (fun f vs => PySem.call f vs) :=
  L2.walk_of (n := 63) (k := 11) (x := "_law_script") (CX := fun _ => CX0) (sp := fun w => spLaw (K w.params)) hn (by decide) hdf ⟨rfl, by decide, by decide⟩ hY F (fun _ _ a ns hl _ hS => ⟨a, ns, rfl, hS, hl, fun _ => rfl⟩) fun _ _ _ _ _ z => z
end Sk

open PySem PySem.W PyProof.Rows in
set_option maxRecDepth 100000 in
set_option maxHeartbeats 0 in
theorem PySem.Challenge.cw_underwords_k07_whole_products_and_letter_holds : PySem.Challenge.rw_underwords_k07_whole_products_and_letter.Holds := by
  w_on; o_law; k_head; (case hw => w_witness2)
  k_fill
  refine Sk.walkEnd (l := PySem.Challenge.rw_underwords_k07_whole_products_and_letter) rfl rfl (fun w h Y => PySem.W.kIn_of Y) ?F
  case F =>
    intro w mg fa h KX G hmg
    refine' Sk.end_mk KX G hmg (C := _) ?T ?a ?l ?c ?k
    (case a => k_is)
    (case l => k_is)
    (case c => k_is)
    (case k => k_is)
    case T =>
      refine' { cl := ⟨?pg, ?hd, ?po, ?sa⟩, ic := ⟨⟨?pg2, ?hd2, ?po2, ?sa2⟩, ?ha, ?hn, ?htk, ?hm, if_pos (beq_self_eq_true _)⟩, mgSystem := PySem.W.mg_of KX G ?gG, nL := ?nL, nB := ?nB, mkS := ?mkS, gB := ?gB, gF := ?gF, crd := ⟨?rd, ?ga⟩, cRows := ?cRows, pL := ?pL, mBond := ?mBond, cSigned := ?cSigned, cPolygon := ?cPolygon, cTwenty := ?cTwenty, g_MAX_LETTERS := ?g_MAX_LETTERS, g_LONGEST_WORD := ?g_LONGEST_WORD, g_MAX_WORD := ?g_MAX_WORD, g_MAX_MEMBERS := ?g_MAX_MEMBERS, d_is_within := ?d_is_within, d_neighbours := ?d_neighbours, d_are_bonds := ?d_are_bonds, d_is_triple := ?d_is_triple, d_is_letter := ?d_is_letter, d_is_word := ?d_is_word, d_check_system := ?d_check_system, d_check_word := ?d_check_word, d_check_words := ?d_check_words, d_sense_of := ?d_sense_of, d_factor := ?d_factor, d_other_letters := ?d_other_letters, d_triples_from := ?d_triples_from, d_without_zeros := ?d_without_zeros, d_is_below := ?d_is_below, d_links_of := ?d_links_of, d_first_state := ?d_first_state, d_put_ahead := ?d_put_ahead, d_word_ahead := ?d_word_ahead, d_state_of := ?d_state_of, d_left_of := ?d_left_of, d_normal_of := ?d_normal_of, d_normal_word := ?d_normal_word, d_next_level_by := ?d_next_level_by, d_words_by := ?d_words_by, d_normal := ?d_normal, d_length := ?d_length, d_product := ?d_product, d_inverse := ?d_inverse, d_left_letters := ?d_left_letters, d_right_letters := ?d_right_letters, d_members := ?d_members, d_l_vat := ?d_l_vat, d_l_tap := ?d_l_tap, d_l_taste := ?d_l_taste, d_l_added := ?d_l_added, d_l_times := ?d_l_times, d_l_is_low := ?d_l_is_low, d_l_factors := ?d_l_factors, d_l_led := ?d_l_led, d_l_first := ?d_l_first, d_l_behind := ?d_l_behind, d_l_ahead := ?d_l_ahead, d_l_state := ?d_l_state, d_l_lefts := ?d_l_lefts, d_l_normal := ?d_l_normal, d_l_told_systems := ?d_l_told_systems, d_l_system := ?d_l_system, d_l_word := ?d_l_word, d_l_made := ?d_l_made, d_l_letters_right := ?d_l_letters_right, d_l_right := ?d_l_right, b_list := ?b_list, b_sorted := ?b_sorted, b_isinstance := ?b_isinstance, b_int := ?b_int, b_bool := ?b_bool, b_tuple := ?b_tuple, b_len := ?b_len, b_abs := ?b_abs, b_max := ?b_max, b_min := ?b_min, b_sum := ?b_sum, b_all := ?b_all, b_zip := ?b_zip, b_range := ?b_range, b_enumerate := ?b_enumerate }
      (case gG => k_is)
      (case pg => k_is)
      (case hd => k_is)
      (case po => k_is)
      (case sa => k_is)
      (case pg2 => k_is)
      (case hd2 => k_is)
      (case po2 => k_is)
      (case sa2 => k_is)
      (case ha => k_is)
      (case hn => k_is)
      (case htk => k_is)
      (case hm => k_is)
      (case rd => k_is)
      (case ga => k_is)
      (case nL => ((show PySem.W.findIn _ _ "_letters" = some none); k_is))
      (case nB => ((show PySem.W.findIn _ _ "_bonds" = some none); k_is))
      (case mkS => (refine' Sk.init_mk ?q1 ?q2 ?q3 ?q4 ?q5 ?q6 ?q7 ?q8 ?q9; (case q1 => k_is); (case q2 => k_is); (case q3 => k_is); (case q4 => k_is); (case q5 => k_is); (case q6 => k_is); (case q7 => k_is); (case q8 => k_is); (case q9 => k_is)))
      (case gB => (refine' Sk.bo_mk KX G ?q1 ?q2; (case q1 => k_is); (case q2 => k_is)))
      (case gF => (refine' Sk.fac_mk KX G ?q1 ?q2 ?q3 ?q4 ?q5 ?q6 ?q7 ?q8 ?q9 ?q10 ?q11 ?q12 ?q13 ?q14 ?q15 ?q16 ?q17 ?q18 ?q19 ?q20; (case q1 => k_is); (case q2 => k_is); (case q3 => k_is); (case q4 => k_is); (case q5 => k_is); (case q6 => k_is); (case q7 => k_is); (case q8 => k_is); (case q9 => k_is); (case q10 => k_is); (case q11 => k_is); (case q12 => k_is); (case q13 => k_is); (case q14 => k_is); (case q15 => k_is); (case q16 => k_is); (case q17 => k_is); (case q18 => k_is); (case q19 => k_is); (case q20 => k_is)))
      (case cRows => (refine' Sk.cg_mk ?q1 ?q2 ?q3 ?q4 ?q5 ?q6; (case q1 => k_is); (case q2 => k_is); (case q3 => k_is); (case q4 => k_is); (case q5 => k_is); (case q6 => k_is)))
      (case pL => (refine' Sk.gp_mk ?q1 ?q2 ?q3 ?q4 ?q5 ?q6 ?q7; (case q1 => k_is); (case q2 => k_is); (case q3 => k_is); (case q4 => k_is); (case q5 => k_is); (case q6 => k_is); (case q7 => k_is)))
      (case mBond => (refine' Sk.gm_mk ?q1 ?q2 ?q3 ?q4 ?q5; (case q1 => k_is); (case q2 => k_is); (case q3 => k_is); (case q4 => k_is); (case q5 => k_is)))
      (case cSigned => (refine' Sk.cg_mk ?q1 ?q2 ?q3 ?q4 ?q5 ?q6; (case q1 => k_is); (case q2 => k_is); (case q3 => k_is); (case q4 => k_is); (case q5 => k_is); (case q6 => k_is)))
      (case cPolygon => (refine' Sk.cg_mk ?q1 ?q2 ?q3 ?q4 ?q5 ?q6; (case q1 => k_is); (case q2 => k_is); (case q3 => k_is); (case q4 => k_is); (case q5 => k_is); (case q6 => k_is)))
      (case cTwenty => (refine' Sk.cg_mk ?q1 ?q2 ?q3 ?q4 ?q5 ?q6; (case q1 => k_is); (case q2 => k_is); (case q3 => k_is); (case q4 => k_is); (case q5 => k_is); (case q6 => k_is)))
      (case g_MAX_LETTERS => (refine' Sk.gi_mk KX G ?q1; (case q1 => k_is)))
      (case g_LONGEST_WORD => (refine' Sk.gi_mk KX G ?q1; (case q1 => k_is)))
      (case g_MAX_WORD => (refine' Sk.gi_mk KX G ?q1; (case q1 => k_is)))
      (case g_MAX_MEMBERS => (refine' Sk.gi_mk KX G ?q1; (case q1 => k_is)))
      (case d_is_within => (refine' Sk.mdef_mk KX G ?q1 ?q2 ?q3 ?q4; (case q1 => k_is); (case q2 => k_is); (case q3 => k_is); (case q4 => k_is)))
      (case d_neighbours => (refine' Sk.mdef_mk KX G ?q1 ?q2 ?q3 ?q4; (case q1 => k_is); (case q2 => k_is); (case q3 => k_is); (case q4 => k_is)))
      (case d_are_bonds => (refine' Sk.mdef_mk KX G ?q1 ?q2 ?q3 ?q4; (case q1 => k_is); (case q2 => k_is); (case q3 => k_is); (case q4 => k_is)))
      (case d_is_triple => (refine' Sk.mdef_mk KX G ?q1 ?q2 ?q3 ?q4; (case q1 => k_is); (case q2 => k_is); (case q3 => k_is); (case q4 => k_is)))
      (case d_is_letter => (refine' Sk.mdef_mk KX G ?q1 ?q2 ?q3 ?q4; (case q1 => k_is); (case q2 => k_is); (case q3 => k_is); (case q4 => k_is)))
      (case d_is_word => (refine' Sk.mdef_mk KX G ?q1 ?q2 ?q3 ?q4; (case q1 => k_is); (case q2 => k_is); (case q3 => k_is); (case q4 => k_is)))
      (case d_check_system => (refine' Sk.mdef_mk KX G ?q1 ?q2 ?q3 ?q4; (case q1 => k_is); (case q2 => k_is); (case q3 => k_is); (case q4 => k_is)))
      (case d_check_word => (refine' Sk.mdef_mk KX G ?q1 ?q2 ?q3 ?q4; (case q1 => k_is); (case q2 => k_is); (case q3 => k_is); (case q4 => k_is)))
      (case d_check_words => (refine' Sk.mdef_mk KX G ?q1 ?q2 ?q3 ?q4; (case q1 => k_is); (case q2 => k_is); (case q3 => k_is); (case q4 => k_is)))
      (case d_sense_of => (refine' Sk.mdef_mk KX G ?q1 ?q2 ?q3 ?q4; (case q1 => k_is); (case q2 => k_is); (case q3 => k_is); (case q4 => k_is)))
      (case d_factor => (refine' Sk.mdef_mk KX G ?q1 ?q2 ?q3 ?q4; (case q1 => k_is); (case q2 => k_is); (case q3 => k_is); (case q4 => k_is)))
      (case d_other_letters => (refine' Sk.mdef_mk KX G ?q1 ?q2 ?q3 ?q4; (case q1 => k_is); (case q2 => k_is); (case q3 => k_is); (case q4 => k_is)))
      (case d_triples_from => (refine' Sk.mdef_mk KX G ?q1 ?q2 ?q3 ?q4; (case q1 => k_is); (case q2 => k_is); (case q3 => k_is); (case q4 => k_is)))
      (case d_without_zeros => (refine' Sk.mdef_mk KX G ?q1 ?q2 ?q3 ?q4; (case q1 => k_is); (case q2 => k_is); (case q3 => k_is); (case q4 => k_is)))
      (case d_is_below => (refine' Sk.mdef_mk KX G ?q1 ?q2 ?q3 ?q4; (case q1 => k_is); (case q2 => k_is); (case q3 => k_is); (case q4 => k_is)))
      (case d_links_of => (refine' Sk.mdef_mk KX G ?q1 ?q2 ?q3 ?q4; (case q1 => k_is); (case q2 => k_is); (case q3 => k_is); (case q4 => k_is)))
      (case d_first_state => (refine' Sk.mdef_mk KX G ?q1 ?q2 ?q3 ?q4; (case q1 => k_is); (case q2 => k_is); (case q3 => k_is); (case q4 => k_is)))
      (case d_put_ahead => (refine' Sk.mdef_mk KX G ?q1 ?q2 ?q3 ?q4; (case q1 => k_is); (case q2 => k_is); (case q3 => k_is); (case q4 => k_is)))
      (case d_word_ahead => (refine' Sk.mdef_mk KX G ?q1 ?q2 ?q3 ?q4; (case q1 => k_is); (case q2 => k_is); (case q3 => k_is); (case q4 => k_is)))
      (case d_state_of => (refine' Sk.mdef_mk KX G ?q1 ?q2 ?q3 ?q4; (case q1 => k_is); (case q2 => k_is); (case q3 => k_is); (case q4 => k_is)))
      (case d_left_of => (refine' Sk.mdef_mk KX G ?q1 ?q2 ?q3 ?q4; (case q1 => k_is); (case q2 => k_is); (case q3 => k_is); (case q4 => k_is)))
      (case d_normal_of => (refine' Sk.mdef_mk KX G ?q1 ?q2 ?q3 ?q4; (case q1 => k_is); (case q2 => k_is); (case q3 => k_is); (case q4 => k_is)))
      (case d_normal_word => (refine' Sk.mdef_mk KX G ?q1 ?q2 ?q3 ?q4; (case q1 => k_is); (case q2 => k_is); (case q3 => k_is); (case q4 => k_is)))
      (case d_next_level_by => (refine' Sk.mdef_mk KX G ?q1 ?q2 ?q3 ?q4; (case q1 => k_is); (case q2 => k_is); (case q3 => k_is); (case q4 => k_is)))
      (case d_words_by => (refine' Sk.mdef_mk KX G ?q1 ?q2 ?q3 ?q4; (case q1 => k_is); (case q2 => k_is); (case q3 => k_is); (case q4 => k_is)))
      (case d_normal => (refine' Sk.mdef_mk KX G ?q1 ?q2 ?q3 ?q4; (case q1 => k_is); (case q2 => k_is); (case q3 => k_is); (case q4 => k_is)))
      (case d_length => (refine' Sk.mdef_mk KX G ?q1 ?q2 ?q3 ?q4; (case q1 => k_is); (case q2 => k_is); (case q3 => k_is); (case q4 => k_is)))
      (case d_product => (refine' Sk.mdef_mk KX G ?q1 ?q2 ?q3 ?q4; (case q1 => k_is); (case q2 => k_is); (case q3 => k_is); (case q4 => k_is)))
      (case d_inverse => (refine' Sk.mdef_mk KX G ?q1 ?q2 ?q3 ?q4; (case q1 => k_is); (case q2 => k_is); (case q3 => k_is); (case q4 => k_is)))
      (case d_left_letters => (refine' Sk.mdef_mk KX G ?q1 ?q2 ?q3 ?q4; (case q1 => k_is); (case q2 => k_is); (case q3 => k_is); (case q4 => k_is)))
      (case d_right_letters => (refine' Sk.mdef_mk KX G ?q1 ?q2 ?q3 ?q4; (case q1 => k_is); (case q2 => k_is); (case q3 => k_is); (case q4 => k_is)))
      (case d_members => (refine' Sk.mdef_mk KX G ?q1 ?q2 ?q3 ?q4; (case q1 => k_is); (case q2 => k_is); (case q3 => k_is); (case q4 => k_is)))
      (case d_l_vat => (refine' Sk.mdef_mk KX G ?q1 ?q2 ?q3 ?q4; (case q1 => k_is); (case q2 => k_is); (case q3 => k_is); (case q4 => k_is)))
      (case d_l_tap => (refine' Sk.mdef_mk KX G ?q1 ?q2 ?q3 ?q4; (case q1 => k_is); (case q2 => k_is); (case q3 => k_is); (case q4 => k_is)))
      (case d_l_taste => (refine' Sk.mdef_mk KX G ?q1 ?q2 ?q3 ?q4; (case q1 => k_is); (case q2 => k_is); (case q3 => k_is); (case q4 => k_is)))
      (case d_l_added => (refine' Sk.mdef_mk KX G ?q1 ?q2 ?q3 ?q4; (case q1 => k_is); (case q2 => k_is); (case q3 => k_is); (case q4 => k_is)))
      (case d_l_times => (refine' Sk.mdef_mk KX G ?q1 ?q2 ?q3 ?q4; (case q1 => k_is); (case q2 => k_is); (case q3 => k_is); (case q4 => k_is)))
      (case d_l_is_low => (refine' Sk.mdef_mk KX G ?q1 ?q2 ?q3 ?q4; (case q1 => k_is); (case q2 => k_is); (case q3 => k_is); (case q4 => k_is)))
      (case d_l_factors => (refine' Sk.mdef_mk KX G ?q1 ?q2 ?q3 ?q4; (case q1 => k_is); (case q2 => k_is); (case q3 => k_is); (case q4 => k_is)))
      (case d_l_led => (refine' Sk.mdef_mk KX G ?q1 ?q2 ?q3 ?q4; (case q1 => k_is); (case q2 => k_is); (case q3 => k_is); (case q4 => k_is)))
      (case d_l_first => (refine' Sk.mdef_mk KX G ?q1 ?q2 ?q3 ?q4; (case q1 => k_is); (case q2 => k_is); (case q3 => k_is); (case q4 => k_is)))
      (case d_l_behind => (refine' Sk.mdef_mk KX G ?q1 ?q2 ?q3 ?q4; (case q1 => k_is); (case q2 => k_is); (case q3 => k_is); (case q4 => k_is)))
      (case d_l_ahead => (refine' Sk.mdef_mk KX G ?q1 ?q2 ?q3 ?q4; (case q1 => k_is); (case q2 => k_is); (case q3 => k_is); (case q4 => k_is)))
      (case d_l_state => (refine' Sk.mdef_mk KX G ?q1 ?q2 ?q3 ?q4; (case q1 => k_is); (case q2 => k_is); (case q3 => k_is); (case q4 => k_is)))
      (case d_l_lefts => (refine' Sk.mdef_mk KX G ?q1 ?q2 ?q3 ?q4; (case q1 => k_is); (case q2 => k_is); (case q3 => k_is); (case q4 => k_is)))
      (case d_l_normal => (refine' Sk.mdef_mk KX G ?q1 ?q2 ?q3 ?q4; (case q1 => k_is); (case q2 => k_is); (case q3 => k_is); (case q4 => k_is)))
      (case d_l_told_systems => (refine' Sk.mdef_mk KX G ?q1 ?q2 ?q3 ?q4; (case q1 => k_is); (case q2 => k_is); (case q3 => k_is); (case q4 => k_is)))
      (case d_l_system => (refine' Sk.mdef_mk KX G ?q1 ?q2 ?q3 ?q4; (case q1 => k_is); (case q2 => k_is); (case q3 => k_is); (case q4 => k_is)))
      (case d_l_word => (refine' Sk.mdef_mk KX G ?q1 ?q2 ?q3 ?q4; (case q1 => k_is); (case q2 => k_is); (case q3 => k_is); (case q4 => k_is)))
      (case d_l_made => (refine' Sk.mdef_mk KX G ?q1 ?q2 ?q3 ?q4; (case q1 => k_is); (case q2 => k_is); (case q3 => k_is); (case q4 => k_is)))
      (case d_l_letters_right => (refine' Sk.mdef_mk KX G ?q1 ?q2 ?q3 ?q4; (case q1 => k_is); (case q2 => k_is); (case q3 => k_is); (case q4 => k_is)))
      (case d_l_right => (refine' Sk.mdef_mk KX G ?q1 ?q2 ?q3 ?q4; (case q1 => k_is); (case q2 => k_is); (case q3 => k_is); (case q4 => k_is)))
      (case b_list => exact PySem.W.mg_none_of KX G (by k_is))
      (case b_sorted => exact PySem.W.mg_none_of KX G (by k_is))
      (case b_isinstance => exact PySem.W.mg_none_of KX G (by k_is))
      (case b_int => exact PySem.W.mg_none_of KX G (by k_is))
      (case b_bool => exact PySem.W.mg_none_of KX G (by k_is))
      (case b_tuple => exact PySem.W.mg_none_of KX G (by k_is))
      (case b_len => exact PySem.W.mg_none_of KX G (by k_is))
      (case b_abs => exact PySem.W.mg_none_of KX G (by k_is))
      (case b_max => exact PySem.W.mg_none_of KX G (by k_is))
      (case b_min => exact PySem.W.mg_none_of KX G (by k_is))
      (case b_sum => exact PySem.W.mg_none_of KX G (by k_is))
      (case b_all => exact PySem.W.mg_none_of KX G (by k_is))
      (case b_zip => exact PySem.W.mg_none_of KX G (by k_is))
      (case b_range => exact PySem.W.mg_none_of KX G (by k_is))
      (case b_enumerate => exact PySem.W.mg_none_of KX G (by k_is))
