import PyProof.Rows.All
import Wide.All
import OpenK.AllK
import Wide.FinOn
import HandS.ForMost
import HandS.OwnEq
import HandS.Property
import HandS.Defaults
import HandS.IsInst
import HandS.Codes
import HandS.Wide
import HandS.Flow
import HandS.SetFor
import HandS.Style
import PyProof.InstNe
import HandS.FStr
import HandS.Star
import HandS.Deep
import HandS.Zip
import HandS.Walk
import HandS.ClsMeth
import KE.GoesMore
import KE.GoesEnum
import HandS.Iter
import KE.KRevSl
import HandS.Records
import HandS.WideBits
import HandS.TupAny
import HandS.Rev
import HandS.Conv
import HandS.TupSets
import KE.KIndexOf
import KE.DataAny
import HandS.TupMul
import PySem.Challenge.RW_underwords_k67_whole_bumped_tables
set_option Elab.async false
set_option maxRecDepth 100000
set_option maxHeartbeats 8000000
namespace Ow
open PySem PySem.Spec PyProof.Rows
open PySem.W (findIn isFn InstAt looks_findIn special_fn ifBound_K truthy_K CmpBack BoolBack)
section
variable {prog : Program} {w : World} {A : Around} {E : Value → Shared → Prop} {s : Shared} {K : PySem.W.Frag} {x y C f : Addr} {ox : Obj} {od : Option Obj}
/-- object's own unequal, over the text's equal -/
theorem objNe (X : K.In s.heap) (I : InstAt s.heap x ox C od) (hs : findIn K (.ref C) "__eq__" = some (some (.ref f))) (hf : isFn K (.ref f) = true) (hu : A.units < cLine) {Q : Fin → Shared → Prop}
    (hc : wpAny (model prog w) A (call (.ref f) [.ref x, .ref y]) (fun v s' => ∃ b, v = .bool b ∧ Q (.done (.ret (.bool (!b)))) s') E s) :
    wpAny (model prog w) A (Builtin.«object.__ne__» ⟨[.ref x, .ref y], []⟩) Q E s := by
  obtain ⟨hp, g, d, tk, os⟩ := s
  unfold Builtin.«object.__ne__»
  repeat (first
    | with_reducible refine wpAny_cRoomFor hu ?_
    | (refine wpAny_bind (m := callSpecialIfBound? (.ref x) (Str.ofString "__eq__") [.ref y])
        (ifBound_K X I hs hf (wpAny_mono hc (fun r s' hr => by
          obtain ⟨b, rfl, hq⟩ := hr
          repeat (first | exact hq | exact wpAny_pure hq | exact wpAny_truthy_bool hq | (refine wpAny_bind (m := truthy (.bool _)) (wpAny_truthy_bool ?_)) | wp_step)) fun _ _ e => e)))
    | wp_step)
theorem tryNe (X : K.In s.heap) (I : InstAt s.heap x ox C od) (hn : findIn K (.ref C) "__ne__" = some (some (.builtin "object.__ne__"))) (hs : findIn K (.ref C) "__eq__" = some (some (.ref f))) (hf : isFn K (.ref f) = true)
    (hb : PySem.W.mroIn K C (.type "object") = some true) (hu : A.units + 1 < cLine) {Q : Option Value → Shared → Prop}
    (hc : wpAny (model prog w) A.in1 (call (.ref f) [.ref x, .ref y]) (fun v s' => ∃ b, v = .bool b ∧ Q (some (.bool (!b))) s') E s) :
    wpAny (model prog w) A (tryCompare (.ref x) "__ne__" (.ref y)) Q E s := by
  simp only [tryCompare]
  have hcall : wpAny (model prog w) A (call (.builtin "object.__ne__") (.ref x :: [.ref y])) (fun v s' => ∃ b, v = .bool b ∧ Q (some (.bool b)) s') E s := by
    refine wpAny_call (codeAny_call_builtin PySem.F.cmp_object.ne.plain PySem.F.cmpEntry_ne ?_)
    refine PySem.W.check_slot PySem.F.cmpKind_ne PySem.F.cmpSplit_ne ?_ (PySem.F.cmpArgs_ne _ _) ?_
    · exact I.type.andThen (PySem.W.looks_mroIn X hb)
    · refine objNe (A := A.in1) X I hs hf hu (wpAny_mono hc (fun v s' hv => ?_) fun _ _ e => e)
      obtain ⟨b, rfl, hq⟩ := hv
      exact ⟨b, rfl, ⟨_, rfl, hq⟩⟩
  refine wpAny_bind ?_
  simp only [callSpecialIfBound?, bindSpecialIfBound?]
  refine wpAny_holding (wpAny_bind (wpAny_bind (wpAny_bind (I.type.here ((looks_findIn X hn).here ?_)))))
  simp only [PySem.F.cmp_object.ne.bind]
  refine wpAny_bind (wpAny_askSetting (wpAny_ite ?_))
  have fin : wpAny (model prog w) A (call (.builtin "object.__ne__") ([.ref x] ++ [.ref y]) >>= fun v => pure (some v)) (fun r s' => ∃ b, r = some (.bool b) ∧ Q (some (.bool b)) s') E s :=
    wpAny_bind (wpAny_mono hcall (fun v s' ⟨b, e, q⟩ => wpAny_pure ⟨b, by rw [e], q⟩) fun _ _ h' => h')
  have fin2 : wpAny (model prog w) A (call (.builtin "object.__ne__") ([.ref x] ++ [.ref y]) >>= fun v => pure (some v)) (fun a s' => wpAny (model prog w) A (match a with | some Value.notImplemented => pure none | none => pure none | some r => pure (some r)) Q E s') E s :=
    wpAny_mono fin (fun r s' ⟨b, e, q⟩ => by rw [e]; exact wpAny_pure q) fun _ _ h' => h'
  split
  · exact wpAny_bind (wpAny_pure (wpAny_pure fin2))
  · exact wpAny_tryCatch (wpAny_bind (wpAny_pure (wpAny_pure fin2)))
theorem neq_own (X : K.In s.heap) (I : InstAt s.heap x ox C od) {oy : Obj} {ody : Option Obj} (J : InstAt s.heap y oy C ody) (hn : findIn K (.ref C) "__ne__" = some (some (.builtin "object.__ne__"))) (hs : findIn K (.ref C) "__eq__" = some (some (.ref f))) (hf : isFn K (.ref f) = true)
    (hb : PySem.W.mroIn K C (.type "object") = some true) (hu : A.units + 1 < cLine) {Q : Value → Shared → Prop}
    (hc : wpAny (model prog w) A.in1 (call (.ref f) [.ref x, .ref y]) (fun v s' => ∃ b, v = .bool b ∧ Q (.bool (!b)) s') E s) :
    wpAny (model prog w) A (compareOp .NotEq (.ref x) (.ref y)) Q E s := by
  unfold compareOp richCompare
  simp only [oneThing_ref]
  refine wpAny_holding ?_
  refine wpAny_bind (wpAny_cRoomFor (Nat.lt_of_succ_lt hu) ?_)
  rw [cmpInfo_NotEq]
  dsimp only
  refine wpAny_bind (I.type.here (wpAny_bind (J.type.here ?_)))
  rw [show (Value.ref C != Value.ref C) = false from by simp]
  simp only [Bool.false_eq_true, if_false]
  refine wpAny_bind (wpAny_pure ?_)
  simp only [Bool.false_eq_true, if_false]
  refine wpAny_bind (tryNe X I hn hs hf hb hu (wpAny_mono hc (fun v s' hv => ?_) fun _ _ e => e))
  obtain ⟨b, rfl, hq⟩ := hv
  exact ⟨b, rfl, wpAny_pure hq⟩
/-- bool(x) by an own __bool__ -/
theorem bool_own (X : K.In s.heap) (I : InstAt s.heap x ox C od) (hs : findIn K (.ref C) "__bool__" = some (some (.ref f))) (hf : isFn K (.ref f) = true) {Q : Value → Shared → Prop}
    (h : wpAny (model prog w) A.in1.in1 (call (.ref f) [.ref x]) (fun v s' => ∃ b, v = .bool b ∧ Q (.bool b) s') E s) : wpAny (model prog w) A (call (.type "bool") [.ref x]) Q E s := by
  refine callType_codes (T := "bool") (Bi := Builtin.«object.__init__») (Q₁ := fun r s₁ => ∃ b, r = Value.bool b ∧ Q r s₁) PySem.F.called_bool (PySem.F.typeCall_bool_1 _) PySem.F.entry_object_init ?_ ?_
  · refine codeAny_of_tree ?_
    show wpAny _ A.in1.in1 (do checkBuiltinCall "bool.__new__" ⟨[.type "bool", .ref x], []⟩; again (.builtin "bool.__new__" ⟨[.type "bool", .ref x], []⟩)) _ _ s
    refine wpAny_bind (wpAny_of_eq (PySem.F.newCall_bool_1 _) (wpAny_pure ⟨plainId_quiet (by decide +kernel) _, codeAny_builtin PySem.F.entry_bool_new ?_⟩))
    rw [Around.under_plainId (by decide +kernel) _]
    unfold Builtin.«bool.__new__»
    refine wpAny_bind (wpAny_of_eq (a := true) (by kernel_rfl) ?_)
    refine PySem.W.KFB.if_not rfl ?_
    refine wpAny_bind (wpAny_of_eq (a := true) PySem.F.conv_sub_bool ?_)
    refine PySem.W.KFB.if_not rfl ?_
    refine wpAny_bind (wpAny_of_eq (a := [.ref x]) rfl ?_)
    refine wpAny_bind ?_
    unfold truthy
    refine wpAny_bind (m := callSpecial? (.ref x) (Str.ofString "__bool__")) (special_fn X I hs (beq_iff_eq.mp hf) (wpAny_mono h (fun r s' hr => ?_) fun _ _ y => y))
    obtain ⟨b, rfl, hq⟩ := hr
    exact wpAny_pure (wpAny_pure ⟨b, rfl, hq⟩)
  · rintro obj s₁ ⟨b, rfl, hq⟩
    exact ⟨PySem.typeIs_bool _ _, PySem.F.args_object_init_2 _ _, object_init_meets PySem.F.called_bool.init.lookup PySem.F.called_bool.made (by decide) prog w A.in1 _ s₁ ⟨PySem.typeIs_bool _ _, rfl, hq⟩⟩
end
end Ow

namespace Ow
open PySem PySem.Spec PyProof.Rows L2
/-- the class at C as these rules want it -/
structure OCls (K : PySem.W.Frag) (C : Addr) : Prop where
  first : PySem.W.selfFirst K C = true
  ob : PySem.W.mroIn K C (.type "object") = some true
  ne : PySem.W.findIn K (.ref C) "__ne__" = some (some (.builtin "object.__ne__"))
  nf : PySem.W.notFirst K C (.ref C) = true
/-- a method at f under the name m -/
structure OM (K : PySem.W.Frag) (C : Addr) (m : Str) (f : Addr) : Prop where
  at_ : PySem.W.findIn K (.ref C) m = some (some (.ref f))
  fn : PySem.W.isFn K (.ref f) = true
section
variable {X : Cx} {CX : CXT} {C f : Addr} {n : Nat} {fd : FuncData} {ps : List Str} {sp : Sp} {E : XK}
theorem cback {P : Value → Shared → Prop} {z : V} {v : Value} {s' : Shared} (r : RelV z v) (h : P v s') : PySem.W.CmpBack P v s' := by
  cases z <;> first | (obtain ⟨t, e⟩ := r; subst e; exact h) | (have e := r; simp only [L2.RelV] at e; subst e; exact h)
/-- the called def, some level below -/
theorem run_in {pins : List (Addr × Obj)} {σ : L2.St} {H : Hp} {s : Shared} {A : Around} {Q : VK} {us : List Value} {ws : List V} (F : FnOk X.prog X.w X.K X.mg X.base CX n f fd ps sp) (hr : Room n A) (e0 : Env0 X.prog X.w X.K X.mg X.base A X.stack s H)
    (hb : Binds X.K fd ps []) (hx : Passes CX X E) (I : Inv X pins σ H s) (r : Vals ws us) (h : sp ws H Q E) : wpAny (model X.prog X.w) A (call (.ref f) us) (EP X pins σ Q) X.xe s := by
  have hl : us.length = ps.length := by rw [← r.length]; exact F.len _ _ _ _ h
  have hb2 := hb s us I.kIn (by simpa using hl)
  simp only [List.append_nil] at hb2
  refine wpAny_call (codeAny_mono (F.run A X.stack s H ⟨us, []⟩ us ws Q E hr e0 hb2 r h) fun r s' hq => ?_)
  cases r with
  | error e => exact hx pins σ H s e s' I hq
  | ok fl =>
    cases fl with
    | ret u => exact I.after hq
    | next => exact False.elim hq
    | brk => exact False.elim hq
    | cont => exact False.elim hq
/-- x op y of two instances of one class -/
def rBin (C : Addr) (sp : Sp) (E : XK) : R2 := fun x y H Q => ∃ a b dx fs dy gs, x = .ref a ∧ y = .ref b ∧ H a = some (.ins C dx fs) ∧ H b = some (.ins C dy gs) ∧ sp [.ref a, .ref b] H Q E
theorem op_bin {op : Operator} (oc : OCls X.K C) (om : OM X.K C (PySem.dunder op.info.2) f) (F : FnOk X.prog X.w X.K X.mg X.base CX n f fd ps sp) (hr : Room n X.A) (hb : Binds X.K fd ps []) (hx : Passes CX X E) :
    OpR X (binaryOp op) (rBin C sp E) := by
  intro pins s σ H x y v u Q I rx ry h
  obtain ⟨a, b, dx, fs, dy, gs, rfl, rfl, ha, hb', q⟩ := h
  cases rx
  cases ry
  obtain ⟨mA, J, _⟩ := ins_get I.hok ha
  obtain ⟨mB, J', _⟩ := ins_get I.hok hb'
  obtain ⟨od, J, _⟩ := J.look
  obtain ⟨od', J', _⟩ := J'.look
  obtain ⟨m, hF⟩ := I.fr
  refine PySem.W.binop_K hF I.ok.mod.kin J J'.type oc.first om.at_ om.fn ?_
  refine wpAny_mono (run_in (us := [.ref a, .ref b]) (ws := [.ref a, .ref b]) F hr I.env0 hb hx I (.cons rfl (.cons rfl .nil)) q) (fun w s' ⟨z, H', I', rz, qz⟩ => cback rz ⟨z, H', I', rz, qz⟩) fun _ _ e => e
/-- x == y -/
theorem op_eqO (oc : OCls X.K C) (om : OM X.K C "__eq__" f) (F : FnOk X.prog X.w X.K X.mg X.base CX n f fd ps sp) (hr : Room n X.A) (hb : Binds X.K fd ps []) (hx : Passes CX X E) : OpR X (compareOp .Eq) (rBin C sp E) := by
  intro pins s σ H x y v u Q I rx ry h
  obtain ⟨a, b, dx, fs, dy, gs, rfl, rfl, ha, hb', q⟩ := h
  cases rx
  cases ry
  obtain ⟨mA, J, _⟩ := ins_get I.hok ha
  obtain ⟨mB, J', _⟩ := ins_get I.hok hb'
  obtain ⟨od, J, _⟩ := J.look
  obtain ⟨od', J', _⟩ := J'.look
  obtain ⟨m, hF⟩ := I.fr
  show wpAny _ _ (richCompare .Eq _ _) _ _ _
  refine PySem.W.cmp_K (op := .Eq) (tb := .ref C) hr.units0 hF I.ok.mod.kin J J'.type oc.nf om.at_ om.fn ?_
  refine wpAny_mono (run_in (us := [.ref a, .ref b]) (ws := [.ref a, .ref b]) F hr I.env0 hb hx I (.cons rfl (.cons rfl .nil)) q) (fun w s' ⟨z, H', I', rz, qz⟩ => cback rz ⟨z, H', I', rz, qz⟩) fun _ _ e => e
/-- x != y, by an own equal that answers a bool -/
def rBinN (C : Addr) (sp : Sp) (E : XK) : R2 := fun x y H Q => ∃ a b dx fs dy gs, x = .ref a ∧ y = .ref b ∧ H a = some (.ins C dx fs) ∧ H b = some (.ins C dy gs) ∧ sp [.ref a, .ref b] H (fun z H' => ∃ k, z = .bl k ∧ Q (.bl (!k)) H') E
theorem op_neO (oc : OCls X.K C) (om : OM X.K C "__eq__" f) (F : FnOk X.prog X.w X.K X.mg X.base CX n f fd ps sp) (hr : Room (n + 1) X.A) (hb : Binds X.K fd ps []) (hx : Passes CX X E) : OpR X (compareOp .NotEq) (rBinN C sp E) := by
  intro pins s σ H x y v u Q I rx ry h
  obtain ⟨a, b, dx, fs, dy, gs, rfl, rfl, ha, hb', q⟩ := h
  cases rx
  cases ry
  obtain ⟨mA, J, _⟩ := ins_get I.hok ha
  obtain ⟨mB, J', _⟩ := ins_get I.hok hb'
  obtain ⟨od, J, _⟩ := J.look
  obtain ⟨od', J', _⟩ := J'.look
  refine neq_own I.kIn J J' oc.ne om.at_ om.fn oc.ob (hu_of hr) ?_
  refine wpAny_mono (run_in (us := [.ref a, .ref b]) (ws := [.ref a, .ref b]) F hr.in1 I.env0.in1 hb hx I (.cons rfl (.cons rfl .nil)) q) (fun w s' ⟨z, H', I', rz, k, ez, qz⟩ => ?_) fun _ _ e => e
  subst ez
  exact ⟨k, rz, .bl (!k), H', I', rfl, qz⟩
/-- -x -/
def rNegO (C : Addr) (sp : Sp) (E : XK) : V → Hp → VK → Prop := fun x H Q => ∃ a dx fs, x = .ref a ∧ H a = some (.ins C dx fs) ∧ sp [.ref a] H Q E
theorem un_negO (om : OM X.K C "__neg__" f) (F : FnOk X.prog X.w X.K X.mg X.base CX n f fd ps sp) (hr : Room n X.A) (hb : Binds X.K fd ps []) (hx : Passes CX X E) : UnR X (unaryOp .USub) (rNegO C sp E) := by
  intro pins s σ H x v Q I rx h
  obtain ⟨a, dx, fs, rfl, ha, q⟩ := h
  cases rx
  obtain ⟨mA, J, _⟩ := ins_get I.hok ha
  obtain ⟨od, J, _⟩ := J.look
  obtain ⟨m, hF⟩ := I.fr
  refine PySem.W.ksp_neg hF I.ok.mod.kin J om.at_ om.fn ?_
  exact run_in (us := [.ref a]) (ws := [.ref a]) F hr I.env0 hb hx I (.cons rfl .nil) q
/-- bool(x) by an own __bool__ -/
def rBoolO (C : Addr) (sp : Sp) (E : XK) : List V → Hp → VK → Prop := fun xs H Q => ∃ a dx fs, xs = [.ref a] ∧ H a = some (.ins C dx fs) ∧ sp [.ref a] H (fun z H' => ∃ k, z = .bl k ∧ Q (.bl k) H') E
theorem call_boolO (om : OM X.K C "__bool__" f) (F : FnOk X.prog X.w X.K X.mg X.base CX n f fd ps sp) (hr : Room (n + 2) X.A) (hb : Binds X.K fd ps []) (hx : Passes CX X E) : CallR X (.type "bool") (rBoolO C sp E) := by
  intro pins s σ H xs us Q I r h
  obtain ⟨a, dx, fs, rfl, ha, q⟩ := h
  obtain ⟨u, rfl, ru⟩ := vals1 r
  cases ru
  obtain ⟨mA, J, _⟩ := ins_get I.hok ha
  obtain ⟨od, J, _⟩ := J.look
  have hr2 : Room n X.A.in1.in1 := (show Room (n + 1) X.A.in1 from Room.in1 hr).in1
  refine bool_own I.kIn J om.at_ om.fn ?_
  refine wpAny_mono (run_in (us := [.ref a]) (ws := [.ref a]) F hr2 I.env0.in1.in1 hb hx I (.cons rfl .nil) q) (fun w s' ⟨z, H', I', rz, k, ez, qz⟩ => ?_) fun _ _ e => e
  subst ez
  exact ⟨k, rz, .bl k, H', I', rfl, qz⟩
/-- powers with a large base -/
def CPowW (i j : Int) : Prop := 0 ≤ j ∧ (Builtin.Int.intBits i : Int) * j ≤ 2 ^ 27
theorem op_powW : OpR X (binaryOp .Pow) (rI CPowW fun i j => .int (i ^ j.toNat)) := by
  intro pins s σ H x y v u Q I rx ry h
  obtain ⟨i, j, rfl, rfl, hc, q⟩ := h
  obtain ⟨t, rfl⟩ := rx
  obtain ⟨t', rfl⟩ := ry
  exact pow_int hc.1 hc.2 ⟨.int _, H, I.tok _, ⟨_, rfl⟩, q⟩
end
/-! ### a def of the module by its promise -/
/-- the def under the name x keeps the promise sp, by at most level k -/
structure Cal (P : Program) (w : World) (K : PySem.W.Frag) (mg : Str → Option Value) (base : Heap) (x : Str) (k : Nat) (sp : Sp) : Prop where
  ex : ∃ f fd ps, FnOk P w K mg base CX0 k f fd ps sp ∧ mg x = some (.ref f) ∧ PySem.W.keepIn K (.ref f) = true ∧ Binds K fd ps []
section
variable {X : Cx} {x : Str} {k : Nat} {sp : Sp} {e : Expr} {es : List Expr} {t : TA} {p pos : Pos}
theorem pe_cal (C : Cal X.prog X.w X.K X.mg X.base x k sp) (hr : Room k X.A) (hg : Gl X x) (ha : PA X (e :: es) t) (hdb : (x == ("__debug__" : Str)) = false := by decide)
    (he : starEach (e :: es) X.env = (false, eval e X.env) :: starEach es X.env := by rfl) (hpl : (backTo pos (starEach es X.env)).any (·.1) = false := by rfl) : PE X (.Call (.Name x p) (e :: es) [] pos) (tCall sp [] E0 t) := by
  obtain ⟨f, fd, ps, F, hm, hk, hb⟩ := C.ex
  exact pe_call F hr hg hm hk hb .nil pass0 ha hdb he hpl
theorem pe_cal0 (C : Cal X.prog X.w X.K X.mg X.base x k sp) (hr : Room k X.A) (hg : Gl X x) (hdb : (x == ("__debug__" : Str)) = false := by decide) : PE X (.Call (.Name x p) [] [] pos) (tCall sp [] E0 tNil) := by
  obtain ⟨f, fd, ps, F, hm, hk, hb⟩ := C.ex
  exact pe_call0 F hr hg hm hk hb .nil pass0 hdb
end
end Ow

namespace Ow
open PySem PySem.Spec PyProof.Rows L2
section
variable {X : Cx} {CX : CXT} {C f : Addr} {n : Nat} {fd : FuncData} {ps : List Str} {sp : Sp} {E : XK}
/-- str(x) by an own __str__ -/
def rStrO (C : Addr) (sp : Sp) (E : XK) : List V → Hp → VK → Prop := fun xs H Q => ∃ a dx fs, xs = [.ref a] ∧ H a = some (.ins C dx fs) ∧ sp [.ref a] H (fun z H' => ∃ y, z = .str y ∧ Q (.str y) H') E
theorem call_strO (om : OM X.K C "__str__" f) (F : FnOk X.prog X.w X.K X.mg X.base CX n f fd ps sp) (hr : Room (n + 2) X.A) (hb : Binds X.K fd ps []) (hx : Passes CX X E) : CallR X (.type "str") (rStrO C sp E) := by
  intro pins s σ H xs us Q I r h
  obtain ⟨a, dx, fs, rfl, ha, q⟩ := h
  obtain ⟨u, rfl, ru⟩ := vals1 r
  cases ru
  obtain ⟨mA, J, _⟩ := ins_get I.hok ha
  obtain ⟨od, J, _⟩ := J.look
  have hr2 : Room n X.A.in1.in1 := (show Room (n + 1) X.A.in1 from Room.in1 hr).in1
  refine PySem.W.kso_call hr2.units0 I.kIn J om.at_ om.fn ?_
  refine wpAny_mono (run_in (us := [.ref a]) (ws := [.ref a]) F hr2 I.env0.in1.in1 hb hx I (.cons rfl .nil) q) (fun w s' ⟨z, H', I', rz, y, ez, qz⟩ => ?_) fun _ _ e => e
  subst ez
  obtain ⟨t, rfl⟩ := rz
  exact ⟨.str y, H', I', ⟨t, rfl⟩, qz⟩
/-- a text of parts, by a name -/
def tJn (ts : List TE) : TE := fun σ H Q => tJs ts Str.empty σ H fun out H1 => Q (.str out) H1
theorem pe_fstr {v1 v2 : Expr} {rest : List Expr} {ts : List TE} {pos : Pos} (h : PJ X (v1 :: v2 :: rest) ts) : PE X (.JoinedStr (v1 :: v2 :: rest) pos) (tJn ts) := pe_joined h
theorem u65 {A : Around} {k : Nat} (hr : Room k A) : A.units + 65 < cLine := by
  have := hr.un
  omega
def rInT (K : PySem.W.Frag) : R2 := fun x y H Q => ∃ d ds, Dp K H x d ∧ Dp K H y (.tuple ds) ∧ SeqAt.shaped d = true ∧ SeqAt.shaped (.tuple ds) = true ∧ Q (.bl (ds.any fun z => PyData.eqv z d)) H
theorem op_inT (hu : X.A.units + 65 < cLine) : OpR X (compareOp .In) (rInT X.K) := by
  intro pins s σ H x y v u Q I rx ry h
  obtain ⟨d, ds, hd, he, sd, se, q⟩ := h
  obtain ⟨as, r1⟩ := Dp.reads I d x v hd rx
  obtain ⟨bs, r2⟩ := Dp.reads I (.tuple ds) y u he ry
  exact SeqAt.in_tuple_reads r2 r1 (SeqAt.canLay_of_shaped se) (SeqAt.canLay_of_shaped sd) (room_in_shaped (xs := ds) sd hu) ⟨.bl _, H, I, rfl, q⟩
end
end Ow

namespace Ow
open PySem PySem.Spec PyProof.Rows
open PySem.W (findIn isFn InstAt looks_findIn special_fn ifBound_K)
section
variable {prog : Program} {w : World} {A : Around} {E : Value → Shared → Prop} {s : Shared} {K : PySem.W.Frag} {x C f : Addr} {y tb : Value} {ox : Obj} {od : Option Obj}
theorem objNeV (X : K.In s.heap) (I : InstAt s.heap x ox C od) (hs : findIn K (.ref C) "__eq__" = some (some (.ref f))) (hf : isFn K (.ref f) = true) (hu : A.units < cLine) {Q : Fin → Shared → Prop}
    (hc : wpAny (model prog w) A (call (.ref f) [.ref x, y]) (fun v s' => ∃ b, v = .bool b ∧ Q (.done (.ret (.bool (!b)))) s') E s) :
    wpAny (model prog w) A (Builtin.«object.__ne__» ⟨[.ref x, y], []⟩) Q E s := by
  obtain ⟨hp, g, d, tk, os⟩ := s
  unfold Builtin.«object.__ne__»
  repeat (first
    | with_reducible refine wpAny_cRoomFor hu ?_
    | (refine wpAny_bind (m := callSpecialIfBound? (.ref x) (Str.ofString "__eq__") [y])
        (ifBound_K X I hs hf (wpAny_mono hc (fun r s' hr => by
          obtain ⟨b, rfl, hq⟩ := hr
          repeat (first | exact hq | exact wpAny_pure hq | exact wpAny_truthy_bool hq | (refine wpAny_bind (m := truthy (.bool _)) (wpAny_truthy_bool ?_)) | wp_step)) fun _ _ e => e)))
    | wp_step)
theorem tryNeV (X : K.In s.heap) (I : InstAt s.heap x ox C od) (hn : findIn K (.ref C) "__ne__" = some (some (.builtin "object.__ne__"))) (hs : findIn K (.ref C) "__eq__" = some (some (.ref f))) (hf : isFn K (.ref f) = true)
    (hb : PySem.W.mroIn K C (.type "object") = some true) (hu : A.units + 1 < cLine) {Q : Option Value → Shared → Prop}
    (hc : wpAny (model prog w) A.in1 (call (.ref f) [.ref x, y]) (fun v s' => ∃ b, v = .bool b ∧ Q (some (.bool (!b))) s') E s) :
    wpAny (model prog w) A (tryCompare (.ref x) "__ne__" y) Q E s := by
  simp only [tryCompare]
  have hcall : wpAny (model prog w) A (call (.builtin "object.__ne__") (.ref x :: [y])) (fun v s' => ∃ b, v = .bool b ∧ Q (some (.bool b)) s') E s := by
    refine wpAny_call (codeAny_call_builtin PySem.F.cmp_object.ne.plain PySem.F.cmpEntry_ne ?_)
    refine PySem.W.check_slot PySem.F.cmpKind_ne PySem.F.cmpSplit_ne ?_ (PySem.F.cmpArgs_ne _ _) ?_
    · exact I.type.andThen (PySem.W.looks_mroIn X hb)
    · refine objNeV (A := A.in1) X I hs hf hu (wpAny_mono hc (fun v s' hv => ?_) fun _ _ e => e)
      obtain ⟨b, rfl, hq⟩ := hv
      exact ⟨b, rfl, ⟨_, rfl, hq⟩⟩
  refine wpAny_bind ?_
  simp only [callSpecialIfBound?, bindSpecialIfBound?]
  refine wpAny_holding (wpAny_bind (wpAny_bind (wpAny_bind (I.type.here ((looks_findIn X hn).here ?_)))))
  simp only [PySem.F.cmp_object.ne.bind]
  refine wpAny_bind (wpAny_askSetting (wpAny_ite ?_))
  have fin : wpAny (model prog w) A (call (.builtin "object.__ne__") ([.ref x] ++ [y]) >>= fun v => pure (some v)) (fun r s' => ∃ b, r = some (.bool b) ∧ Q (some (.bool b)) s') E s :=
    wpAny_bind (wpAny_mono hcall (fun v s' ⟨b, e, q⟩ => wpAny_pure ⟨b, by rw [e], q⟩) fun _ _ h' => h')
  have fin2 : wpAny (model prog w) A (call (.builtin "object.__ne__") ([.ref x] ++ [y]) >>= fun v => pure (some v)) (fun a s' => wpAny (model prog w) A (match a with | some Value.notImplemented => pure none | none => pure none | some r => pure (some r)) Q E s') E s :=
    wpAny_mono fin (fun r s' ⟨b, e, q⟩ => by rw [e]; exact wpAny_pure q) fun _ _ h' => h'
  split
  · exact wpAny_bind (wpAny_pure (wpAny_pure fin2))
  · exact wpAny_tryCatch (wpAny_bind (wpAny_pure (wpAny_pure fin2)))
theorem neq_other {T : String} (X : K.In s.heap) (I : InstAt s.heap x ox C od) (J : PySem.W.Looks (model prog w) s.heap (typeOf y) (.type T)) (nf : PySem.W.subIn K (.type T) (.ref C) = some false) (hn : findIn K (.ref C) "__ne__" = some (some (.builtin "object.__ne__"))) (hs : findIn K (.ref C) "__eq__" = some (some (.ref f))) (hf : isFn K (.ref f) = true)
    (hb : PySem.W.mroIn K C (.type "object") = some true) (hu : A.units + 1 < cLine) {Q : Value → Shared → Prop}
    (hc : wpAny (model prog w) A.in1 (call (.ref f) [.ref x, y]) (fun v s' => ∃ b, v = .bool b ∧ Q (.bool (!b)) s') E s) :
    wpAny (model prog w) A (compareOp .NotEq (.ref x) y) Q E s := by
  unfold compareOp richCompare
  simp only [oneThing_ref]
  refine wpAny_holding ?_
  refine wpAny_bind (wpAny_cRoomFor (Nat.lt_of_succ_lt hu) ?_)
  rw [cmpInfo_NotEq]
  dsimp only
  refine wpAny_bind (I.type.here (wpAny_bind (J.here ?_)))
  rw [show (Value.ref C != Value.type T) = true from by simp]
  simp only [if_true]
  refine wpAny_bind ((PySem.W.looks_subIn X nf).here ?_)
  simp only [Bool.false_eq_true, if_false]
  refine wpAny_bind (tryNeV X I hn hs hf hb hu (wpAny_mono hc (fun v s' hv => ?_) fun _ _ e => e))
  obtain ⟨b, rfl, hq⟩ := hv
  exact ⟨b, rfl, wpAny_pure hq⟩
end
end Ow
namespace Ow
open PySem PySem.Spec PyProof.Rows L2
section
variable {X : Cx} {CX : CXT} {C f : Addr} {n : Nat} {fd : FuncData} {ps : List Str} {sp : Sp} {E : XK}
/-- x == y, y of a built-in class -/
def rBinX (K : PySem.W.Frag) (C : Addr) (sp : Sp) (E : XK) : R2 := fun x y H Q => ∃ a dx fs T, x = .ref a ∧ H a = some (.ins C dx fs) ∧ TyX K H y (.type T) ∧ PySem.W.subIn K (.type T) (.ref C) = some false ∧ sp [.ref a, y] H Q E
theorem nf_of {K : PySem.W.Frag} {T : String} (h : PySem.W.subIn K (.type T) (.ref C) = some false) : PySem.W.notFirst K C (.type T) = true := by
  unfold PySem.W.notFirst
  rw [h]
  simp
theorem op_eqX (om : OM X.K C "__eq__" f) (F : FnOk X.prog X.w X.K X.mg X.base CX n f fd ps sp) (hr : Room n X.A) (hb : Binds X.K fd ps []) (hx : Passes CX X E) : OpR X (compareOp .Eq) (rBinX X.K C sp E) := by
  intro pins s σ H x y v u Q I rx ry h
  obtain ⟨a, dx, fs, T, rfl, ha, ty, nf, q⟩ := h
  cases rx
  obtain ⟨mA, J, _⟩ := ins_get I.hok ha
  obtain ⟨od, J, _⟩ := J.look
  obtain ⟨m, hF⟩ := I.fr
  obtain ⟨Pu, Z, pu, _⟩ := kit_of I ry ty
  show wpAny _ _ (richCompare .Eq _ _) _ _ _
  refine PySem.W.cmp_K (op := .Eq) (tb := .type T) hr.units0 hF I.ok.mod.kin J (Z.ty _ _ I.kIn pu) (nf_of nf) om.at_ om.fn ?_
  refine wpAny_mono (run_in (us := [.ref a, u]) (ws := [.ref a, y]) F hr I.env0 hb hx I (.cons rfl (.cons ry .nil)) q) (fun w s' ⟨z, H', I', rz, qz⟩ => cback rz ⟨z, H', I', rz, qz⟩) fun _ _ e => e
def rBinNX (K : PySem.W.Frag) (C : Addr) (sp : Sp) (E : XK) : R2 := fun x y H Q => ∃ a dx fs T, x = .ref a ∧ H a = some (.ins C dx fs) ∧ TyX K H y (.type T) ∧ PySem.W.subIn K (.type T) (.ref C) = some false ∧ sp [.ref a, y] H (fun z H' => ∃ k, z = .bl k ∧ Q (.bl (!k)) H') E
theorem op_neX (oc : OCls X.K C) (om : OM X.K C "__eq__" f) (F : FnOk X.prog X.w X.K X.mg X.base CX n f fd ps sp) (hr : Room (n + 1) X.A) (hb : Binds X.K fd ps []) (hx : Passes CX X E) : OpR X (compareOp .NotEq) (rBinNX X.K C sp E) := by
  intro pins s σ H x y v u Q I rx ry h
  obtain ⟨a, dx, fs, T, rfl, ha, ty, nf, q⟩ := h
  cases rx
  obtain ⟨mA, J, _⟩ := ins_get I.hok ha
  obtain ⟨od, J, _⟩ := J.look
  obtain ⟨Pu, Z, pu, _⟩ := kit_of I ry ty
  refine neq_other I.kIn J (Z.ty _ _ I.kIn pu) nf oc.ne om.at_ om.fn oc.ob (hu_of hr) ?_
  refine wpAny_mono (run_in (us := [.ref a, u]) (ws := [.ref a, y]) F hr.in1 I.env0.in1 hb hx I (.cons rfl (.cons ry .nil)) q) (fun w s' ⟨z, H', I', rz, k, ez, qz⟩ => ?_) fun _ _ e => e
  subst ez
  exact ⟨k, rz, .bl (!k), H', I', rfl, qz⟩
end
end Ow

/-! enumerate of a tuple -/
namespace Ow
open PySem PySem.Spec PyProof.Rows L2
set_option maxHeartbeats 8000000 in
theorem enum1_new {v : Value} {o : Obj} {Hy : Heap → Prop} (B : Begins v o Hy) : Meets (Builtin.«enumerate.__new__» ⟨[.type "enumerate", v], []⟩) (fun _ R s => Hy s.heap ∧
    R (.ok (.ret (.ref (s.heap.push o).objs.size))) { s with heap := (s.heap.push o).push { cls := .type "enumerate", data := .fields #[.none, .bool false, .ref s.heap.objs.size, rawInt 0, .none, .none] } }) := .of_wp fun prog w A R s h => by
  obtain ⟨hp, g, d, tk, os⟩ := s
  obtain ⟨h1, h⟩ := h
  have sb := sub_enumerate
  have q1 {A' : Around} {E Q : Value → Shared → Prop} (q : Q (.ref hp.objs.size) ⟨hp.push o, g, d, tk, os⟩) : wpAny (model prog w) A' (pyIter v) Q E ⟨hp, g, d, tk, os⟩ := B.iter prog w _ _ ⟨hp, g, d, tk, os⟩ _ h1 q
  wp_walk using q1
  apply wpAny_stack_any; intro st; apply wpAny_pure
  split
  · rename_i c _ _ _ _ _; cases (c == Value.type "enumerate") <;> (wp_walk using q1; exact ⟨_, rfl, h⟩)
  · wp_walk using q1; exact ⟨_, rfl, h⟩
section
variable {prog : Program} {w : World} {A : Around} {E : Value → Shared → Prop} {s : Shared}
theorem enum1_call {v : Value} {o : Obj} {Hy : Heap → Prop} {Q : Value → Shared → Prop} (B : Begins v o Hy) (h1 : Hy s.heap)
    (h : ∀ h', IsEnum h' (s.heap.objs.size + 1) s.heap.objs.size 0 .none → h'.get? s.heap.objs.size = some o → (∀ b u, s.heap.get? b = some u → h'.get? b = some u) → Q (.ref (s.heap.objs.size + 1)) { s with heap := h' }) :
    wpAny (model prog w) A (call (.type "enumerate") [v]) Q E s := by
  refine callType_new F.called_enumerate (by decide) (F.typeCall_enumerate_1 _) (F.newCall_enumerate_1 _) (fun ob => F.args_object_init_2 ob _) F.entry_enumerate_new (enum1_new B) ⟨h1, ?_⟩
  have z1 : (s.heap.push o).objs.size = s.heap.objs.size + 1 := Heap.size_push ..
  have he : IsEnum ((s.heap.push o).push { cls := .type "enumerate", data := .fields #[.none, .bool false, .ref s.heap.objs.size, rawInt 0, .none, .none] }) (s.heap.objs.size + 1) s.heap.objs.size 0 .none := by
    have q := Heap.get?_push_size (s.heap.push o) (o := { cls := .type "enumerate", data := .fields #[.none, .bool false, .ref s.heap.objs.size, rawInt 0, .none, .none] }) rfl
    rwa [z1] at q
  show _ ∧ _
  rw [z1]
  exact ⟨⟨_, he, rfl⟩, h _ he (Heap.get?_push_of_some _ (Heap.get?_push_size _ B.free)) fun b u x => Heap.get?_push_of_some _ (Heap.get?_push_of_some _ x)⟩
end
/-- the tuple at a, each item in a new pair with its place -/
def IteT (K : PySem.W.Frag) (a : Addr) : It where
  go i H := ∃ (xs : List V) (x : V), SqT K H a xs ∧ xs[i]? = some x
  yld i H v H' := ∃ T x, v = .ref T ∧ H T = none ∧ H' = upd H T (.tup [.int (i : Nat), x]) ∧ ∀ xs, SqT K H a xs → xs[i]? = some x
  stop i H := ∃ xs : List V, SqT K H a xs ∧ xs.length ≤ i
theorem turn_enumT {P : Program} {w : World} {K : PySem.W.Frag} {elts : List Expr} {kk : Nat} {tpos : Pos} (a e it : Addr) :
    Turn P w K (.Tuple elts kk tpos) (IteT K a) [e, it] e (fun i h => (∃ old, IsEnum h e it ((i : Nat) : Int) old) ∧ h.IsTupleIter it a i ∧ e ≠ it ∧ a ≠ it ∧ a ≠ e) where
  mem := by simp
  obj := fun i h st b hb => by
    obtain ⟨⟨old, he⟩, ⟨o, ho, hc, hd⟩, _⟩ := st
    rcases (show b = e ∨ b = it by simpa using hb) with rfl | rfl
    · exact ⟨_, he, fun v q => nomatch q⟩
    · exact ⟨o, ho, fun v q => by rw [hd] at q; cases q⟩
  keep := fun i h h' st k => by
    obtain ⟨⟨old, he⟩, hi, ne⟩ := st
    exact ⟨⟨old, k e (by simp) _ he⟩, hi.at fun o q => k it (by simp) o q, ne⟩
  item := by
    intro X hP hw hK hc i pins s σ H E I hf st hg
    subst hP hw hK
    obtain ⟨⟨old, he⟩, hit, hne, nai, nae⟩ := st
    obtain ⟨xs, x, hq, hx⟩ := hg
    obtain ⟨its, rv, p, hz⟩ := I.tuple hq
    obtain ⟨u, hu, ru⟩ := rv.get hx
    have hel := Heap.lt_size he
    have hil : it < s.heap.objs.size := by
      obtain ⟨_, q, _⟩ := hit
      exact Heap.lt_size q
    have pt : s.heap.IsTuple a its.toArray := p
    have ilt : i < its.toArray.size := by
      have := (List.getElem?_eq_some_iff.mp hu).1
      simpa using this
    refine wpAny_pyNext_enum_itemD (Draws.tuple (A := X.A.in1) (show X.A.in1.handled = none from I.ok.hd hc) it a nai its.toArray) he ⟨hit, pt⟩ ilt hne (by simp [hne, Ne.symm nae]) fun y h' tk hy ho st' hT hsz hk => ?_
    obtain rfl : u = y := by
      have : its.toArray[i]? = some y := hy
      rw [show its.toArray[i]? = some u by simpa using hu] at this
      exact Option.some.inj this
    refine ⟨_, rfl, wpAny_letOwnedTupleGo_enum (s := { s with heap := h', toks := tk + 1 }) ho fun h2 he' sb => ?_⟩
    have hT2 : h2.get? s.heap.objs.size = some { cls := .type "tuple", data := .seq #[.int i tk, u] } := (sb.2 _ (Nat.ne_of_gt hel)).trans hT
    have ok : ObjOk X.prog X.w (upd H s.heap.objs.size (.tup [.int (i : Nat), x])) h2 s.heap.objs.size (.tup [.int (i : Nat), x]) := ⟨show 2 ≤ sizeLine by decide, [.int i tk, u], .cons ⟨_, rfl⟩ (.cons ru .nil), ⟨_, hT2, rfl, _, rfl⟩⟩
    have I1 : Inv X pins σ (upd H s.heap.objs.size (.tup [.int (i : Nat), x])) { s with heap := h2, toks := tk + 1 } :=
      I.turnedNew (ch := [e, it]) (fun b ob hb q => (sb.2 b fun z => hb (by simp [z])).trans (hk b ob (fun z => hb (by simp [z])) (fun z => hb (by simp [z])) q)) hf (Nat.le_refl _) ok
    refine ⟨.ref s.heap.objs.size, _, I1, rfl, ⟨_, x, rfl, I.hok.fresh (Nat.le_refl _), rfl, fun ys hy => I.tuple_inj hq hy ▸ hx⟩, ⟨⟨u, ?_⟩, st'.1.at fun o q => (sb.2 it (Ne.symm hne)).trans q, hne, nai, nae⟩, fun b hb => ?_⟩
    · rw [show ((i + 1 : Nat) : Int) = (i : Int) + 1 by omega]
      exact he'
    · have hb' : b < s.heap.objs.size := by rcases (show b = e ∨ b = it by simpa using hb) with rfl | rfl <;> assumption
      rw [upd_ne (Nat.ne_of_lt hb')]
      exact (hf b hb).1
  done := by
    intro X hP hw hK hc i pins s σ H E I hf st hg
    subst hP hw hK
    obtain ⟨⟨old, he⟩, hit, hne, nai, nae⟩ := st
    obtain ⟨xs, hq, hx⟩ := hg
    obtain ⟨its, rv, p, hz⟩ := I.tuple hq
    have fi := hf it (by simp)
    obtain ⟨f0, f1, f2, f3, f4, f5⟩ := fi
    have pt : s.heap.IsTuple a its.toArray := p
    have hl := rv.length
    have D : Draws X.prog X.w X.A.in1 it [it, a] i (fun _ _ => False) (fun j h => j = i ∧ h.IsTupleIter it a i ∧ h.IsTuple a its.toArray) :=
      { live := fun _ _ st => let ⟨o, ho, _⟩ := st.2.1; ⟨o, ho⟩
        frame := fun _ _ _ st hk => ⟨st.1, st.2.1.at fun o e => hk it (by simp) o e, st.2.2.at fun o e => hk a (by simp) o e⟩
        item := fun j s Q E hj st _ => absurd st.1 (Nat.ne_of_lt hj)
        done := fun s Q E st hE => wpAny_nextOf_tuple_end (show X.A.in1.handled = none from I.ok.hd hc) st.2.1 st.2.2 (by simp; omega) hE }
    exact wpAny_pyNext_enum_endD D he ⟨rfl, hit, pt⟩ fun h' eb => ⟨rfl, I.turned (t' := s.toks) (fun b o hb q => eb b o hb q) f0 f1 f3 f4 f5⟩
  self := fun _ _ _ _ _ st h => by
    obtain ⟨⟨_, he⟩, _⟩ := st
    exact wpAny_pyIter_enum he h
def iEnumT (K : PySem.W.Frag) (ta : TA) : TI := fun σ H R => ta σ H fun vs H1 => ∃ a xs, vs = [.ref a] ∧ SqT K H1 a xs ∧ R (IteT K a) H1
theorem pi_enumT {X : Cx} {e : Expr} {ta : TA} {p pos tpos : Pos} {elts : List Expr} {kk : Nat} (hg : Gl X "enumerate") (hm : X.mg "enumerate" = none) (ha : PA X [e] ta) (hs : starEach [e] X.env = [(false, eval e X.env)] := by rfl) :
    PI X (.Tuple elts kk tpos) (.Call (.Name "enumerate" p) [e] [] pos) (iEnumT X.K ta) := by
  refine ⟨fun pins s σ H R I h => Call_ (ld_blt I hg hm boot_enumerate (PyProof.Rows.callWith_type1 (thn (ha.run pos pins s σ H _ I h) fun us s1 ⟨vs, H1, I1, r1, a, xs, ex, hq, q⟩ => ?_) hs rfl))⟩
  subst ex
  obtain ⟨u, rfl, ru⟩ := r1.one
  cases ru
  obtain ⟨its, rv, p', hz⟩ := I1.tuple hq
  have pt : s1.heap.IsTuple a its.toArray := p'
  have al : a < s1.heap.objs.size := by
    obtain ⟨o, ho, _⟩ := pt
    exact Heap.lt_size ho
  refine enum1_call (begins_tuple a its.toArray) pt fun h' he hit hk => wpAny_pyIter_enum he ?_
  have J2 : Inv X pins σ H1 { s1 with heap := h' } := I1.kept (t' := s1.toks) hk
  refine ⟨s1.heap.objs.size + 1, [s1.heap.objs.size + 1, s1.heap.objs.size], _, _, H1, rfl, J2, turn_enumT a (s1.heap.objs.size + 1) s1.heap.objs.size, ⟨⟨.none, he⟩, ⟨_, hit, rfl, rfl⟩, Nat.succ_ne_self _, Nat.ne_of_lt al, Nat.ne_of_lt (Nat.lt_succ_of_lt al)⟩, fun b hb => ?_, q⟩
  have hle : s1.heap.objs.size ≤ b := by rcases (show b = s1.heap.objs.size + 1 ∨ b = s1.heap.objs.size by simpa using hb) with rfl | rfl <;> omega
  exact I1.fpOk hle (I1.hok.fresh hle)
end Ow

/-! t[::-1], t a tuple -/
namespace Ow
open PySem PySem.Spec PyProof.Rows L2
theorem rev_adj (n : Nat) : Builtin.Slice.sliceAdjust none none (-1) (n : Int) = ((n : Int) - 1, -1) := rfl
theorem rev_places (n : Nat) : Builtin.Slice.slicePlaces ((n : Int) - 1) (-1) (-1) = n := by
  unfold Builtin.Slice.slicePlaces
  rw [if_neg (by decide)]
  split
  · rw [show (- -1 : Int) = 1 by decide, Int.ediv_one]
    omega
  · omega
theorem rev_pick (xs : Array Value) : ((List.range xs.size).filterMap fun (k : Nat) => xs[((xs.size : Int) - 1 + (k : Int) * -1).toNat]?).toArray = xs.toList.reverse.toArray := by
  have e : ((List.range xs.size).filterMap fun (k : Nat) => xs[((xs.size : Int) - 1 + (k : Int) * -1).toNat]?) = ((List.range xs.size).map fun k => xs.size - 1 - k).filterMap (xs[·]?) := by
    rw [List.filterMap_map]
    have : ∀ l : List Nat, (∀ k ∈ l, k < xs.size) → (l.filterMap fun (k : Nat) => xs[((xs.size : Int) - 1 + (k : Int) * -1).toNat]?) = l.filterMap ((xs[·]?) ∘ fun k => xs.size - 1 - k) := by
      intro l
      induction l with
      | nil => intro _; rfl
      | cons k l ih =>
        intro h
        have hk := h k List.mem_cons_self
        rw [List.filterMap_cons, List.filterMap_cons, ih fun j m => h j (List.mem_cons_of_mem _ m)]
        have : ((xs.size : Int) - 1 + (k : Int) * -1).toNat = xs.size - 1 - k := by omega
        rw [this]
        rfl
    exact this _ fun k m => List.mem_range.mp m
  rw [e, PySem.W.krv_range, List.filterMap_reverse, PySem.W.krv_all]
section
variable {prog : Program} {w : World} {A : Around} {E : Value → Shared → Prop} {s : Shared}
theorem rev_applied {sl : Addr} {vs : Value} {n : Nat} {Q : Int × Int × Nat → Shared → Prop} (hs : s.heap.IsSliceOf sl .none .none vs) (ps : IsPart vs (some (-1))) (h : Q ((n : Int) - 1, -1, n) s) : wpAny (model prog w) A (Builtin.Slice.sliceApplied (.ref sl) (pure (n : Int))) Q E s := by
  obtain ⟨os, hos, _, hds⟩ := id hs
  unfold Builtin.Slice.sliceApplied Builtin.Slice.sliceFields
  have f0 {Q' : Value → Shared → Prop} (q : Q' .none s) : wpAny (model prog w) A (field (.ref sl) 0) Q' E s := wpAny_field hos hds (x := .none) rfl q
  have f1 {Q' : Value → Shared → Prop} (q : Q' .none s) : wpAny (model prog w) A (field (.ref sl) 1) Q' E s := wpAny_field hos hds (x := .none) rfl q
  have f2 {Q' : Value → Shared → Prop} (q : Q' vs s) : wpAny (model prog w) A (field (.ref sl) 2) Q' E s := wpAny_field hos hds (x := vs) rfl q
  refine wpAny_bind (wpAny_bind (f0 (wpAny_bind (f1 (wpAny_bind (f2 (wpAny_pure ?_)))))))
  refine wpAny_bind (HT.slicePart_ ps ?_)
  show wpAny _ _ (if ((-1 : Int) == 0) = true then _ else _) _ _ s
  rw [if_neg (show ¬ ((-1 : Int) == 0) = true by decide)]
  refine wpAny_bind (slicePart_none (wpAny_bind (slicePart_none (wpAny_bind (wpAny_pure ?_)))))
  show wpAny _ _ (match Builtin.Slice.sliceAdjust none none (-1) (n : Int) with | (lo, hi) => pure (lo, (-1 : Int), Builtin.Slice.slicePlaces lo hi (-1))) _ _ s
  rw [rev_adj]
  show wpAny _ _ (pure ((n : Int) - 1, (-1 : Int), Builtin.Slice.slicePlaces ((n : Int) - 1) (-1) (-1))) _ _ s
  rw [rev_places]
  exact wpAny_pure h
theorem get_rev {t sl : Addr} {items : Array Value} {vs : Value} {Q : Value → Shared → Prop} (ht : IsTup s.heap t items) (hs : s.heap.IsSliceOf sl .none .none vs) (ps : IsPart vs (some (-1)))
    (h : Q (.ref s.heap.objs.size) { s with heap := s.heap.push { cls := .type "tuple", data := .seq items.toList.reverse.toArray } }) (hsz : items.size ≤ sizeLine) : wpAny (model prog w) A (getItem (.ref t) (.ref sl)) Q E s := by
  have fit : sizeOk (.seq items.toList.reverse.toArray) := show items.toList.reverse.toArray.size ≤ sizeLine by simpa using hsz
  have ty : s.TypeIs (.ref sl) "slice" := hs.elim fun os q => ⟨os, q.1, q.2.1⟩
  unfold getItem
  try with_reducible refine wpAny_holding ?_
  first | refine wpAny_bind (wpAny_pure ?_) | skip
  refine wpAny_bind (wpAny_sequenceKey ht.typeIs (by decide) (wpAny_bind (wpAny_callSpecial?_slot (name := Str.ofString "__getitem__") ht.typeIs PyProof.Rows.slot_tuple_getitem (wpAny_call_entry PyProof.Rows.slot_tuple_getitem ht.typeIs entry_tuple_getitem ?_ (args_tuple_getitem _ _)))))
  show wpAny _ _ (Builtin.Tuple.tupleItemsOf (.ref t) >>= _) _ _ s
  refine wpAny_bind (tupleItemsOf_ ht (wpAny_bind (wpAny_typeOf ty ?_)))
  rw [if_pos (show (Value.type "slice" == Value.type "slice") = true by decide)]
  refine wpAny_bind (rev_applied hs ps ?_)
  have no : ¬ ((((items.size : Int) - 1) == 0 && (-1 : Int) == 1 && items.size == items.size) = true) := by
    rw [show ((-1 : Int) == 1) = false by decide, Bool.and_false, Bool.false_and]
    exact Bool.false_ne_true
  show wpAny _ _ (if ((((items.size : Int) - 1) == 0 && (-1 : Int) == 1 && items.size == items.size) = true) then _ else _) _ _ s
  rw [if_neg no, rev_pick]
  first
    | exact wpAny_bind (m := Builtin.Tuple.tupleExact _) (wpAny_newObj_type (wpAny_pure ⟨_, rfl, wpAny_pure h⟩) fit)
    | exact wpAny_bind (m := Builtin.Tuple.tupleExact _) (wpAny_newObj_type (wpAny_bind (wpAny_pure (wpAny_pure ⟨_, rfl, wpAny_pure h⟩))) fit)
end
def tRevT (K : PySem.W.Frag) (te : TE) : TE := fun σ H Q => te σ H fun x H1 => ∃ a xs, x = .ref a ∧ SqT K H1 a xs ∧ ∀ p, H1 p = none → Q (.ref p) (upd H1 p (.tup xs.reverse))
theorem pe_revT {X : Cx} {e : Expr} {te : TE} {k : Nat} {p1 p2 p3 pos : Pos} (he : PE X e te) : PE X (.Subscript e (.Slice none none (some (.UnaryOp .USub (.Constant (.int 1) k p1) p2)) p3) pos) (tRevT X.K te) := by
  refine ⟨fun pins s σ H Q I h => Subscript_ (thn (he.run pins s σ H _ I h) fun v s1 ⟨x, H1, I1, r1, a, xs, ex, hx, q⟩ => ?_)⟩
  subst ex
  cases r1
  have st : PO X (some (.UnaryOp .USub (.Constant (.int 1) k p1) p2)) (tPart (tUn (rU fun i => .int (-i)) (tC (.int 1)))) := po_some (pe_un un_neg pe_int)
  refine wpAny_Slice (thn (po_none.run pins s1 σ H1 (fun o H2 => o = none ∧ H2 = H1) I1 ⟨rfl, rfl⟩) fun vl s2 ⟨l, H2, I2, pl, z1, z2⟩ => ?_)
  subst z1 z2
  refine thn (po_none.run pins s2 σ H2 (fun o H3 => o = none ∧ H3 = H2) I2 ⟨rfl, rfl⟩) fun vu s3 ⟨u, H3, I3, pu, z3, z4⟩ => ?_
  subst z3 z4
  refine thn (st.run pins s3 σ H3 (fun o H4 => o = some (-1) ∧ H4 = H3) I3 ⟨1, rfl, -1, rfl, rfl, rfl⟩) fun vs s4 ⟨o, H4, I4, ps, z5, z6⟩ => ?_
  subst z5 z6
  have nl : vl = .none := by cases pl; rfl
  have nu : vu = .none := by cases pu; rfl
  subst nl nu
  have I5 : Inv X pins σ H4 { s4 with heap := s4.heap.push { cls := .type "slice", data := .fields #[.none, .none, vs] } } := I4.kept (t' := s4.toks) fun b ob q => Heap.get?_push_of_some _ q
  obtain ⟨its, r, ht, hz⟩ := I5.tuple hx
  have hlen := r.length
  show wpAny _ _ (subscriptTail e (.Slice none none (some (.UnaryOp .USub (.Constant (.int 1) k p1) p2)) p3) (.ref a) (.ref s4.heap.objs.size)) _ _ _
  refine tail_any (ops := [.ref a, .ref s4.heap.objs.size]) ht.typeIs (PyProof.Rows.slot_tuple_getitem.lookup) ?_ (by with_unfolding_all rfl)
  refine get_rev ht (Heap.IsSliceOf.new _ .none .none vs) ps ?_ (by rw [List.size_toArray]; omega)
  refine ⟨.ref _, _, I5.laid (t' := s4.toks) (o := .tup xs.reverse) (fun b ob q => Heap.get?_push_of_some _ q) (Nat.le_refl _) ?_, rfl, q _ (I5.hok.fresh (Nat.le_refl _))⟩
  exact ⟨by rw [List.length_reverse]; exact hz, its.reverse, r.reverse, IsTup.new _ _⟩
end Ow

namespace Ow
open PySem PySem.Spec PyProof.Rows L2
section
variable {X : Cx} {CX : CXT} {C f : Addr} {n : Nat} {fd : FuncData} {ps : List Str} {sp : Sp} {E : XK}
/-- the truth of an instance, by its own __bool__ -/
def rTruO (C : Addr) (sp : Sp) (E : XK) : V → Hp → (Bool → Hp → Prop) → Prop := fun x H Q => ∃ a dx fs, x = .ref a ∧ H a = some (.ins C dx fs) ∧ sp [.ref a] H (fun z H' => ∃ k, z = .bl k ∧ Q k H') E
theorem tru_own (om : OM X.K C "__bool__" f) (F : FnOk X.prog X.w X.K X.mg X.base CX n f fd ps sp) (hr : Room n X.A) (hb : Binds X.K fd ps []) (hx : Passes CX X E) : TruR X (rTruO C sp E) := by
  intro pins s σ H x v Q I r h
  obtain ⟨a, dx, fs, rfl, ha, q⟩ := h
  cases r
  obtain ⟨mA, J, _⟩ := ins_get I.hok ha
  obtain ⟨od, J, _⟩ := J.look
  obtain ⟨m, hF⟩ := I.fr
  refine PySem.W.truthy_K hF I.ok.mod.kin J om.at_ om.fn (wpAny_mono (run_in (us := [.ref a]) (ws := [.ref a]) F hr I.env0 hb hx I (.cons rfl .nil) q) (fun w s' ⟨z, H', I', rz, k, ez, qz⟩ => ?_) fun _ _ e => e)
  subst ez
  obtain rfl : w = .bool k := rz
  exact ⟨H', I', qz⟩
/-- len(x) by an own __len__ -/
def rLenO (C : Addr) (sp : Sp) (E : XK) : List V → Hp → VK → Prop := fun xs H Q => ∃ a dx fs, xs = [.ref a] ∧ H a = some (.ins C dx fs) ∧ sp [.ref a] H (fun z H' => ∃ k : Int, z = .int k ∧ 0 ≤ k ∧ k < 2 ^ 63 ∧ Q (.int k) H') E
theorem call_lenO (om : OM X.K C "__len__" f) (F : FnOk X.prog X.w X.K X.mg X.base CX n f fd ps sp) (hr : Room (n + 1) X.A) (hb : Binds X.K fd ps []) (hx : Passes CX X E) : CallR X (.builtin "len") (rLenO C sp E) := by
  intro pins s σ H xs us Q I r h
  obtain ⟨a, dx, fs, rfl, ha, q⟩ := h
  obtain ⟨u, rfl, ru⟩ := vals1 r
  cases ru
  obtain ⟨mA, J, _⟩ := ins_get I.hok ha
  obtain ⟨od, J, _⟩ := J.look
  obtain ⟨m, hF⟩ := I.fr
  refine PySem.W.len_K hF I.ok.mod.kin J om.at_ om.fn (wpAny_mono (run_in (us := [.ref a]) (ws := [.ref a]) F hr.in1 I.env0.in1 hb hx I (.cons rfl .nil) q) (fun w s' ⟨z, H', I', rz, k, ez, k0, k1, qz⟩ => ?_) fun _ _ e => e)
  subst ez
  obtain ⟨t, rfl⟩ := rz
  exact ⟨⟨k0, k1⟩, .int k, H', I'.tok _, ⟨_, rfl⟩, qz⟩
end
/-- enumerate of a tuple as a walk -/
theorem walk_enumT {K : PySem.W.Frag} {a : Addr} {xs : List V} : Walk (IteT K a) xs.length (fun H => SqT K H a xs) (YPair (fun i => some (.int (i : Nat))) (fun i => xs[i]?)) :=
  ⟨fun i _ hi q => ⟨xs, xs[i], q, by simp [hi]⟩, fun _ q => ⟨xs, q, Nat.le_refl _⟩, fun i _ _ _ _ q ⟨T, x, e1, e2, e3, e4⟩ => ⟨T, _, x, e1, e2, e3, rfl, e4 xs q⟩⟩
end Ow
namespace Ow
open PySem PySem.Spec PyProof.Rows L2
/-- o.f as one of several targets -/
def gFld (K : PySem.W.Frag) (to : TE) (f : Str) : TG := fun y σ H Q => to σ H fun x H1 => ∃ a C dx fs, x = .ref a ∧ H1 a = some (.ins C dx fs) ∧ Cls K C ∧ NoAttr K C f ∧ fs.length < 1000 ∧ Q σ (upd H1 a (.ins C dx (putF f y fs)))
theorem pg_fld {X : Cx} {o : Expr} {to : TE} {f : Str} {pos : Pos} (ho : PE X o to) : PG X (.Attribute o f pos) (gFld X.K to f) := by
  refine ⟨fun pins s σ H v u Q I ru h => ?_⟩
  rw [assign_Attribute]
  refine wpAny_bind (wpAny_holding (thn (ho.run pins s σ H _ I h) fun w s1 ⟨x, H1, I1, rx, a, C, dx, fs, ex, ea, c, nn, l, q⟩ => ?_))
  subst ex
  obtain rfl : w = Value.ref a := rx
  refine wpAny_bind (wpAny_standAt (wpAny_bind (wpAny_holding (setattr_ok I1 ea c nn l ru fun s3 I3 => ?_))))
  exact wpAny_release ⟨σ, _, I3, q⟩
end Ow
namespace Ow
open PySem L2
/-- the truth of the i-th slot's value, by a name -/
def tTru (K : PySem.W.Frag) (i : Nat) : TT := fun σ H Q => tVar i σ H fun x H1 => ∃ k, TruV K x H1 k ∧ Q k H1
end Ow
namespace Ow
open PySem PySem.Spec PyProof.Rows L2
/-- bool(a tuple) -/
theorem boolT_new (l : Addr) (its : Array Value) (hz : (its.size : Int) < 2 ^ 63) : Meets (Builtin.«bool.__new__» ⟨[.type "bool", .ref l], []⟩) (fun _ R s => IsTup s.heap l its ∧ R (.ok (.ret (.bool (!its.isEmpty)))) { s with toks := s.toks + 1 + 1 }) := .of_wp fun prog w A R s hs => by
  obtain ⟨ht, hs⟩ := hs
  obtain ⟨hp, g, d, tk, os⟩ := s
  have sb := PySem.F.conv_sub_bool
  repeat (any_goals (first | assumption | with_reducible refine truthy_tuple ht hz ?_ | wp_step))
  all_goals first | exact ⟨_, rfl, hs⟩ | exact hs
theorem call_boolT {X : Cx} : CallR X (.type "bool") (fun xs H Q => ∃ (a : Addr) (zs : List V), xs = [.ref a] ∧ SqT X.K H a zs ∧ Q (.bl (!zs.isEmpty)) H) := by
  intro pins s σ H xs us Q I r h
  obtain ⟨a, zs, rfl, hq, q⟩ := h
  obtain ⟨u, rfl, ru⟩ := vals1 r
  cases ru
  obtain ⟨its, rv, pt, hz⟩ := I.tuple hq
  have hl := rv.length
  have h63 := line63
  refine call_bool_1 (boolT_new a its.toArray (by simp only [List.size_toArray]; omega)) ⟨pt, rfl, .bl (!zs.isEmpty), H, I.tok _, ?_, q⟩
  rw [isEmpty_of rv]
  rfl
end Ow

namespace Gd
/-- t + p√5 above 0, by the norm -/
def Pos (t p : Int) : Prop := (5 * (p * p) < t * t ∧ 0 < t) ∨ (t * t < 5 * (p * p) ∧ 0 < p)
theorem sq_nonneg (x : Int) : 0 ≤ x * x := by
  rcases Int.le_total 0 x with h | h
  · exact Int.mul_nonneg h h
  · exact Int.mul_nonneg_of_nonpos_of_nonpos h h
theorem irr_aux : ∀ (n : Nat) (t p : Int), t.natAbs ≤ n → t * t = 5 * (p * p) → t = 0 ∧ p = 0 := by
  intro n
  induction n with
  | zero =>
    intro t p h e
    have ht : t = 0 := by omega
    subst ht
    refine ⟨rfl, ?_⟩
    have : p * p = 0 := by omega
    rcases Int.mul_eq_zero.mp this with h | h <;> exact h
  | succ n ih =>
    intro t p h e
    have h5 : t % 5 = 0 := by
      have hm : (t * t) % 5 = 0 := by omega
      rw [Int.mul_emod] at hm
      have h0 := Int.emod_nonneg t (show (5 : Int) ≠ 0 by decide)
      have h1 := Int.emod_lt_of_pos t (show (0 : Int) < 5 by decide)
      generalize t % 5 = r at *
      have : r = 0 ∨ r = 1 ∨ r = 2 ∨ r = 3 ∨ r = 4 := by omega
      rcases this with rfl | rfl | rfl | rfl | rfl <;> simp_all
    obtain ⟨k, hk⟩ : ∃ k, t = 5 * k := ⟨t / 5, by omega⟩
    subst hk
    have e2 : p * p = 5 * (k * k) := by
      have : 5 * k * (5 * k) = 25 * (k * k) := by grind
      omega
    by_cases hk0 : k = 0
    · subst hk0
      have : p * p = 0 := by omega
      rcases Int.mul_eq_zero.mp this with h | h <;> exact ⟨by omega, h⟩
    · have hp : p.natAbs ≤ n := by
        have hlt : p.natAbs < (5 * k).natAbs := by
          rcases Nat.lt_or_ge p.natAbs (5 * k).natAbs with h' | h'
          · exact h'
          · have h2 : (5 * k).natAbs * (5 * k).natAbs ≤ p.natAbs * p.natAbs := Nat.mul_le_mul h' h'
            rw [← Int.natAbs_mul, ← Int.natAbs_mul] at h2
            have e3 : 5 * k * (5 * k) = 25 * (k * k) := by grind
            rw [e3, e2] at h2
            have h3 : 0 < k * k := by
              rcases Int.lt_or_gt_of_ne hk0 with h | h
              · exact Int.mul_pos_of_neg_of_neg h h
              · exact Int.mul_pos h h
            omega
        omega
      obtain ⟨a, b⟩ := ih p k hp e2
      exact ⟨by omega, a⟩
theorem irr {t p : Int} (e : t * t = 5 * (p * p)) : t = 0 ∧ p = 0 := irr_aux _ t p (Nat.le_refl _) e
theorem sum_pos {u v : Int} (hu : 0 < u) (h : v * v < u * u) : 0 < u + v := by
  rcases Int.lt_or_le 0 (u + v) with h' | h'
  · exact h'
  · exfalso
    have h1 : u ≤ -v := by omega
    have : u * u ≤ -v * -v := Int.mul_le_mul h1 h1 (by omega) (by omega)
    have e : -v * -v = v * v := by grind
    omega
theorem mul_lt4 {a b c d : Int} (hb : 0 ≤ b) (h1 : b < a) (hd : 0 ≤ d) (h2 : d < c) : b * d < a * c := by
  have h3 : b * d ≤ b * c := Int.mul_le_mul_of_nonneg_left (by omega) hb
  have h4 : b * c < a * c := Int.mul_lt_mul_of_pos_right h1 (by omega)
  omega
theorem pos_mul {t p u q T P : Int} (hT : 2 * T = t * u + 5 * (p * q)) (hP : 2 * P = t * q + u * p) (h1 : Pos t p) (h2 : Pos u q) : Pos T P := by
  have hN : 4 * (T * T) - 20 * (P * P) = (t * t - 5 * (p * p)) * (u * u - 5 * (q * q)) := by
    have e1 : 4 * (T * T) = (2 * T) * (2 * T) := by grind
    have e2 : 20 * (P * P) = 5 * ((2 * P) * (2 * P)) := by grind
    rw [e1, e2, hT, hP]
    grind
  have p0 := sq_nonneg p
  have q0 := sq_nonneg q
  have t0 := sq_nonneg t
  have u0 := sq_nonneg u
  rcases h1 with ⟨a1, b1⟩ | ⟨a1, b1⟩ <;> rcases h2 with ⟨a2, b2⟩ | ⟨a2, b2⟩
  · refine .inl ⟨?_, ?_⟩
    · have : 0 < (t * t - 5 * (p * p)) * (u * u - 5 * (q * q)) := Int.mul_pos (by omega) (by omega)
      omega
    · have k := mul_lt4 (a := t * t) (b := 5 * (p * p)) (c := u * u) (d := 5 * (q * q)) (by omega) a1 (by omega) a2
      have := sum_pos (u := t * u) (v := 5 * (p * q)) (Int.mul_pos b1 b2) (by grind)
      omega
  · refine .inr ⟨?_, ?_⟩
    · have : (t * t - 5 * (p * p)) * (u * u - 5 * (q * q)) < 0 := Int.mul_neg_of_pos_of_neg (by omega) (by omega)
      omega
    · have k := mul_lt4 (a := t * t) (b := 5 * (p * p)) (c := 5 * (q * q)) (d := u * u) (by omega) a1 (by omega) a2
      have := sum_pos (u := t * q) (v := u * p) (Int.mul_pos b1 b2) (by grind)
      omega
  · refine .inr ⟨?_, ?_⟩
    · have : (t * t - 5 * (p * p)) * (u * u - 5 * (q * q)) < 0 := Int.mul_neg_of_neg_of_pos (by omega) (by omega)
      omega
    · have k := mul_lt4 (a := 5 * (p * p)) (b := t * t) (c := u * u) (d := 5 * (q * q)) (by omega) a1 (by omega) a2
      have := sum_pos (u := u * p) (v := t * q) (Int.mul_pos b2 b1) (by grind)
      omega
  · refine .inl ⟨?_, ?_⟩
    · have : 0 < (t * t - 5 * (p * p)) * (u * u - 5 * (q * q)) := Int.mul_pos_of_neg_of_neg (by omega) (by omega)
      omega
    · have k := mul_lt4 (a := 5 * (p * p)) (b := t * t) (c := 5 * (q * q)) (d := u * u) (by omega) a1 (by omega) a2
      have hpq : 0 < 5 * (p * q) := by
        have := Int.mul_pos b1 b2
        omega
      have := sum_pos (u := 5 * (p * q)) (v := t * u) hpq (by grind)
      omega
theorem pos_not_neg {t p : Int} (h : Pos t p) : ¬ Pos (-t) (-p) := by
  have e1 : -t * -t = t * t := by grind
  have e2 : -p * -p = p * p := by grind
  unfold Pos at *
  rw [e1, e2]
  omega
theorem pos_tri (t p : Int) : Pos t p ∨ Pos (-t) (-p) ∨ (t = 0 ∧ p = 0) := by
  have e1 : -t * -t = t * t := by grind
  have e2 : -p * -p = p * p := by grind
  unfold Pos
  rw [e1, e2]
  have p0 := sq_nonneg p
  have t0 := sq_nonneg t
  rcases Int.lt_trichotomy (t * t) (5 * (p * p)) with h | h | h
  · have : p ≠ 0 := by rintro rfl; omega
    omega
  · exact .inr (.inr (irr h))
  · have : t ≠ 0 := by rintro rfl; omega
    omega
theorem pos_zero : ¬ Pos 0 0 := by unfold Pos; omega
/-- the sign -/
noncomputable def sg (t p : Int) : Int := open Classical in if Pos t p then 1 else if Pos (-t) (-p) then -1 else 0
theorem sg_pos {t p : Int} (h : Pos t p) : sg t p = 1 := by unfold sg; rw [if_pos h]
theorem sg_neg {t p : Int} (h : Pos (-t) (-p)) : sg t p = -1 := by
  unfold sg
  rw [if_neg (fun h' => pos_not_neg h' h), if_pos h]
theorem sg_zero : sg 0 0 = 0 := by
  unfold sg
  rw [if_neg pos_zero, if_neg (by simpa using pos_zero)]
theorem sg_eq_zero {t p : Int} (h : sg t p = 0) : t = 0 ∧ p = 0 := by
  rcases pos_tri t p with h' | h' | h'
  · rw [sg_pos h'] at h; omega
  · rw [sg_neg h'] at h; omega
  · exact h'
theorem sg_cases (t p : Int) : (sg t p = 1 ∧ Pos t p) ∨ (sg t p = -1 ∧ Pos (-t) (-p)) ∨ (sg t p = 0 ∧ t = 0 ∧ p = 0) := by
  rcases pos_tri t p with h | h | ⟨rfl, rfl⟩
  · exact .inl ⟨sg_pos h, h⟩
  · exact .inr (.inl ⟨sg_neg h, h⟩)
  · exact .inr (.inr ⟨sg_zero, rfl, rfl⟩)
theorem sg_opp (t p : Int) : sg (-t) (-p) = - sg t p := by
  rcases sg_cases t p with ⟨e, h⟩ | ⟨e, h⟩ | ⟨e, rfl, rfl⟩
  · rw [e, sg_neg (by simpa using h)]
  · rw [e, sg_pos h]; rfl
  · simp [sg_zero]
theorem sg_mul {t p u q T P : Int} (hT : 2 * T = t * u + 5 * (p * q)) (hP : 2 * P = t * q + u * p) : sg T P = sg t p * sg u q := by
  rcases sg_cases t p with ⟨e, h⟩ | ⟨e, h⟩ | ⟨e, rfl, rfl⟩ <;> rcases sg_cases u q with ⟨e', h'⟩ | ⟨e', h'⟩ | ⟨e', rfl, rfl⟩
  all_goals (try rw [e]); (try rw [e'])
  · exact sg_pos (pos_mul hT hP h h')
  · exact sg_neg (pos_mul (T := -T) (P := -P) (by grind) (by grind) h h')
  · obtain rfl : T = 0 := by grind
    obtain rfl : P = 0 := by grind
    exact sg_zero
  · exact sg_neg (pos_mul (T := -T) (P := -P) (by grind) (by grind) h h')
  · exact sg_pos (pos_mul (T := T) (P := P) (by grind) (by grind) h h')
  · obtain rfl : T = 0 := by grind
    obtain rfl : P = 0 := by grind
    exact sg_zero
  · obtain rfl : T = 0 := by grind
    obtain rfl : P = 0 := by grind
    exact sg_zero
  · obtain rfl : T = 0 := by grind
    obtain rfl : P = 0 := by grind
    exact sg_zero
  · obtain rfl : T = 0 := by grind
    obtain rfl : P = 0 := by grind
    exact sg_zero
/-- the sign of whole + part s -/
noncomputable def gs (a b : Int) : Int := sg (2 * a + b) b
theorem gs_opp (a b : Int) : gs (-a) (-b) = - gs a b := by
  unfold gs
  rw [← sg_opp]
  congr 1
  omega
theorem gs_mul (a b c d : Int) : gs (a * c + b * d) (a * d + b * c + b * d) = gs a b * gs c d := by
  unfold gs
  exact sg_mul (by grind) (by grind)
theorem gs_zero {a b : Int} (h : gs a b = 0) : a = 0 ∧ b = 0 := by
  have := sg_eq_zero h
  omega
theorem gs_00 : gs 0 0 = 0 := sg_zero
theorem gs_val (a b : Int) : gs a b = 1 ∨ gs a b = -1 ∨ gs a b = 0 := by
  rcases sg_cases (2 * a + b) b with ⟨e, _⟩ | ⟨e, _⟩ | ⟨e, _⟩
  · exact .inl e
  · exact .inr (.inl e)
  · exact .inr (.inr e)
theorem gs_sq (a b : Int) : gs (a * a + b * b) (a * b + b * a + b * b) = if a = 0 ∧ b = 0 then 0 else 1 := by
  rw [gs_mul]
  split
  · rename_i h
    rw [h.1, h.2, gs_00]; rfl
  · rename_i h
    rcases gs_val a b with e | e | e
    · rw [e]; rfl
    · rw [e]; rfl
    · exact absurd (gs_zero e) h
/-- the four ways of the program's sense_of -/
theorem gs_0 {a b : Int} (h1 : 2 * a + b = 0) (h2 : b = 0) : gs a b = 0 := by
  obtain rfl : b = 0 := h2
  obtain rfl : a = 0 := by omega
  exact gs_00
theorem gs_ge {a b : Int} (h : ¬ (2 * a + b = 0 ∧ b = 0)) (h1 : 0 ≤ 2 * a + b) (h2 : 0 ≤ b) : gs a b = 1 := by
  rcases sg_cases (2 * a + b) b with ⟨e, _⟩ | ⟨e, x⟩ | ⟨e, x⟩
  · exact e
  · unfold Pos at x; omega
  · exact absurd x h
theorem gs_le {a b : Int} (h : ¬ (2 * a + b = 0 ∧ b = 0)) (h1 : 2 * a + b ≤ 0) (h2 : b ≤ 0) : gs a b = -1 := by
  rcases sg_cases (2 * a + b) b with ⟨e, x⟩ | ⟨e, x⟩ | ⟨e, x⟩
  · unfold Pos at x; omega
  · exact e
  · exact absurd x h
theorem gs_mix {a b : Int} (h : ¬ (2 * a + b = 0 ∧ b = 0)) (h1 : ¬ (0 ≤ 2 * a + b ∧ 0 ≤ b)) (h2 : ¬ (2 * a + b ≤ 0 ∧ b ≤ 0)) :
    gs a b = if (decide ((2 * a + b) * (2 * a + b) > 5 * b * b) == decide (2 * a + b > 0)) = true then 1 else -1 := by
  have e5 : 5 * b * b = 5 * (b * b) := Int.mul_assoc _ _ _
  rw [e5]
  have hn : (2 * a + b) * (2 * a + b) ≠ 5 * (b * b) := fun q => h (irr q)
  have ee : -(2 * a + b) * -(2 * a + b) = (2 * a + b) * (2 * a + b) := by grind
  have eb : -b * -b = b * b := by grind
  rcases sg_cases (2 * a + b) b with ⟨e, x⟩ | ⟨e, x⟩ | ⟨e, x⟩
  · unfold gs
    rw [e]
    unfold Pos at x
    rw [if_pos]
    by_cases hg : 2 * a + b > 0 <;> by_cases hh : (2 * a + b) * (2 * a + b) > 5 * (b * b) <;> simp [hg, hh] <;> omega
  · unfold gs
    rw [e]
    unfold Pos at x
    rw [ee, eb] at x
    rw [if_neg]
    by_cases hg : 2 * a + b > 0 <;> by_cases hh : (2 * a + b) * (2 * a + b) > 5 * (b * b) <;> simp [hg, hh] <;> omega
  · exact absurd x h
/-- the law's own, by a root r of 5 b b -/
theorem sq_le {x y : Int} (h0 : 0 ≤ x) (h : x ≤ y) : x * x ≤ y * y := Int.mul_le_mul h h h0 (by omega)
theorem gs_root_pos {a b r : Int} (hb : 0 < b) (h0 : 0 ≤ r) (h1 : r * r ≤ 5 * b * b) (h2 : 5 * b * b < (r + 1) * (r + 1)) : gs a b = if 2 * a + b ≥ 0 - r then 1 else -1 := by
  rw [Int.mul_assoc] at h1 h2
  have hn : (2 * a + b) * (2 * a + b) ≠ 5 * (b * b) := fun q => by have := (irr q).2; omega
  have ee : -(2 * a + b) * -(2 * a + b) = (2 * a + b) * (2 * a + b) := by grind
  split
  · rename_i h
    unfold gs
    refine sg_pos ?_
    unfold Pos
    by_cases hp : 0 < 2 * a + b
    · rcases Int.lt_or_gt_of_ne hn with h' | h'
      · exact .inr ⟨h', hb⟩
      · exact .inl ⟨h', hp⟩
    · have := sq_le (x := -(2 * a + b)) (y := r) (by omega) (by omega)
      rw [ee] at this
      exact .inr ⟨by omega, hb⟩
  · rename_i h
    unfold gs
    refine sg_neg (.inl ⟨?_, by omega⟩)
    have := sq_le (x := r + 1) (y := -(2 * a + b)) (by omega) (by omega)
    have eb : -b * -b = b * b := by grind
    rw [eb]
    omega
theorem gs_root_neg {a b r : Int} (hb : b < 0) (h0 : 0 ≤ r) (h1 : r * r ≤ 5 * b * b) (h2 : 5 * b * b < (r + 1) * (r + 1)) : gs a b = if 2 * a + b > r then 1 else -1 := by
  rw [Int.mul_assoc] at h1 h2
  have hn : (2 * a + b) * (2 * a + b) ≠ 5 * (b * b) := fun q => by have := (irr q).2; omega
  have ee : -(2 * a + b) * -(2 * a + b) = (2 * a + b) * (2 * a + b) := by grind
  have eb : -b * -b = b * b := by grind
  split
  · rename_i h
    unfold gs
    have := sq_le (x := r + 1) (y := (2 * a + b)) (by omega) (by omega)
    exact sg_pos (.inl ⟨by omega, by omega⟩)
  · rename_i h
    unfold gs
    refine sg_neg ?_
    unfold Pos
    rw [ee, eb]
    by_cases hp : 0 < 2 * a + b
    · have := sq_le (x := (2 * a + b)) (y := r) (by omega) (by omega)
      exact .inr ⟨by omega, by omega⟩
    · rcases Int.lt_or_gt_of_ne hn with h' | h'
      · exact .inr ⟨h', by omega⟩
      · refine .inl ⟨h', ?_⟩
        have : 2 * a + b ≠ 0 := fun q => by rw [q] at h'; have := sq_nonneg b; omega
        omega
theorem gs_part0 (a : Int) : gs a 0 = (if 0 < a then 1 else 0) - (if a < 0 then 1 else 0) := by
  rcases Int.lt_trichotomy 0 a with h | h | h
  · rw [gs_ge (by omega) (by omega) (by omega), if_pos h, if_neg (by omega)]; rfl
  · subst h; rw [gs_00]; rfl
  · rw [gs_le (by omega) (by omega) (by omega), if_neg (by omega), if_pos h]; rfl
theorem norm_mul (a b c d : Int) : (a * c + b * d) * (a * c + b * d) + (a * c + b * d) * (a * d + b * c + b * d) - (a * d + b * c + b * d) * (a * d + b * c + b * d)
    = (a * a + a * b - b * b) * (c * c + c * d - d * d) := by grind
/-- the same by tests, for the walk -/
def gsI (a b : Int) : Int := if 2 * a + b = 0 ∧ b = 0 then 0 else if 0 ≤ 2 * a + b ∧ 0 ≤ b then 1 else if 2 * a + b ≤ 0 ∧ b ≤ 0 then -1
  else if (decide ((2 * a + b) * (2 * a + b) > 5 * b * b) == decide (2 * a + b > 0)) = true then 1 else -1
theorem gsI_eq (a b : Int) : gsI a b = gs a b := by
  unfold gsI
  split
  · rename_i h; exact (gs_0 h.1 h.2).symm
  · rename_i h
    split
    · rename_i h1; exact (gs_ge h h1.1 h1.2).symm
    · rename_i h1
      split
      · rename_i h2; exact (gs_le h h2.1 h2.2).symm
      · rename_i h2; exact (gs_mix h h1 h2).symm
end Gd
namespace Gd
theorem gsI_self (a b : Int) : gsI (a - a) (b - b) = 0 := by
  rw [Int.sub_self, Int.sub_self]; rfl
theorem cnt3 (a b c d : Int) : ([decide (0 < gsI (c - a) (d - b)), decide (0 < gsI (a - c) (b - d)), decide (a = c) && decide (b = d)].count true) = 1 := by
  have e : gsI (a - c) (b - d) = - gsI (c - a) (d - b) := by
    rw [gsI_eq, gsI_eq, ← gs_opp]
    congr 1 <;> omega
  rw [e, gsI_eq]
  rcases gs_val (c - a) (d - b) with h | h | h
  · have : ¬ (a = c ∧ b = d) := by
      rintro ⟨rfl, rfl⟩
      rw [Int.sub_self, Int.sub_self, gs_00] at h
      omega
    rw [h, ← Bool.decide_and, decide_eq_false this]
    decide
  · have : ¬ (a = c ∧ b = d) := by
      rintro ⟨rfl, rfl⟩
      rw [Int.sub_self, Int.sub_self, gs_00] at h
      omega
    rw [h, ← Bool.decide_and, decide_eq_false this]
    decide
  · have z := gs_zero h
    have : (a = c ∧ b = d) := by omega
    rw [h, ← Bool.decide_and, decide_eq_true this]
    decide
theorem less_sq (a b c d e f : Int) : decide (0 < gsI (c * (e * e + f * f) + d * (e * f + f * e + f * f) - (a * (e * e + f * f) + b * (e * f + f * e + f * f)))
    (c * (e * f + f * e + f * f) + d * (e * e + f * f) + d * (e * f + f * e + f * f) - (a * (e * f + f * e + f * f) + b * (e * e + f * f) + b * (e * f + f * e + f * f))))
    = (decide (0 < gsI (c - a) (d - b)) && (decide (e ≠ 0) || decide (f ≠ 0))) := by
  rw [gsI_eq, gsI_eq]
  have h := gs_mul (c - a) (d - b) (e * e + f * f) (e * f + f * e + f * f)
  rw [gs_sq] at h
  rw [show c * (e * e + f * f) + d * (e * f + f * e + f * f) - (a * (e * e + f * f) + b * (e * f + f * e + f * f)) = (c - a) * (e * e + f * f) + (d - b) * (e * f + f * e + f * f) by grind,
    show c * (e * f + f * e + f * f) + d * (e * e + f * f) + d * (e * f + f * e + f * f) - (a * (e * f + f * e + f * f) + b * (e * e + f * f) + b * (e * f + f * e + f * f)) = (c - a) * (e * f + f * e + f * f) + (d - b) * (e * e + f * f) + (d - b) * (e * f + f * e + f * f) by grind, h]
  by_cases z : e = 0 ∧ f = 0
  · rw [if_pos z, z.1, z.2]
    simp
  · rw [if_neg z, Int.mul_one]
    have : (decide (e ≠ 0) || decide (f ≠ 0)) = true := by
      by_cases z1 : e = 0 <;> by_cases z2 : f = 0 <;> simp_all
    rw [this, Bool.and_true]
theorem sense_mul (a b c d : Int) : gsI (a * c + b * d) (a * d + b * c + b * d) = gsI a b * gsI c d := by
  rw [gsI_eq, gsI_eq, gsI_eq, gs_mul]
end Gd

namespace Sk
open PySem L2 Ow
def top (i : Nat) : Stmt := PySem.Challenge.pw_underwords_k67_whole_bumped_tables.main.body.getD i (.Pass ⟨0, 0, 0, 0⟩)
abbrev s_is_within : Stmt := top 2
theorem sc_is_within : FnScope ["value", "least", "most"] ["value", "least", "most"] (defScope s_is_within) := ⟨rfl, rfl, rfl, by decide +kernel, rfl, by decide +kernel, by decide +kernel⟩
abbrev s_init : Stmt := inClass (top 13) 0
theorem sc_init : FnScope ["self", "letters", "bonds"] ["self", "letters", "bonds"] (defScope s_init) := ⟨rfl, rfl, rfl, by decide +kernel, rfl, by decide +kernel, by decide +kernel⟩
abbrev s_rows : Stmt := inClass (top 13) 1
theorem sc_rows : FnScope ["cls", "places"] ["cls", "places"] (defScope s_rows) := ⟨rfl, rfl, rfl, by decide +kernel, rfl, by decide +kernel, by decide +kernel⟩
abbrev s_signed : Stmt := inClass (top 13) 2
theorem sc_signed : FnScope ["cls", "places"] ["cls", "places"] (defScope s_signed) := ⟨rfl, rfl, rfl, by decide +kernel, rfl, by decide +kernel, by decide +kernel⟩
abbrev s_letters : Stmt := inClass (top 13) 6
theorem sc_letters : FnScope ["self"] ["self"] (defScope s_letters) := ⟨rfl, rfl, rfl, by decide +kernel, rfl, by decide +kernel, by decide +kernel⟩
abbrev s_bonds : Stmt := inClass (top 13) 7
theorem sc_bonds : FnScope ["self"] ["self"] (defScope s_bonds) := ⟨rfl, rfl, rfl, by decide +kernel, rfl, by decide +kernel, by decide +kernel⟩
abbrev s_bond_of : Stmt := inClass (top 13) 8
theorem sc_bond_of : FnScope ["self", "one", "other", "told", "low", "high", "bond"] ["self", "one", "other"] (defScope s_bond_of) := ⟨rfl, rfl, rfl, by decide +kernel, rfl, by decide +kernel, by decide +kernel⟩
abbrev s_neighbours : Stmt := top 14
theorem sc_neighbours : FnScope ["first", "letters", "letter"] ["first", "letters"] (defScope s_neighbours) := ⟨rfl, rfl, rfl, by decide +kernel, rfl, by decide +kernel, by decide +kernel⟩
abbrev s_are_bonds : Stmt := top 15
theorem sc_are_bonds : FnScope ["letters", "value", "triple", "pairs", "low", "high", "_", "one", "other"] ["letters", "value"] (defScope s_are_bonds) := ⟨rfl, rfl, rfl, by decide +kernel, rfl, by decide +kernel, by decide +kernel⟩
abbrev s_is_triple : Stmt := top 16
theorem sc_is_triple : FnScope ["letters", "value", "low", "high", "bond"] ["letters", "value"] (defScope s_is_triple) := ⟨rfl, rfl, rfl, by decide +kernel, rfl, by decide +kernel, by decide +kernel⟩
abbrev s_is_letter : Stmt := top 19
theorem sc_is_letter : FnScope ["system", "value"] ["system", "value"] (defScope s_is_letter) := ⟨rfl, rfl, rfl, by decide +kernel, rfl, by decide +kernel, by decide +kernel⟩
abbrev s_is_word : Stmt := top 20
theorem sc_is_word : FnScope ["system", "value", "letter"] ["system", "value"] (defScope s_is_word) := ⟨rfl, rfl, rfl, by decide +kernel, rfl, by decide +kernel, by decide +kernel⟩
abbrev s_check_system : Stmt := top 21
theorem sc_check_system : FnScope ["system"] ["system"] (defScope s_check_system) := ⟨rfl, rfl, rfl, by decide +kernel, rfl, by decide +kernel, by decide +kernel⟩
abbrev s_check_word : Stmt := top 22
theorem sc_check_word : FnScope ["system", "word"] ["system", "word"] (defScope s_check_word) := ⟨rfl, rfl, rfl, by decide +kernel, rfl, by decide +kernel, by decide +kernel⟩
abbrev s_check_words : Stmt := top 23
theorem sc_check_words : FnScope ["system", "words", "word"] ["system", "words"] (defScope s_check_words) := ⟨rfl, rfl, rfl, by decide +kernel, rfl, by decide +kernel, by decide +kernel⟩
abbrev s_sense_of : Stmt := top 25
theorem sc_sense_of : FnScope ["whole", "part", "twice", "is_twice_heavier"] ["whole", "part"] (defScope s_sense_of) := ⟨rfl, rfl, rfl, by decide +kernel, rfl, by decide +kernel, by decide +kernel⟩
abbrev s_factor : Stmt := top 28
theorem sc_factor : FnScope ["system", "one", "other", "low_high", "high_low"] ["system", "one", "other"] (defScope s_factor) := ⟨rfl, rfl, rfl, by decide +kernel, rfl, by decide +kernel, by decide +kernel⟩
abbrev s_other_letters : Stmt := top 29
theorem sc_other_letters : FnScope ["system", "letter", "other"] ["system", "letter"] (defScope s_other_letters) := ⟨rfl, rfl, rfl, by decide +kernel, rfl, by decide +kernel, by decide +kernel⟩
abbrev s_triples_from : Stmt := top 30
theorem sc_triples_from : FnScope ["system", "letter", "other"] ["system", "letter"] (defScope s_triples_from) := ⟨rfl, rfl, rfl, by decide +kernel, rfl, by decide +kernel, by decide +kernel⟩
abbrev s_without_zeros : Stmt := top 31
theorem sc_without_zeros : FnScope ["pairs", "other", "whole", "part"] ["pairs"] (defScope s_without_zeros) := ⟨rfl, rfl, rfl, by decide +kernel, rfl, by decide +kernel, by decide +kernel⟩
abbrev s_is_below : Stmt := top 32
theorem sc_is_below : FnScope ["number", "whole", "part"] ["number"] (defScope s_is_below) := ⟨rfl, rfl, rfl, by decide +kernel, rfl, by decide +kernel, by decide +kernel⟩
abbrev s_links_of : Stmt := top 34
theorem sc_links_of : FnScope ["system", "letter"] ["system"] (defScope s_links_of) := ⟨rfl, rfl, rfl, by decide +kernel, rfl, by decide +kernel, by decide +kernel⟩
abbrev s_first_state : Stmt := top 35
theorem sc_first_state : FnScope ["links", "_"] ["links"] (defScope s_first_state) := ⟨rfl, rfl, rfl, by decide +kernel, rfl, by decide +kernel, by decide +kernel⟩
abbrev s_put_ahead : Stmt := top 36
theorem sc_put_ahead : FnScope ["links", "state", "letter", "whole", "part", "numbers", "other", "more", "golden", "a", "b"] ["links", "state", "letter"] (defScope s_put_ahead) := ⟨rfl, rfl, rfl, by decide +kernel, rfl, by decide +kernel, by decide +kernel⟩
abbrev s_word_ahead : Stmt := top 37
theorem sc_word_ahead : FnScope ["links", "state", "word", "letter"] ["links", "state", "word"] (defScope s_word_ahead) := ⟨rfl, rfl, rfl, by decide +kernel, rfl, by decide +kernel, by decide +kernel⟩
abbrev s_state_of : Stmt := top 38
theorem sc_state_of : FnScope ["links", "word"] ["links", "word"] (defScope s_state_of) := ⟨rfl, rfl, rfl, by decide +kernel, rfl, by decide +kernel, by decide +kernel⟩
abbrev s_left_of : Stmt := top 39
theorem sc_left_of : FnScope ["state", "letter", "number"] ["state"] (defScope s_left_of) := ⟨rfl, rfl, rfl, by decide +kernel, rfl, by decide +kernel, by decide +kernel⟩
abbrev s_normal_of : Stmt := top 40
theorem sc_normal_of : FnScope ["links", "state", "word", "lefts"] ["links", "state"] (defScope s_normal_of) := ⟨rfl, rfl, rfl, by decide +kernel, rfl, by decide +kernel, by decide +kernel⟩
abbrev s_normal_word : Stmt := top 41
theorem sc_normal_word : FnScope ["links", "word"] ["links", "word"] (defScope s_normal_word) := ⟨rfl, rfl, rfl, by decide +kernel, rfl, by decide +kernel, by decide +kernel⟩
abbrev s_word_of : Stmt := top 44
theorem sc_word_of : FnScope ["row", "now", "letters", "falls", "at"] ["row"] (defScope s_word_of) := ⟨rfl, rfl, rfl, by decide +kernel, rfl, by decide +kernel, by decide +kernel⟩
abbrev s_is_row : Stmt := top 45
theorem sc_is_row : FnScope ["value"] ["value"] (defScope s_is_row) := ⟨rfl, rfl, rfl, by decide +kernel, rfl, by decide +kernel, by decide +kernel⟩
abbrev s_are_entries : Stmt := top 46
theorem sc_are_entries : FnScope ["value", "least", "many", "entry"] ["value", "least"] (defScope s_are_entries) := ⟨rfl, rfl, rfl, by decide +kernel, rfl, by decide +kernel, by decide +kernel⟩
abbrev s_check_row : Stmt := top 47
theorem sc_check_row : FnScope ["row"] ["row"] (defScope s_check_row) := ⟨rfl, rfl, rfl, by decide +kernel, rfl, by decide +kernel, by decide +kernel⟩
abbrev s_falls_of : Stmt := top 48
theorem sc_falls_of : FnScope ["row", "at"] ["row"] (defScope s_falls_of) := ⟨rfl, rfl, rfl, by decide +kernel, rfl, by decide +kernel, by decide +kernel⟩
abbrev s_bumped : Stmt := top 50
theorem sc_bumped : FnScope ["row", "first", "second", "time", "entry", "at"] ["row"] (defScope s_bumped) := ⟨rfl, rfl, rfl, by decide +kernel, rfl, by decide +kernel, by decide +kernel⟩
abbrev s_row_of_tables : Stmt := top 51
theorem sc_row_of_tables : FnScope ["one", "other", "first", "entries", "taken", "time", "ends", "at"] ["one", "other"] (defScope s_row_of_tables) := ⟨rfl, rfl, rfl, by decide +kernel, rfl, by decide +kernel, by decide +kernel⟩
abbrev s_is_table : Stmt := top 52
theorem sc_is_table : FnScope ["value", "entries", "sizes", "high", "low", "told", "entry", "upper", "lower"] ["value"] (defScope s_is_table) := ⟨rfl, rfl, rfl, by decide +kernel, rfl, by decide +kernel, by decide +kernel⟩
abbrev s_put_in : Stmt := top 53
theorem sc_put_in : FnScope ["table", "entry", "at", "greater", "told"] ["table", "entry"] (defScope s_put_in) := ⟨rfl, rfl, rfl, by decide +kernel, rfl, by decide +kernel, by decide +kernel⟩
abbrev s_taken_out : Stmt := top 54
theorem sc_taken_out : FnScope ["table", "last", "entry", "at", "less", "told"] ["table", "last"] (defScope s_taken_out) := ⟨rfl, rfl, rfl, by decide +kernel, rfl, by decide +kernel, by decide +kernel⟩
abbrev s_shape_of : Stmt := top 55
theorem sc_shape_of : FnScope ["table", "entries"] ["table"] (defScope s_shape_of) := ⟨rfl, rfl, rfl, by decide +kernel, rfl, by decide +kernel, by decide +kernel⟩
abbrev s_size_of : Stmt := top 56
theorem sc_size_of : FnScope ["table"] ["table"] (defScope s_size_of) := ⟨rfl, rfl, rfl, by decide +kernel, rfl, by decide +kernel, by decide +kernel⟩
abbrev s_is_ascending : Stmt := top 57
theorem sc_is_ascending : FnScope ["entries", "one", "other"] ["entries"] (defScope s_is_ascending) := ⟨rfl, rfl, rfl, by decide +kernel, rfl, by decide +kernel, by decide +kernel⟩
abbrev s_as_tuples : Stmt := top 58
theorem sc_as_tuples : FnScope ["rows", "entries"] ["rows"] (defScope s_as_tuples) := ⟨rfl, rfl, rfl, by decide +kernel, rfl, by decide +kernel, by decide +kernel⟩
abbrev s_left_letters : Stmt := top 60
theorem sc_left_letters : FnScope ["system", "word"] ["system", "word"] (defScope s_left_letters) := ⟨rfl, rfl, rfl, by decide +kernel, rfl, by decide +kernel, by decide +kernel⟩
abbrev s_right_letters : Stmt := top 61
theorem sc_right_letters : FnScope ["system", "word"] ["system", "word"] (defScope s_right_letters) := ⟨rfl, rfl, rfl, by decide +kernel, rfl, by decide +kernel, by decide +kernel⟩
abbrev s_l_vat : Stmt := top 63
theorem sc_l_vat : FnScope ["_law_script", "_law_spot", "_law_cell", "_law_great", "_law_mixed"] ["_law_script", "_law_spot"] (defScope s_l_vat) := ⟨rfl, rfl, rfl, by decide +kernel, rfl, by decide +kernel, by decide +kernel⟩
abbrev s_l_sip : Stmt := top 64
theorem sc_l_sip : FnScope ["_law_vat_here", "_law_total", "_law_found", "_law_one", "_law_two"] ["_law_vat_here", "_law_total"] (defScope s_l_sip) := ⟨rfl, rfl, rfl, by decide +kernel, rfl, by decide +kernel, by decide +kernel⟩
abbrev s_l_some_row : Stmt := top 65
theorem sc_l_some_row : FnScope ["_law_vat_here", "_law_places", "_law_left", "_law_found"] ["_law_vat_here", "_law_places"] (defScope s_l_some_row) := ⟨rfl, rfl, rfl, by decide +kernel, rfl, by decide +kernel, by decide +kernel⟩
abbrev s_l_bumped : Stmt := top 66
theorem sc_l_bumped : FnScope ["_law_row", "_law_first", "_law_last", "_law_at", "_law_entry", "_law_here", "_law_spot", "_law_greater", "_law_other", "_law_place", "_law_line_here"] ["_law_row"] (defScope s_l_bumped) := ⟨rfl, rfl, rfl, by decide +kernel, rfl, by decide +kernel, by decide +kernel⟩
abbrev s_l_undone : Stmt := top 67
theorem sc_l_undone : FnScope ["_law_row", "_law_entry"] ["_law_row"] (defScope s_l_undone) := ⟨rfl, rfl, rfl, by decide +kernel, rfl, by decide +kernel, by decide +kernel⟩
abbrev s_l_line : Stmt := top 68
theorem sc_l_line : FnScope ["_law_table", "_law_entry", "_law_at", "_law_line_here"] ["_law_table", "_law_entry"] (defScope s_l_line) := ⟨rfl, rfl, rfl, by decide +kernel, rfl, by decide +kernel, by decide +kernel⟩
abbrev s_l_lower : Stmt := top 69
theorem sc_l_lower : FnScope ["_law_table", "_law_size", "_law_line_here", "_law_at"] ["_law_table"] (defScope s_l_lower) := ⟨rfl, rfl, rfl, by decide +kernel, rfl, by decide +kernel, by decide +kernel⟩
abbrev s_l_right : Stmt := top 70
theorem sc_l_right : FnScope ["_law_vat_here", "_law_places", "_law_system", "_law_row", "_law_first", "_law_last", "_law_line_here", "_law_word", "_law_at", "_law_other", "_law_one", "_law_two", "_law_letter"] ["_law_vat_here"] (defScope s_l_right) := ⟨rfl, rfl, rfl, by decide +kernel, rfl, by decide +kernel, by decide +kernel⟩
abbrev s_law : Stmt := top 71
theorem sc_law : FnScope ["_law_script", "_law_spot", "_law_vat_here", "_law_turn", "_law_told"] ["_law_script"] (defScope s_law) := ⟨rfl, rfl, rfl, by decide +kernel, rfl, by decide +kernel, by decide +kernel⟩
def MDef (K : PySem.W.Frag) (mg : Str → Option Value) (x : Str) (st : Stmt) : Prop := ∃ f fd, Fun K x x st f fd ∧ mg x = some (.ref f)
def GM (K : PySem.W.Frag) (C : Addr) (m qual : Str) (st : Stmt) : Prop := ∃ f fd, Fun K m qual st f fd ∧ OM K C m f
def GP (K : PySem.W.Frag) (C : Addr) (m qual : Str) (st : Stmt) : Prop := ∃ p g fd, PropOf K C m p g ∧ Fun K m qual st g fd
/-- a built-in class that has nothing to do with C -/
structure TyO (K : PySem.W.Frag) (C : Addr) (T : String) : Prop where
  sub : PySem.W.subIn K (.type T) (.ref C) = some false
  kit : PySem.W.kitOne K (.type T) (.ref C) = some false
def CG (K : PySem.W.Frag) (C : Addr) (m qual : Str) (st : Stmt) : Prop := ∃ p g fd, ClX.CMet K C (.type "type") m p g ∧ Fun K m qual st g fd
/-! data: rows of ints, rows of these -/
theorem upd_upd {H : Hp} {p : Addr} {a b : HO} : upd (upd H p a) p b = upd H p b := by
  funext q
  unfold upd
  by_cases h : q = p
  · rw [if_pos h, if_pos h]
  · rw [if_neg h, if_neg h, if_neg h]
theorem same_new {H : Hp} {p : Addr} {o : HO} (n : H p = none) : Same H (upd H p o) := fun q u e => by rw [upd_ne (ne_of_none e n)]; exact e
theorem sqT_same {K : PySem.W.Frag} {H H' : Hp} {a : Addr} {xs : List V} (s : Same H H') (h : SqT K H a xs) : SqT K H' a xs := SqT.ext h s
/-- a tuple of ints -/
def TI (K : PySem.W.Frag) (H : Hp) (v : V) (ns : List Int) : Prop := ∃ a, v = .ref a ∧ SqT K H a (ns.map V.int)
theorem TI.same {K : PySem.W.Frag} {H H' : Hp} {v : V} {ns : List Int} (h : TI K H v ns) (s : Same H H') : TI K H' v ns := h.elim fun a ⟨e, q⟩ => ⟨a, e, sqT_same s q⟩
def TIs (K : PySem.W.Frag) (H : Hp) : List V → List (List Int) → Prop
  | [], [] => True
  | x :: xs, n :: ns => TI K H x n ∧ TIs K H xs ns
  | _, _ => False
theorem TIs.same {K : PySem.W.Frag} {H H' : Hp} (s : Same H H') : ∀ {xs : List V} {ns : List (List Int)}, TIs K H xs ns → TIs K H' xs ns
  | [], [], _ => trivial
  | _ :: _, _ :: _, h => ⟨h.1.same s, TIs.same s h.2⟩
theorem TIs.len {K : PySem.W.Frag} {H : Hp} : ∀ {xs : List V} {ns : List (List Int)}, TIs K H xs ns → xs.length = ns.length
  | [], [], _ => rfl
  | _ :: _, _ :: _, h => congrArg Nat.succ (TIs.len h.2)
theorem TIs.get {K : PySem.W.Frag} {H : Hp} : ∀ {xs : List V} {ns : List (List Int)} {i : Nat} {x : V}, TIs K H xs ns → xs[i]? = some x → ∃ n, ns[i]? = some n ∧ TI K H x n
  | x :: xs, n :: ns, 0, y, h, e => ⟨n, rfl, (show x = y by simpa using e) ▸ h.1⟩
  | x :: xs, n :: ns, i + 1, y, h, e => (TIs.get (xs := xs) (ns := ns) (i := i) h.2 (by simpa using e)).elim fun m z => ⟨m, by simpa using z.1, z.2⟩
  | [], [], i, y, _, e => by simp at e
theorem TIs.snoc {K : PySem.W.Frag} {H : Hp} : ∀ {xs : List V} {ns : List (List Int)} {x : V} {n : List Int}, TIs K H xs ns → TI K H x n → TIs K H (xs ++ [x]) (ns ++ [n])
  | [], [], _, _, _, h => ⟨h, trivial⟩
  | _ :: _, _ :: _, _, _, h, k => ⟨h.1, TIs.snoc h.2 k⟩
/-- a tuple of tuples of ints -/
def BsAt (K : PySem.W.Frag) (H : Hp) (v : V) (bs : List (List Int)) : Prop := ∃ a xs, v = .ref a ∧ SqT K H a xs ∧ TIs K H xs bs
theorem BsAt.same {K : PySem.W.Frag} {H H' : Hp} {v : V} {bs : List (List Int)} (h : BsAt K H v bs) (s : Same H H') : BsAt K H' v bs := h.elim fun a ⟨xs, e, q, t⟩ => ⟨a, xs, e, sqT_same s q, t.same s⟩
/-- the two golds of a bond, each as its two whole numbers -/
def facT (b : Int) : List (List Int) := if b = 0 then [[2, 0], [2, 0]] else if b = 3 then [[1, 0], [1, 0]] else if b = 4 then [[1, 0], [2, 0]] else if b = 5 then [[0, 1], [0, 1]] else if b = 6 then [[1, 0], [3, 0]] else [[0, 0], [0, 0]]
structure Txt (K : PySem.W.Frag) (mg : Str → Option Value) (C : Addr) : Prop where
  cl : Cls K C
  ic : C8.InsC K C
  mgSystem : mg "System" = some (.ref C)
  nL : NoAttr K C "_letters"
  nB : NoAttr K C "_bonds"
  mkS : ∃ f fd e, Mk K C f ∧ FunD K "__init__" "System.__init__" (defArgs s_init) (defBody s_init) (defScope s_init) [.ref e] [] f fd ∧ ∀ H, SqT K H e []
  gB : ∃ a, mg "BONDS" = some (.ref a) ∧ ∀ H, SqT K H a [.int 0, .int 2, .int 3, .int 4, .int 5, .int 6]
  gF : ∃ d es n, mg "FACTORS" = some (.ref d) ∧ K.lookup d = some ⟨.type "dict", none, .dict es n, #[]⟩ ∧ IntKeys es ∧ ∀ b : Int, (b = 0 ∨ b = 2 ∨ b = 3 ∨ b = 4 ∨ b = 5 ∨ b = 6) → ∃ a, findBy Value.isInt es b = some (.ref a) ∧ ∀ H, BsAt K H (.ref a) (facT b)
  crd : ClX.CRead K C (.type "type")
  cRows : CG K C "rows" "System.rows" s_rows
  pL : GP K C "letters" "System.letters" s_letters
  mBond : GM K C "bond_of" "System.bond_of" s_bond_of
  cSigned : CG K C "signed" "System.signed" s_signed
  g_MAX_LETTERS : ∃ u, mg "MAX_LETTERS" = some u ∧ RelV (.int 4) u
  g_LONGEST_WORD : ∃ u, mg "LONGEST_WORD" = some u ∧ RelV (.int 40) u
  g_MOST_PLACES : ∃ u, mg "MOST_PLACES" = some u ∧ RelV (.int 5) u
  d_is_within : MDef K mg "is_within" s_is_within
  d_neighbours : MDef K mg "neighbours" s_neighbours
  d_are_bonds : MDef K mg "are_bonds" s_are_bonds
  d_is_triple : MDef K mg "is_triple" s_is_triple
  d_is_letter : MDef K mg "is_letter" s_is_letter
  d_is_word : MDef K mg "is_word" s_is_word
  d_check_system : MDef K mg "check_system" s_check_system
  d_check_word : MDef K mg "check_word" s_check_word
  d_check_words : MDef K mg "check_words" s_check_words
  d_sense_of : MDef K mg "sense_of" s_sense_of
  d_factor : MDef K mg "factor" s_factor
  d_other_letters : MDef K mg "other_letters" s_other_letters
  d_triples_from : MDef K mg "triples_from" s_triples_from
  d_without_zeros : MDef K mg "without_zeros" s_without_zeros
  d_is_below : MDef K mg "is_below" s_is_below
  d_links_of : MDef K mg "links_of" s_links_of
  d_first_state : MDef K mg "first_state" s_first_state
  d_put_ahead : MDef K mg "put_ahead" s_put_ahead
  d_word_ahead : MDef K mg "word_ahead" s_word_ahead
  d_state_of : MDef K mg "state_of" s_state_of
  d_left_of : MDef K mg "left_of" s_left_of
  d_normal_of : MDef K mg "normal_of" s_normal_of
  d_normal_word : MDef K mg "normal_word" s_normal_word
  d_word_of : MDef K mg "word_of" s_word_of
  d_is_row : MDef K mg "is_row" s_is_row
  d_are_entries : MDef K mg "are_entries" s_are_entries
  d_check_row : MDef K mg "check_row" s_check_row
  d_falls_of : MDef K mg "falls_of" s_falls_of
  d_bumped : MDef K mg "bumped" s_bumped
  d_row_of_tables : MDef K mg "row_of_tables" s_row_of_tables
  d_is_table : MDef K mg "is_table" s_is_table
  d_put_in : MDef K mg "put_in" s_put_in
  d_taken_out : MDef K mg "taken_out" s_taken_out
  d_shape_of : MDef K mg "shape_of" s_shape_of
  d_size_of : MDef K mg "size_of" s_size_of
  d_is_ascending : MDef K mg "is_ascending" s_is_ascending
  d_as_tuples : MDef K mg "as_tuples" s_as_tuples
  d_left_letters : MDef K mg "left_letters" s_left_letters
  d_right_letters : MDef K mg "right_letters" s_right_letters
  d_l_vat : MDef K mg "_law_vat" s_l_vat
  d_l_sip : MDef K mg "_law_sip" s_l_sip
  d_l_some_row : MDef K mg "_law_some_row" s_l_some_row
  d_l_bumped : MDef K mg "_law_bumped" s_l_bumped
  d_l_undone : MDef K mg "_law_undone" s_l_undone
  d_l_line : MDef K mg "_law_line" s_l_line
  d_l_lower : MDef K mg "_law_lower" s_l_lower
  d_l_right : MDef K mg "_law_right" s_l_right
  b_list : mg "list" = none
  b_sorted : mg "sorted" = none
  b_isinstance : mg "isinstance" = none
  b_int : mg "int" = none
  b_bool : mg "bool" = none
  b_tuple : mg "tuple" = none
  b_len : mg "len" = none
  b_abs : mg "abs" = none
  b_max : mg "max" = none
  b_min : mg "min" = none
  b_sum : mg "sum" = none
  b_all : mg "all" = none
  b_zip : mg "zip" = none
  b_range : mg "range" = none
  b_enumerate : mg "enumerate" = none
theorem MDef.cal {P : Program} {w : World} {K : PySem.W.Frag} {mg : Str → Option Value} {base : Heap} {x : Str} {st : Stmt} {k : Nat} {ps : List Str} {sp : Sp} (D : MDef K mg x st)
    (F : ∀ f fd, Fun K x x st f fd → FnOk P w K mg base CX0 k f fd ps sp)
    (h : ∀ (kV doc pm : Value) (an : Option Addr) (cdv ct : Value) (us : List Value), us.length = ps.length → bindArgs (PySem.W.fnOf x x (defArgs st) (defBody st) (defScope st) .none kV doc pm an cdv ct) ⟨us, []⟩ = pure (ps.zip us)) : Cal P w K mg base x k sp := by
  obtain ⟨f, fd, D, m⟩ := D
  exact ⟨⟨f, fd, ps, F f fd D, m, D.kp, D.binds h⟩⟩

def dT (ns : List Int) : PyData := .tuple (ns.map PyData.int)
def dB (bs : List (List Int)) : PyData := .tuple (bs.map dT)
theorem dInts {K : PySem.W.Frag} {H : Hp} : ∀ ns : List Int, DpAll K H (ns.map V.int) (ns.map PyData.int)
  | [] => .nil
  | n :: ns => .cons (.int n) (dInts ns)
theorem TI.dp {K : PySem.W.Frag} {H : Hp} {v : V} {ns : List Int} (h : TI K H v ns) : Dp K H v (dT ns) := by
  obtain ⟨a, rfl, q⟩ := h
  exact .tup q (dInts ns)
theorem TIs.dp {K : PySem.W.Frag} {H : Hp} : ∀ {xs : List V} {ns : List (List Int)}, TIs K H xs ns → DpAll K H xs (ns.map dT)
  | [], [], _ => .nil
  | _ :: _, _ :: _, h => .cons h.1.dp (TIs.dp h.2)
theorem BsAt.dp {K : PySem.W.Frag} {H : Hp} {v : V} {bs : List (List Int)} (h : BsAt K H v bs) : Dp K H v (dB bs) := by
  obtain ⟨a, xs, rfl, q, t⟩ := h
  exact .tup q t.dp
theorem lay_ints : ∀ ns : List Int, PyData.canLayAll0 (ns.map PyData.int) = true
  | [] => by simp [PyData.canLayAll0]
  | n :: ns => by simp [PyData.canLayAll0, PyData.canLay0, lay_ints ns]
theorem lay_dT (ns : List Int) : (dT ns).canLay0 = true := by simp [dT, PyData.canLay0, lay_ints]
theorem lay_dTs : ∀ bs : List (List Int), PyData.canLayAll0 (bs.map dT) = true
  | [] => by simp [PyData.canLayAll0]
  | n :: ns => by simp [PyData.canLayAll0, lay_dT, lay_dTs ns]
theorem lay_dB (bs : List (List Int)) : (dB bs).canLay0 = true := by simp [dB, PyData.canLay0, lay_dTs]
theorem dep_ints : ∀ ns : List Int, PyData.depthAll (ns.map PyData.int) ≤ 1
  | [] => by simp [PyData.depthAll]
  | n :: ns => by have := dep_ints ns; simp [PyData.depthAll, PyData.depth]; omega
theorem dep_dT (ns : List Int) : (dT ns).depth ≤ 2 := by have := dep_ints ns; simp [dT, PyData.depth]; omega
theorem dep_dTs : ∀ bs : List (List Int), PyData.depthAll (bs.map dT) ≤ 3
  | [] => by simp [PyData.depthAll]
  | n :: ns => by have := dep_dTs ns; have := dep_dT n; simp [PyData.depthAll]; omega
theorem dep_dB (bs : List (List Int)) : (dB bs).depth ≤ 4 := by have := dep_dTs bs; simp [dB, PyData.depth]; omega
theorem sh_dT (ns : List Int) : SeqAt.shaped (dT ns) = true := by
  unfold SeqAt.shaped
  rw [lay_dT, decide_eq_true (Nat.le_trans (dep_dT ns) (by decide))]
  rfl
theorem sh_dB (bs : List (List Int)) : SeqAt.shaped (dB bs) = true := by
  unfold SeqAt.shaped
  rw [lay_dB, decide_eq_true (Nat.le_trans (dep_dB bs) (by decide))]
  rfl
/-! systems, in numbers -/
def trOk (n : Int) (t : List Int) : Prop := ∃ l h b, t = [l, h, b] ∧ 0 ≤ l ∧ l < h ∧ h < n ∧ (b = 0 ∨ b = 3 ∨ b = 4 ∨ b = 5 ∨ b = 6)
structure Valid (n : Int) (bs : List (List Int)) : Prop where
  lo : 1 ≤ n
  hi : n ≤ 4
  tr : ∀ t ∈ bs, trOk n t
  as : (bs.map (·.take 2)).Pairwise (fun p q => HT.lexLt p q = true)
  few : bs.length ≤ 20
def sf (n : Int) (bv : V) : List (Str × V) := putF "_bonds" bv (putF "_letters" (.int n) [])
theorem lb_ : ¬ (("_letters" : Str) = "_bonds") := by decide +kernel
theorem sf_l (n : Int) (bv : V) : (sf n bv).lookup ("_letters" : Str) = some (.int n) := by
  unfold sf
  rw [lookup_putF, if_neg lb_, lookup_putF, if_pos rfl]
theorem sf_b (n : Int) (bv : V) : (sf n bv).lookup ("_bonds" : Str) = some bv := by
  unfold sf
  rw [lookup_putF, if_pos rfl]
theorem sf_no (n : Int) (bv : V) {m : Str} (h1 : ¬ m = "_bonds") (h2 : ¬ m = "_letters") : (sf n bv).lookup m = none := by
  unfold sf
  rw [lookup_putF, if_neg h1, lookup_putF, if_neg h2]
  rfl
def SysAt (K : PySem.W.Frag) (C : Addr) (H : Hp) (p : Addr) (n : Int) (bv : V) (bs : List (List Int)) : Prop := (∃ dx, H p = some (.ins C dx (sf n bv))) ∧ BsAt K H bv bs
theorem SysAt.same {K : PySem.W.Frag} {C : Addr} {H H' : Hp} {p : Addr} {n : Int} {bv : V} {bs : List (List Int)} (g : SysAt K C H p n bv bs) (s : Same H H') : SysAt K C H' p n bv bs := ⟨g.1.elim fun dx h => ⟨dx, s _ _ h⟩, g.2.same s⟩
/-! promises -/
def spWithin : Sp := fun vs H Q _ => ∃ i lo hi : Int, vs = [.int i, .int lo, .int hi] ∧ Q (.bl (decide (lo ≤ i) && decide (i ≤ hi))) H
def spTriple (K : PySem.W.Frag) : Sp := fun vs H Q _ => ∃ (n : Int) (v : V) (t : List Int), vs = [.int n, v] ∧ TI K H v t ∧ trOk n t ∧ Q (.bl true) H
def spBonds (K : PySem.W.Frag) : Sp := fun vs H Q _ => ∃ (n : Int) (v : V) (bs : List (List Int)), vs = [.int n, v] ∧ BsAt K H v bs ∧ Valid n bs ∧ ∀ H' : Hp, Same H H' → Q (.bl true) H'
def spInit (K : PySem.W.Frag) (C : Addr) : Sp := fun vs H Q _ => ∃ (p dx : Addr) (n : Int) (bv : V) (bs : List (List Int)), vs = [.ref p, .int n, bv] ∧ BsAt K H bv bs ∧ Valid n bs ∧ H p = some (.ins C dx []) ∧
  ∀ H' : Hp, Same H H' → Q .non (upd H' p (.ins C dx (sf n bv)))
section
variable {P : Program} {w : World} {K : PySem.W.Frag} {mg : Str → Option Value} {base : Heap} {C : Addr}
theorem cal_is_within (T : Txt K mg C) : Cal P w K mg base "is_within" 1 spWithin := by
  refine T.d_is_within.cal (ps := ["value", "least", "most"]) (fun f fd D => ?_) (fun _ _ _ _ _ _ us hl => match us, hl with | [_, _, _], _ => rfl)
  refine D.ok sc_is_within (fun vs H Q E h => ?_) (fun cdv A outer s H vs Q E hr h => ?_)
  · obtain ⟨i, lo, hi, rfl, _⟩ := h
    rfl
  · obtain ⟨i, lo, hi, rfl, q⟩ := h
    refine ⟨_, (pss_one (ps_ret (pe_and (pe_callB call_isi (by rfl) T.b_isinstance (by decide +kernel) (pa_cons (pv 0) (pa_cons (pe_bltn (v := .ty "int") (by rfl) T.b_int (by decide +kernel) rfl) pa_nil))) (pe_and (pe_not (pe_callB call_isi (by rfl) T.b_isinstance (by decide +kernel) (pa_cons (pv 0) (pa_cons (pe_bltn (v := .ty "bool") (by rfl) T.b_bool (by decide +kernel) rfl) pa_nil)))) (pe_one (pe_chain op_le op_le (pv 1) (pv 0) (pv 2))))))), ?_⟩
    refine ⟨_, rfl, _, _, _, _, true, rfl, .ty "int", .base (.int i), kit_ty (by decide +kernel), _, rfl, iteT ?_⟩
    refine ⟨_, rfl, _, _, _, _, false, rfl, .ty "bool", .base (.int i), kit_ty (by decide +kernel), _, rfl, _, rfl, iteT ?_⟩
    refine ⟨_, rfl, _, rfl, _, _, rfl, rfl, _, rfl, ?_⟩
    by_cases h1 : lo ≤ i
    · rw [decide_eq_true h1] at *
      refine iteT ?_
      exact ⟨_, rfl, _, _, rfl, rfl, q⟩
    · rw [decide_eq_false h1] at *
      exact iteF q
theorem pe_bonds {X : Cx} {x : Str} {pos : Pos} {a : Addr} (hg : Gl X x) (hx : X.mg x = some (.ref a)) (hd : (x == ("__debug__" : Str)) = false := by decide) : PE X (.Name x pos) (tC (.ref a)) := pe_glob (v := .ref a) hg hx rfl hd
/-- within, told -/
theorem win {H : Hp} {Q : VK} {i lo hi : Int} (h1 : lo ≤ i) (h2 : i ≤ hi) (q : Q (.bl true) H) : ∃ a b c : Int, ([V.int i, V.int lo, V.int hi] : List V) = [.int a, .int b, .int c] ∧ Q (.bl (decide (b ≤ a) && decide (a ≤ c))) H :=
  ⟨_, _, _, rfl, by rw [decide_eq_true h1, decide_eq_true h2]; exact q⟩
/-- the type of a tuple that is read -/
theorem tup_ty {H : Hp} {a : Addr} {xs : List V} (h : SqT K H a xs) : TyX K H (.ref a) (.type "tuple") := by
  rcases h with (h | ⟨o, h⟩) | ⟨o, its, n, hk, hc, _⟩
  · exact .base (.tup h)
  · exact .fTuple h
  · exact .kTuple hk hc
theorem iteNT' {A B : Prop} {c : Bool} (e : c = true) (h : B) : if (!c) = true then A else B := by rw [e]; exact iteF h
theorem iteNT {A B : Prop} {c : Bool} (e : c = true) (h : B) : if (!c) = true then A else B := by rw [e]; exact iteF h
theorem cal_is_triple (T : Txt K mg C) : Cal P w K mg base "is_triple" 2 (spTriple K) := by
  refine T.d_is_triple.cal (ps := ["letters", "value"]) (fun f fd D => ?_) (fun _ _ _ _ _ _ us hl => match us, hl with | [_, _], _ => rfl)
  refine D.ok sc_is_triple (fun vs H Q E h => ?_) (fun cdv A outer s H vs Q E hr h => ?_)
  · obtain ⟨n, v, t, rfl, _⟩ := h
    rfl
  · obtain ⟨n, v, t, rfl, ⟨a, rfl, ht⟩, ⟨l, h, b, rfl, h0, h1, h2, h3⟩, q⟩ := h
    obtain ⟨aB, gB, sB⟩ := T.gB
    refine ⟨_, (pss_cons (ps_if (PW.pt (pw_or (pt_not (pt_val (pe_callB call_isi (by rfl) T.b_isinstance (by decide +kernel) (pa_cons (pv 1) (pa_cons (pe_bltn (v := .ty "tuple") (by rfl) T.b_tuple (by decide +kernel) rfl) pa_nil))))) (pw_or1 (pt_cmpR op_ne (pe_callB call_len_seq (by rfl) T.b_len (by decide +kernel) (pa_cons (pv 1) pa_nil)) pe_int (nomark _))))) (pss_one (ps_ret pe_bl)) pss_nil)
      (pss_cons (ps_asg (pv 1) (pg_tup (by rfl) (pgs_cons (pg_name (i := 2) sc_is_triple.nd rfl (Or.inl rfl)) (pgs_cons (pg_name (i := 3) sc_is_triple.nd rfl (Or.inl rfl)) (pgs_cons (pg_name (i := 4) sc_is_triple.nd rfl (Or.inl rfl)) pgs_nil)))))
      (pss_cons (ps_if (PW.pt (pw_or (pt_not (pt_val (pe_cal (cal_is_within T) (hr.mono (by decide)) (by rfl) (pa_cons (pv 2) (pa_cons pe_int (pa_cons (pe_op op_sub (pv 0) pe_int) pa_nil)))))) (pw_or1 (pt_not (pt_val (pe_cal (cal_is_within T) (hr.mono (by decide)) (by rfl) (pa_cons (pv 3) (pa_cons (pe_op op_add (pv 2) pe_int) (pa_cons (pe_op op_sub (pv 0) pe_int) pa_nil))))))))) (pss_one (ps_ret pe_bl)) pss_nil)
      (pss_one (ps_ret (pe_and (pe_cal (cal_is_within T) (hr.mono (by decide)) (by rfl) (pa_cons (pv 4) (pa_cons pe_int (pa_cons pe_int pa_nil)))) (pe_and (pe_cmpR op_ne (pv 4) pe_int (nomark _)) (pe_one (pe_cmpR op_in_seq (pv 4) (pe_bonds (by rfl) gB) (by rfl)))))))))), ?_⟩
    refine ⟨_, rfl, _, _, .type "tuple", _, true, rfl, .ty "tuple", tup_ty ht, kit_ty (by decide +kernel), _, rfl, iteF ?_⟩
    refine ⟨_, rfl, _, _, rfl, .inr ht, rfl, _, rfl, iteNS rfl ?_⟩
    refine ⟨_, rfl, _, _, rfl, ht, rfl, _, _, rfl, _, _, rfl, _, _, rfl, rfl, ?_⟩
    refine ⟨_, rfl, _, rfl, _, _, rfl, rfl, _, _, _, rfl, _, rfl, iteNT' (by rw [decide_eq_true h0, decide_eq_true (show l ≤ n - 1 by omega)]; rfl) ?_⟩
    refine ⟨_, rfl, _, rfl, _, _, rfl, rfl, _, rfl, _, _, rfl, rfl, _, _, _, rfl, _, rfl, iteNT' (by rw [decide_eq_true (show l + 1 ≤ h by omega), decide_eq_true (show h ≤ n - 1 by omega)]; rfl) ?_⟩
    have b6 : 0 ≤ b ∧ b ≤ 6 := by omega
    refine ⟨_, rfl, _, _, _, rfl, _, rfl, ite2 (fun _ => ?_) (fun z => absurd (show (decide (0 ≤ b) && decide (b ≤ 6)) = true by rw [decide_eq_true b6.1, decide_eq_true b6.2]; rfl) z)⟩
    refine ⟨_, rfl, rfl, _, rfl, ite2 (fun _ => ?_) (fun z => absurd (show (!decide (V.int b = V.int 2)) = true by rw [decide_eq_false (fun e => by have := V.int.inj e; omega)]; rfl) z)⟩
    refine ⟨_, rfl, _, _, rfl, .inr (sB H), rfl, rfl, ?_⟩
    have e : inV (.int b) [.int 0, .int 2, .int 3, .int 4, .int 5, .int 6] = true := by
      rcases h3 with rfl | rfl | rfl | rfl | rfl <;> rfl
    show Q (.bl (inV (.int b) [.int 0, .int 2, .int 3, .int 4, .int 5, .int 6])) H
    rw [e]
    exact q
end
end Sk

namespace Sk
open PySem L2 Ow
/-- all but the list at D as it was -/
def Off (D : Addr) (H H' : Hp) : Prop := ∀ q o, q ≠ D → H q = some o → H' q = some o
theorem Off.sqT {K : PySem.W.Frag} {D a : Addr} {H H' : Hp} {xs acc : List V} (o : Off D H H') (hD : H D = some (.lst acc)) (h : SqT K H a xs) : SqT K H' a xs := by
  have ne : ∀ u, H a = some u → u ≠ .lst acc → a ≠ D := fun u e d z => d (by rw [z, hD] at e; exact (Option.some.inj e).symm)
  rcases h with (h | ⟨u, h⟩) | h
  · exact .inl (.inl (o a _ (ne _ h (fun z => nomatch z)) h))
  · exact .inl (.inr ⟨u, o a _ (ne _ h (fun z => nomatch z)) h⟩)
  · exact .inr h
theorem Off.ti {K : PySem.W.Frag} {D : Addr} {H H' : Hp} {acc : List V} {v : V} {ns : List Int} (o : Off D H H') (hD : H D = some (.lst acc)) (h : TI K H v ns) : TI K H' v ns := h.elim fun a ⟨e, q⟩ => ⟨a, e, o.sqT hD q⟩
theorem Off.tis {K : PySem.W.Frag} {D : Addr} {H H' : Hp} {acc : List V} (o : Off D H H') (hD : H D = some (.lst acc)) : ∀ {xs : List V} {ns : List (List Int)}, TIs K H xs ns → TIs K H' xs ns
  | [], [], _ => trivial
  | _ :: _, _ :: _, h => ⟨o.ti hD h.1, o.tis hD h.2⟩
theorem Off.bs {K : PySem.W.Frag} {D : Addr} {H H' : Hp} {acc : List V} {v : V} {bs : List (List Int)} (o : Off D H H') (hD : H D = some (.lst acc)) (h : BsAt K H v bs) : BsAt K H' v bs := h.elim fun a ⟨xs, e, q, t⟩ => ⟨a, xs, e, o.sqT hD q, o.tis hD t⟩
theorem off_upd {D : Addr} {H : Hp} {u : HO} : Off D H (upd H D u) := fun q o n e => by rw [upd_ne n]; exact e
/-- a fresh list's address: what stood stands, through stores to it -/
theorem same_off {H0 H H' : Hp} {D : Addr} (n : H0 D = none) (s : Same H0 H) (o : Off D H H') : Same H0 H' := fun q u e => o q u (ne_of_none e n) (s q u e)
theorem take_snoc {α : Type} {xs : List α} {i : Nat} {x : α} (h : xs[i]? = some x) : xs.take (i + 1) = xs.take i ++ [x] := by
  obtain ⟨hl, e⟩ := List.getElem?_eq_some_iff.mp h
  rw [List.take_add_one, h]
  rfl
section
variable {P : Program} {w : World} {K : PySem.W.Frag} {mg : Str → Option Value} {base : Heap} {C : Addr}
theorem cal_are_bonds (T : Txt K mg C) : Cal P w K mg base "are_bonds" 3 (spBonds K) := by
  refine T.d_are_bonds.cal (ps := ["letters", "value"]) (fun f fd D => ?_) (fun _ _ _ _ _ _ us hl => match us, hl with | [_, _], _ => rfl)
  refine D.ok sc_are_bonds (fun vs H Q E h => ?_) (fun cdv A outer s H vs Q E hr h => ?_)
  · obtain ⟨n, v, bs, rfl, _⟩ := h
    rfl
  · obtain ⟨n, v, bs, rfl, ⟨a, xs, rfl, ha, hx⟩, va, k⟩ := h
    have hlen := hx.len
    have few := va.few
    refine ⟨_, (pss_cons (ps_if (PW.pt (pw_or (pt_not (pt_val (pe_callB call_isi (by rfl) T.b_isinstance (by decide +kernel) (pa_cons (pv 1) (pa_cons (pe_bltn (v := .ty "tuple") (by rfl) T.b_tuple (by decide +kernel) rfl) pa_nil))))) (pw_or1 (pt_not (pt_val (pe_callB (cr_all rfl) (by rfl) T.b_all (by decide +kernel) (pa_cons (pe_lc (own := [("triple", 2)]) (g := gName 2) (tt := tYes) rfl sc_are_bonds.nd (pi_tup (pv 1)) (blkOk_by (own := [("triple", 2)]) (N := ["letters", "value", "triple", "pairs", "low", "high", "_", "one", "other"]) (sc := defScope s_are_bonds) (by decide +kernel)) (fun _ _ _ _ _ => (pg_name (i := 2) sc_are_bonds.nd rfl (Or.inl rfl))) (fun _ _ _ _ _ => pts_nil) (fun _ _ _ _ _ => (pe_cal (cal_is_triple T) (hr.mono (by decide)) (by rfl) (pa_cons (pv 0) (pa_cons (pv 2) pa_nil))))) pa_nil))))))) (pss_one (ps_ret pe_bl)) pss_nil)
      (pss_cons (ps_setLc (i := 3) (own := [("low", 4), ("high", 5), ("_", 6)]) (g := gTup K 3 (gCons (gName 4) (gCons (gName 5) (gCons (gName 6) (gNil))))) (tt := tYes) rfl sc_are_bonds.nd rfl rfl (sw_true rfl rfl rfl (by decide +kernel)) (pi_tup (pv 1)) (blkOk_by (own := [("low", 4), ("high", 5), ("_", 6)]) (N := ["letters", "value", "triple", "pairs", "low", "high", "_", "one", "other"]) (sc := defScope s_are_bonds) (by decide +kernel)) (fun _ _ _ _ _ => (pg_tup (by rfl) (pgs_cons (pg_name (i := 4) sc_are_bonds.nd rfl (Or.inl rfl)) (pgs_cons (pg_name (i := 5) sc_are_bonds.nd rfl (Or.inl rfl)) (pgs_cons (pg_name (i := 6) sc_are_bonds.nd rfl (Or.inl rfl)) pgs_nil))))) (fun _ _ _ _ _ => pts_nil) (fun _ _ _ _ _ => (pe_tup (pa_cons (pv 4) (pa_cons (pv 5) pa_nil)))))
      (pss_one (ps_ret (pe_callB (cr_all rfl) (by rfl) T.b_all (by decide +kernel) (pa_cons (pe_lc (own := [("one", 7), ("other", 8)]) (g := gTup K 2 (gCons (gName 7) (gCons (gName 8) (gNil)))) (tt := tYes) rfl sc_are_bonds.nd (RZ.pi_zipA (by rfl) T.b_zip (pa_cons (pv 3) (pa_cons (pe_slice sl_list (pv 3) (po_some pe_int) po_none) pa_nil))) (blkOk_by (own := [("one", 7), ("other", 8)]) (N := ["letters", "value", "triple", "pairs", "low", "high", "_", "one", "other"]) (sc := defScope s_are_bonds) (by decide +kernel)) (fun _ _ _ _ _ => (pg_tup (by rfl) (pgs_cons (pg_name (i := 7) sc_are_bonds.nd rfl (Or.inl rfl)) (pgs_cons (pg_name (i := 8) sc_are_bonds.nd rfl (Or.inl rfl)) pgs_nil)))) (fun _ _ _ _ _ => pts_nil) (fun _ _ _ _ _ => (pe_cmpR (show OpR _ _ (rLtT K) from (op_ltT hr.units0)) (pv 7) (pv 8) (nomark _)))) pa_nil)))))), ?_⟩
    refine ⟨_, rfl, _, _, .type "tuple", _, true, rfl, .ty "tuple", tup_ty ha, kit_ty (by decide +kernel), _, rfl, iteF ?_⟩
    refine ⟨_, rfl, a, rfl, ⟨_, ha⟩, fun D nD => lc_tup (K := K) (a := a) (xs := xs) (fun i H' => Same H H' ∧ H' D = some (.lst ((List.replicate i true).map V.bl))) ⟨same_new nD, upd_same⟩ (fun i H' _ h => sqT_same h.1 ha) ?_ ?_⟩
    · rintro i x H2 hi ⟨s2, hD⟩
      obtain ⟨t, ht, tx⟩ := hx.get hi
      have ilt := (List.getElem?_eq_some_iff.mp hi).1
      refine ⟨rfl, _, rfl, _, rfl, n, x, t, rfl, tx.same s2, va.tr t (List.mem_of_getElem? ht), _, hD, ?_, same_off nD s2 off_upd, ?_⟩
      · rw [List.length_map, List.length_replicate]
        exact small1000 (by omega)
      · rw [upd_same, List.replicate_succ', List.map_append]
        rfl
    · rintro H2 ⟨s2, hD⟩
      refine ⟨_, _, rfl, .of hD, _, rfl, iteNT' (by simp) ?_⟩
      -- pairs
      refine ⟨_, rfl, a, rfl, ⟨_, sqT_same s2 ha⟩, fun D2 nD2 => lc_tup (K := K) (a := a) (xs := xs) (fun i H' => Same H2 H' ∧ ∃ ys, H' D2 = some (.lst ys) ∧ TIs K H' ys ((bs.take i).map (·.take 2))) ⟨same_new nD2, [], upd_same, by simp [TIs]⟩ (fun i H' _ h => sqT_same (s2.trans h.1) ha) ?_ ?_⟩
      · rintro i x H3 hi ⟨s3, ys, hD2, hy⟩
        obtain ⟨t, ht, tx⟩ := hx.get hi
        have ilt := (List.getElem?_eq_some_iff.mp hi).1
        obtain ⟨b, rfl, hb⟩ := tx.same (s2.trans s3)
        obtain ⟨l, h, d, rfl, _⟩ := va.tr t (List.mem_of_getElem? ht)
        refine ⟨_, _, rfl, hb, rfl, _, _, rfl, _, _, rfl, _, _, rfl, rfl, rfl, _, rfl, _, rfl, show 2 ≤ sizeLine by decide, fun p np => ?_⟩
        have hD3 : (upd H3 p (.tup [.int l, .int h])) D2 = some (.lst ys) := same_new np _ _ hD2
        refine ⟨_, hD3, ?_, same_off nD2 (s3.trans (same_new np)) off_upd, _, upd_same, ?_⟩
        · have := hy.len
          rw [List.length_map, List.length_take] at this
          exact small1000 (by omega)
        · rw [take_snoc ht, List.map_append]
          exact (off_upd.tis hD3 (hy.same (same_new np))).snoc (off_upd.ti hD3 ⟨p, rfl, .of upd_same⟩)
      · rintro H3 ⟨s3, ys, hD2, hy⟩
        rw [hlen, List.take_length] at hy
        have yl := hy.len
        rw [List.length_map] at yl
        refine ⟨_, rfl, _, rfl, _, rfl, _, _, rfl, .of hD2, fun p np => ?_⟩
        have cut : cutV ys (some 1) none = ys.drop 1 := by
          show (ys.drop (HT.sIx ys.length 0 (some ((1 : Nat) : Int)))).take (ys.length - HT.sIx ys.length 0 (some ((1 : Nat) : Int))) = ys.drop 1
          rw [HT.sIx_nat]
          rcases ys with _ | ⟨y, ys⟩
          · rfl
          · rw [Nat.min_eq_left (by simp)]
            simp
        have hz := walk_zip (K := K) (a := D2) (b := p) (xs := ys) (ys := ys.drop 1) (n := ys.length - 1) (by rw [List.length_drop]; omega)
        rw [cut]
        have hD4 : (upd H3 p (.lst (ys.drop 1))) D2 = some (.lst ys) := same_new np _ _ hD2
        refine ⟨_, _, _, _, rfl, .inl ⟨.of hD4, .of upd_same, fun D3 nD3 => lc_it hz (fun i H' => Same (upd H3 p (.lst (ys.drop 1))) H' ∧ H' D3 = some (.lst ((List.replicate i true).map V.bl))) ⟨same_new nD3, upd_same⟩ (fun i H' _ h => ⟨.of (h.1 _ _ hD4), .of (h.1 _ _ upd_same)⟩) ?_ ?_⟩⟩
        · rintro i x H4 H5 hi ⟨s4, hD5⟩ ⟨q, x1, x2, rfl, nq, rfl, e1, e2⟩
          have e2' : ys[i + 1]? = some x2 := by
            have e2b : (List.drop 1 ys)[i]? = some x2 := e2
            rw [List.getElem?_drop] at e2b
            rw [Nat.add_comm]
            exact e2b
          obtain ⟨t1, g1, y1⟩ := hy.get e1
          obtain ⟨t2, g2, y2⟩ := hy.get e2'
          have s5 : Same H3 (upd H4 q (.tup [x1, x2])) := (same_new np).trans (s4.trans (same_new nq))
          obtain ⟨a1, rfl, z1⟩ := y1.same s5
          obtain ⟨a2, rfl, z2⟩ := y2.same s5
          have lt : HT.lexLt t1 t2 = true := by
            obtain ⟨l1, e1⟩ := List.getElem?_eq_some_iff.mp g1
            obtain ⟨l2, e2⟩ := List.getElem?_eq_some_iff.mp g2
            have := List.pairwise_iff_getElem.mp va.as i (i + 1) l1 l2 (by omega)
            rw [e1, e2] at this
            exact this
          refine ⟨_, _, rfl, .of upd_same, rfl, _, _, rfl, _, _, rfl, rfl, rfl, _, rfl, _, rfl, _, _, _, _, rfl, rfl, z1, z2, ?_⟩
          rw [lt]
          have hD6 := same_new (o := .tup [.ref a1, .ref a2]) nq _ _ hD5
          refine ⟨_, hD6, ?_, same_off nD3 (s4.trans (same_new nq)) off_upd, ?_⟩
          · rw [List.length_map, List.length_replicate]
            exact small1000 (by omega)
          · rw [upd_same, List.replicate_succ', List.map_append]
            rfl
        · rintro H4 ⟨s4, hD5⟩
          refine ⟨_, _, rfl, .of hD5, ?_⟩
          have e : (List.replicate (ys.length - 1) true).all id = true := by simp
          rw [e]
          exact k _ (s2.trans (s3.trans ((same_new np).trans s4)))
end
end Sk

namespace Sk
open PySem L2 Ow
/-! the bond of two letters, in numbers -/
def isPr (i j : Int) (t : List Int) : Bool := (t.take 2 == [i, j]) || (t.take 2 == [j, i])
def bondOf (bs : List (List Int)) (i j : Int) : Int := match bs.filter (isPr i j) with
  | [] => 2
  | t :: _ => t.getD 2 0
theorem eqv2 (a b c d : Int) : PyData.eqv (dT [a, b]) (dT [c, d]) = (([a, b] : List Int) == [c, d]) := by
  simp [dT, PyData.eqv, PyData.eqvAll]
section
variable {P : Program} {w : World} {K : PySem.W.Frag} {mg : Str → Option Value} {base : Heap} {C : Addr}
theorem ok_init (T : Txt K mg C) {f e : Addr} {fd : FuncData} (D : FunD K "__init__" "System.__init__" (defArgs s_init) (defBody s_init) (defScope s_init) [.ref e] [] f fd) : FnOk P w K mg base CX0 4 f fd ["self", "letters", "bonds"] (spInit K C) := by
  refine D.ok sc_init (fun vs H Q E h => ?_) (fun cdv A outer s H vs Q E hr h => ?_)
  · obtain ⟨p, dx, n, bv, bs, rfl, _⟩ := h
    rfl
  · obtain ⟨p, dx, n, bv, bs, rfl, hb, va, hp, q⟩ := h
    refine ⟨_, (pss_cons (ps_if (pt_not (pt_val (pe_cal (cal_is_within T) (hr.mono (by decide)) (by rfl) (pa_cons (pv 1) (pa_cons pe_int (pa_cons (C8.pe_gc (v := .int 4) (by rfl) T.g_MAX_LETTERS) pa_nil)))))) (pss_one ps_never) pss_nil)
      (pss_cons (ps_if (pt_not (pt_val (pe_cal (cal_are_bonds T) (hr.mono (by decide)) (by rfl) (pa_cons (pv 1) (pa_cons (pv 2) pa_nil))))) (pss_one ps_never) pss_nil)
      (pss_cons (ps_fld (pv 0) (pv 1) rfl)
      (pss_one (ps_fld (pv 0) (pv 2) rfl))))), ?_⟩
    refine ⟨_, rfl, _, _, _, rfl, _, rfl, iteNT' (by rw [decide_eq_true va.lo, decide_eq_true va.hi]; rfl) ?_⟩
    refine ⟨_, rfl, _, rfl, n, bv, bs, rfl, hb, va, fun H1 s1 => ⟨_, rfl, iteF ?_⟩⟩
    refine ⟨_, rfl, _, rfl, p, C, dx, [], rfl, s1 _ _ hp, T.cl, T.nL, (by decide), _, rfl, _, rfl, p, C, dx, _, rfl, upd_same, T.cl, T.nB, (show 1 < 1000 by decide), ?_⟩
    show Q .non (upd (upd H1 p _) p _)
    rw [upd_upd]
    exact q _ s1
/-- a new system -/
def NewS (K : PySem.W.Frag) (C : Addr) (H : Hp) (Q : VK) (n : Int) (bv : V) (bs : List (List Int)) : Prop := ∀ (r : Addr) (H' : Hp), Same H H' → H r = none → SysAt K C H' r n bv bs → Q (.ref r) H'
def tSys (K : PySem.W.Frag) (C : Addr) (t : TA) : TE := fun σ H Q => t σ H fun vs H1 => ∃ n bv bs, (vs = [.int n, bv] ∨ (vs = [.int n] ∧ bs = [] ∧ ∃ e, bv = .ref e)) ∧ (vs = [.int n, bv] → BsAt K H1 bv bs) ∧ Valid n bs ∧ ∀ bv, NewS K C H1 Q n bv bs
section
variable {X : Cx} {k : Nat} {e : Expr} {es : List Expr} {ta : TE} {t : TA} {p pos : Pos}
theorem run_sys {pins : List (Addr × Obj)} {σ : L2.St} {H1 : Hp} {s1 : Shared} {Q : VK} {us : List Value} {vs : List V} (T : Txt X.K X.mg C) (hr : Room 5 X.A) (I1 : Inv X pins σ H1 s1) (r : Vals vs us) {f fd e0} (M : Mk X.K C f) (D : FunD X.K "__init__" "System.__init__" (defArgs s_init) (defBody s_init) (defScope s_init) [.ref e0] [] f fd) (sE : ∀ H, SqT X.K H e0 [])
    (h : ∃ n bv bs, (vs = [.int n, bv] ∨ (vs = [.int n] ∧ bs = [] ∧ ∃ e, bv = .ref e)) ∧ (vs = [.int n, bv] → BsAt X.K H1 bv bs) ∧ Valid n bs ∧ ∀ bv, NewS X.K C H1 Q n bv bs) : wpAny (model X.prog X.w) X.A (call (.ref C) us) (EP X pins σ Q) X.xe s1 := by
  obtain ⟨n, bv, bs, hvs, hb, va, q⟩ := h
  have b2 : ∃ ds, Vals (([.ref e0] : List V).drop 1) ds ∧ Binds X.K fd ["self", "letters", "bonds"] ds := by
    refine D.binds1 3 1 (by simp) rfl fun T kV doc pm an cdv ct us its hl hi => ?_
    match us, hl, its, hi with
    | [_, _, _], _, [_], _ => exact ⟨_, rfl, rfl⟩
  have b1 : ∃ ds, Vals (([.ref e0] : List V).drop 0) ds ∧ Binds X.K fd ["self", "letters", "bonds"] ds := by
    refine D.binds1 2 0 (by simp) rfl fun T kV doc pm an cdv ct us its hl hi => ?_
    match us, hl, its, hi with
    | [_, _], _, [_], _ => exact ⟨_, rfl, rfl⟩
  obtain ⟨d2, v2, b2⟩ := b2
  obtain ⟨d1, v1, b1⟩ := b1
  have fin : ∀ bv, BsAt X.K H1 bv bs → ∀ x dx, H1 x = none → H1 dx = none → dx ≠ x → spInit X.K C [.ref x, .int n, bv] (upd (upd H1 dx (.own x)) x (.ins C dx [])) (fun v H2 => v = .non ∧ Q (.ref x) H2) E0 := fun bv hb x dx nx ndx ne => by
    have s0 : Same H1 (upd (upd H1 dx (.own x)) x (.ins C dx [])) := fun c o e => by
      rw [upd_ne (ne_of_none e nx), upd_ne (ne_of_none e ndx)]
      exact e
    refine ⟨x, dx, n, bv, bs, rfl, hb.same s0, va, upd_same, fun H' s' => ⟨rfl, ?_⟩⟩
    have sx : Same H1 (upd H' x (.ins C dx (sf n bv))) := fun c o e => by
      rw [upd_ne (ne_of_none e nx)]
      exact s' _ _ (s0 _ _ e)
    exact q bv x _ sx nx ⟨⟨dx, upd_same⟩, hb.same sx⟩
  rcases hvs with rfl | ⟨rfl, rfl, _⟩
  · exact run_make M (ok_init T D) hr b2 v2 pass0 I1 r (fin bv (hb rfl))
  · exact run_make M (ok_init T D) hr b1 v1 pass0 I1 r (fin (.ref e0) ⟨e0, [], rfl, sE _, trivial⟩)
theorem pe_sys (T : Txt X.K X.mg C) (hr : Room 5 X.A) (hg : Gl X "System") (ha : PA X (e :: es) t)
    (he : starEach (e :: es) X.env = (false, eval e X.env) :: starEach es X.env := by rfl) (hpl : (backTo pos (starEach es X.env)).any (·.1) = false := by rfl) : PE X (.Call (.Name "System" p) (e :: es) [] pos) (tSys X.K C t) := by
  obtain ⟨f, fd, e0, M, D, sE⟩ := T.mkS
  refine ⟨fun pins s σ H Q I h => ?_⟩
  refine wpAny_Call_Name_kw (ld_glob I hg T.mgSystem ?_ (by decide))
  refine PySem.W.callWith_K (h₀ := X.base) I.ok.mod.kin M.kp (thn (ha.run pos pins s σ H _ I h) fun us s1 ⟨vs, H1, I1, r, q⟩ => ⟨I1.kIn, run_sys T hr I1 r M D sE q⟩) he hpl
end
def spL (K : PySem.W.Frag) (C : Addr) : Sp := fun vs H Q _ => ∃ (p : Addr) (n : Int) (bv : V) (bs : List (List Int)), vs = [.ref p] ∧ SysAt K C H p n bv bs ∧ Q (.int n) H
def spB (K : PySem.W.Frag) (C : Addr) : Sp := fun vs H Q _ => ∃ (p : Addr) (n : Int) (bv : V) (bs : List (List Int)), vs = [.ref p] ∧ SysAt K C H p n bv bs ∧ Q bv H
def spBondOf (K : PySem.W.Frag) (C : Addr) : Sp := fun vs H Q _ => ∃ (p : Addr) (n : Int) (bv : V) (bs : List (List Int)) (i j : Int), vs = [.ref p, .int i, .int j] ∧ SysAt K C H p n bv bs ∧ Valid n bs ∧ 0 ≤ i ∧ i < n ∧ 0 ≤ j ∧ j < n ∧ i ≠ j ∧
  ∀ H' : Hp, Same H H' → Q (.int (bondOf bs i j)) H'
theorem ok_letters (T : Txt K mg C) {f : Addr} {fd : FuncData} (D : Fun K "letters" "System.letters" s_letters f fd) : FnOk P w K mg base CX0 1 f fd ["self"] (spL K C) := by
  refine D.ok sc_letters (fun vs H Q E h => ?_) (fun cdv A outer s H vs Q E hr h => ?_)
  · obtain ⟨p, n, bv, bs, rfl, _⟩ := h
    rfl
  · obtain ⟨p, n, bv, bs, rfl, ⟨⟨dx, g⟩, hb⟩, q⟩ := h
    exact ⟨_, (pss_one (ps_ret (pe_fld (pv 0) rfl))), _, rfl, _, _, _, _, _, rfl, g, T.cl, T.nL, sf_l _ _, q⟩
theorem ok_bond_of (T : Txt K mg C) {f : Addr} {fd : FuncData} (D : Fun K "bond_of" "System.bond_of" s_bond_of f fd) : FnOk P w K mg base CX0 2 f fd ["self", "one", "other"] (spBondOf K C) := by
  refine D.ok sc_bond_of (fun vs H Q E h => ?_) (fun cdv A outer s H vs Q E hr h => ?_)
  · obtain ⟨p, n, bv, bs, i, j, rfl, _⟩ := h
    rfl
  · obtain ⟨p, n, bv, bs, i, j, rfl, ⟨⟨dx, g⟩, hb⟩, va, i0, i1, j0, j1, ne, k⟩ := h
    refine ⟨_, (pss_cons (ps_if (pt_not (pt_val (pe_cal (cal_is_within T) (hr.mono (by decide)) (by rfl) (pa_cons (pv 1) (pa_cons pe_int (pa_cons (pe_op op_sub (pe_fld (pv 0) rfl) pe_int) pa_nil)))))) (pss_one ps_never) pss_nil)
      (pss_cons (ps_if (pt_not (pt_val (pe_cal (cal_is_within T) (hr.mono (by decide)) (by rfl) (pa_cons (pv 2) (pa_cons pe_int (pa_cons (pe_op op_sub (pe_fld (pv 0) rfl) pe_int) pa_nil)))))) (pss_one ps_never) pss_nil)
      (pss_cons (ps_if (pt_cmpR op_eq (pv 1) (pv 2) (nomark _)) (pss_one ps_never) pss_nil)
      (pss_cons (ps_setLc (i := 3) (own := [("low", 4), ("high", 5), ("bond", 6)]) (g := gTup K 3 (gCons (gName 4) (gCons (gName 5) (gCons (gName 6) (gNil))))) rfl sc_bond_of.nd rfl rfl (sw_true rfl rfl rfl (by decide +kernel)) (pi_tup (pe_fld (pv 0) rfl)) (blkOk_by (own := [("low", 4), ("high", 5), ("bond", 6)]) (N := ["self", "one", "other", "told", "low", "high", "bond"]) (sc := defScope s_bond_of) (by decide +kernel)) (fun _ _ _ _ _ => (pg_tup (by rfl) (pgs_cons (pg_name (i := 4) sc_bond_of.nd rfl (Or.inl rfl)) (pgs_cons (pg_name (i := 5) sc_bond_of.nd rfl (Or.inl rfl)) (pgs_cons (pg_name (i := 6) sc_bond_of.nd rfl (Or.inl rfl)) pgs_nil))))) (fun _ _ _ _ _ => (pts_one (pt_cmpR (show OpR _ _ (rInT K) from (op_inT (u65 hr))) (pe_tup (pa_cons (pv 4) (pa_cons (pv 5) pa_nil))) (pe_tup (pa_cons (pe_tup (pa_cons (pv 1) (pa_cons (pv 2) pa_nil))) (pa_cons (pe_tup (pa_cons (pv 2) (pa_cons (pv 1) pa_nil))) pa_nil))) (by rfl)))) (fun _ _ _ _ _ => (pv 6)))
      (pss_one (ps_ret (pe_ifExp (pt_truth (pv 3) (by intro _; rfl)) (pe_ix ix_list (pv 3) pe_int (fun _ _ => rfl)) pe_int))))))), ?_⟩
    refine ⟨_, rfl, _, rfl, _, _, _, _, _, rfl, g, T.cl, T.nL, sf_l _ _, _, _, rfl, rfl, _, _, _, rfl, _, rfl, iteNT' (by rw [decide_eq_true i0, decide_eq_true (show i ≤ n - 1 by omega)]; rfl) ?_⟩
    refine ⟨_, rfl, _, rfl, _, _, _, _, _, rfl, g, T.cl, T.nL, sf_l _ _, _, _, rfl, rfl, _, _, _, rfl, _, rfl, iteNT' (by rw [decide_eq_true j0, decide_eq_true (show j ≤ n - 1 by omega)]; rfl) ?_⟩
    refine ⟨_, rfl, _, rfl, rfl, _, rfl, ite2 (fun h => absurd (V.int.inj (of_decide_eq_true h)) ne) (fun _ => ?_)⟩
    obtain ⟨a, xs, rfl, ha, hx⟩ := hb
    have hlen := hx.len
    have few := va.few
    refine ⟨_, rfl, _, _, _, _, _, rfl, g, T.cl, T.nB, sf_b _ _, a, rfl, ⟨_, ha⟩, fun D nD => lc_tup (K := K) (a := a) (xs := xs) (fun m H' => Same H H' ∧ H' D = some (.lst (((bs.take m).filter (isPr i j)).map fun t => V.int (t.getD 2 0)))) ⟨same_new nD, upd_same⟩ (fun m H' _ h => sqT_same h.1 ha) ?_ ?_⟩
    · rintro m x H2 hm ⟨s2, hD⟩
      obtain ⟨t, ht, tx⟩ := hx.get hm
      have ilt := (List.getElem?_eq_some_iff.mp hm).1
      obtain ⟨b, rfl, hb⟩ := tx.same s2
      obtain ⟨l, h, d, rfl, _⟩ := va.tr t (List.mem_of_getElem? ht)
      refine ⟨_, _, rfl, hb, rfl, _, _, rfl, _, _, rfl, _, _, rfl, rfl, rfl, ?_⟩
      refine ⟨_, rfl, _, rfl, show 2 ≤ sizeLine by decide, fun p1 n1 => ?_⟩
      refine ⟨_, rfl, _, rfl, show 2 ≤ sizeLine by decide, fun p2 n2 => ?_⟩
      refine ⟨_, rfl, _, rfl, show 2 ≤ sizeLine by decide, fun p3 n3 => ?_⟩
      refine ⟨show 2 ≤ sizeLine by decide, fun p4 n4 => ?_⟩
      have S4 : Same H2 (upd (upd (upd (upd H2 p1 (.tup [.int l, .int h])) p2 (.tup [.int i, .int j])) p3 (.tup [.int j, .int i])) p4 (.tup [.ref p2, .ref p3])) := (same_new n1).trans ((same_new n2).trans ((same_new n3).trans (same_new n4)))
      have g1 : (upd (upd (upd (upd H2 p1 (.tup [.int l, .int h])) p2 (.tup [.int i, .int j])) p3 (.tup [.int j, .int i])) p4 (.tup [.ref p2, .ref p3])) p1 = some (.tup [.int l, .int h]) := same_new n4 _ _ (same_new n3 _ _ (same_new n2 _ _ upd_same))
      have g2 : (upd (upd (upd (upd H2 p1 (.tup [.int l, .int h])) p2 (.tup [.int i, .int j])) p3 (.tup [.int j, .int i])) p4 (.tup [.ref p2, .ref p3])) p2 = some (.tup [.int i, .int j]) := same_new n4 _ _ (same_new n3 _ _ upd_same)
      have g3 : (upd (upd (upd (upd H2 p1 (.tup [.int l, .int h])) p2 (.tup [.int i, .int j])) p3 (.tup [.int j, .int i])) p4 (.tup [.ref p2, .ref p3])) p3 = some (.tup [.int j, .int i]) := same_new n4 _ _ upd_same
      have g4 : (upd (upd (upd (upd H2 p1 (.tup [.int l, .int h])) p2 (.tup [.int i, .int j])) p3 (.tup [.int j, .int i])) p4 (.tup [.ref p2, .ref p3])) p4 = some (.tup [.ref p2, .ref p3]) := upd_same
      generalize (upd (upd (upd (upd H2 p1 (.tup [.int l, .int h])) p2 (.tup [.int i, .int j])) p3 (.tup [.int j, .int i])) p4 (.tup [.ref p2, .ref p3])) = H4 at S4 g1 g2 g3 g4
      have dz : ∀ {q : Addr} {u v : Int}, H4 q = some (.tup [.int u, .int v]) → Dp K H4 (.ref q) (dT [u, v]) := fun {q u v} g => TI.dp (ns := [u, v]) ⟨q, rfl, .of g⟩
      refine ⟨dT [l, h], [dT [i, j], dT [j, i]], dz g1, .tup (.of g4) (.cons (dz g2) (.cons (dz g3) .nil)), sh_dT _, sh_dB [[i, j], [j, i]], _, rfl, ?_⟩
      have hD4 := S4 _ _ hD
      have et : ([dT [i, j], dT [j, i]].any fun z => PyData.eqv z (dT [l, h])) = isPr i j [l, h, d] := by
        simp only [List.any_cons, List.any_nil, Bool.or_false, eqv2]
        unfold isPr
        rw [show ([l, h, d] : List Int).take 2 = [l, h] from rfl]
        congr 1 <;> exact Bool.beq_comm
      rw [et]
      refine ite2 (fun hp => ?_) (fun hp => ?_)
      · refine ⟨_, rfl, _, hD4, ?_, same_off nD (s2.trans S4) off_upd, ?_⟩
        · rw [List.length_map]
          have := List.length_filter_le (isPr i j) (bs.take m)
          rw [List.length_take] at this
          exact small1000 (by omega)
        · rw [upd_same, take_snoc ht, List.filter_append, List.map_append, List.filter_cons_of_pos hp]
          rfl
      · refine ⟨s2.trans S4, ?_⟩
        rw [take_snoc ht, List.filter_append, List.filter_cons_of_neg hp, List.filter_nil, List.append_nil]
        exact hD4
    · rintro H2 ⟨s2, hD⟩
      rw [hlen, List.take_length] at hD
      refine ⟨_, rfl, _, .inl ⟨_, .of hD, rfl⟩, ?_⟩
      have kk := k _ s2
      unfold bondOf at kk
      cases hf : bs.filter (isPr i j) with
      | nil =>
        rw [hf] at kk
        exact iteF kk
      | cons t ts =>
        rw [hf] at kk hD
        refine iteT ?_
        exact ⟨_, rfl, _, _, _, _, rfl, rfl, .of hD, at_of (j := 0) rfl rfl, kk⟩
end
end Sk

namespace Sk
open PySem L2 Ow
theorem szl {n : Nat} (h : n ≤ 1000) : n ≤ sizeLine := Nat.le_trans h (by decide)
abbrev Dat := Int × List (List Int)
def okB (d : Dat) : Bool := decide (1 ≤ d.1) && decide (d.1 ≤ 4) && d.2.all (fun t => match t with
  | [l, h, b] => decide (0 ≤ l) && decide (l < h) && decide (h < d.1) && (decide (b = 0) || decide (b = 3) || decide (b = 4) || decide (b = 5) || decide (b = 6))
  | _ => false) && decide ((d.2.map (·.take 2)).Pairwise (fun p q => HT.lexLt p q = true)) && decide (d.2.length ≤ 20)
theorem okB_valid {d : Dat} (h : okB d = true) : Valid d.1 d.2 := by
  unfold okB at h
  simp only [Bool.and_eq_true, decide_eq_true_eq, List.all_eq_true] at h
  obtain ⟨⟨⟨⟨h1, h2⟩, h3⟩, h4⟩, h5⟩ := h
  refine ⟨h1, h2, fun t ht => ?_, h4, h5⟩
  have := h3 t ht
  split at this
  · rename_i l hh b
    simp only [Bool.and_eq_true, Bool.or_eq_true, decide_eq_true_eq] at this
    exact ⟨l, hh, b, rfl, by omega, by omega, by omega, by omega⟩
  · cases this
def tSysL (K : PySem.W.Frag) (i : Nat) (C : Addr) (t : TA) : TE := fun σ H Q => σ[i]? = some (some (.ref C)) ∧ tSys K C t σ H Q
section
variable {X : Cx} {k i : Nat} {C : Addr} {e o : Expr} {es : List Expr} {ta : TE} {t : TA} {p pos apos : Pos} {x : Str}
theorem pe_cls (T : Txt X.K X.mg C) (hr : Room 5 X.A) (hN : X.N[i]? = some x) (hv : Vis X.env.scope x) (ha : PA X (e :: es) t)
    (hdb : (x == ("__debug__" : Str)) = false := by decide) (hcd : (x == ("__classdict__" : Str)) = false := by decide)
    (he : starEach (e :: es) X.env = (false, eval e X.env) :: starEach es X.env := by rfl) (hpl : (backTo pos (starEach es X.env)).any (·.1) = false := by rfl) : PE X (.Call (.Name x p) (e :: es) [] pos) (tSysL X.K i C t) := by
  obtain ⟨f, fd, e0, M, D, sE⟩ := T.mkS
  refine ⟨fun pins s σ H Q I h => ?_⟩
  obtain ⟨hs, ht⟩ := h
  refine wpAny_Call_Name_kw (thn ((pe_var (pos := p) hN hv hdb hcd).run pins s σ H (fun v H1 => v = .ref C ∧ H1 = H) I ⟨.ref C, hs, rfl, rfl⟩) fun u s1 ⟨v, H1, I1, r1, q1⟩ => ?_)
  obtain ⟨rfl, rfl⟩ := q1
  cases r1
  refine PySem.W.callWith_K (h₀ := X.base) I.ok.mod.kin M.kp (thn (ha.run pos pins s1 σ _ _ I1 ht) fun us s2 ⟨vs, H2, I2, r, q⟩ => ⟨I2.kIn, run_sys T hr I2 r M D sE q⟩) he hpl
def nb (a b : Int) : List (List Int) := (List.range (b - 1 - a).toNat).map fun i : Nat => [a + (i : Int), a + (i : Int) + 1, 3]
def rowsD (p : Int) : Dat := (p - 1, nb 0 (p - 1))
def NewD (K : PySem.W.Frag) (C : Addr) (H : Hp) (Q : VK) (d : Dat) : Prop := ∀ (r : Addr) (bv : V) (H' : Hp), Same H H' → H r = none → SysAt K C H' r d.1 bv d.2 → Q (.ref r) H'
def spC (K : PySem.W.Frag) (C : Addr) (dom : Int → Prop) (d : Int → Dat) : Sp := fun vs H Q _ => ∃ i, vs = [.ref C, .int i] ∧ dom i ∧ NewD K C H Q (d i)
def spNb (K : PySem.W.Frag) : Sp := fun vs H Q _ => ∃ a b, vs = [.int a, .int b] ∧ a ≤ 9 ∧ b ≤ 9 ∧ 0 ≤ a ∧ 0 ≤ b ∧ ∀ (v : V) (H' : Hp), Same H H' → BsAt K H' v (nb a b) → Q v H'
theorem NewD.sys {K : PySem.W.Frag} {H H1 : Hp} {Q : VK} {d : Dat} {n : Int} {bs : List (List Int)} (q : NewD K C H Q d) (s : Same H H1) (e : d = (n, bs)) : ∀ bv, NewS K C H1 Q n bv bs := fun bv r H' s' n0 a => q r bv H' (s.trans s') (s.free n0) (by rw [e]; exact a)
end
section
variable {P : Program} {w : World} {K : PySem.W.Frag} {mg : Str → Option Value} {base : Heap} {C : Addr}
theorem cal_neighbours (T : Txt K mg C) : Cal P w K mg base "neighbours" 1 (spNb K) := by
  refine T.d_neighbours.cal (ps := ["first", "letters"]) (fun f fd D => ?_) (fun _ _ _ _ _ _ us hl => match us, hl with | [_, _], _ => rfl)
  refine D.ok sc_neighbours (fun vs H Q E h => ?_) (fun cdv A outer s H vs Q E hr h => ?_)
  · obtain ⟨a, b, rfl, _⟩ := h
    rfl
  · obtain ⟨a, b, rfl, a9, b9, a0, b0, k⟩ := h
    refine ⟨_, (pss_one (ps_ret (pe_callTy call_tuple_of (by rfl) T.b_tuple (by decide +kernel) (pa_cons (pe_lc (own := [("letter", 2)]) (g := gName 2) (tt := tYes) rfl sc_neighbours.nd (pi_range2 (by rfl) T.b_range (pa_cons (pv 0) (pa_cons (pe_op op_sub (pv 1) pe_int) pa_nil))) (blkOk_by (own := [("letter", 2)]) (N := ["first", "letters", "letter"]) (sc := defScope s_neighbours) (by decide +kernel)) (fun _ _ _ _ _ => (pg_name (i := 2) sc_neighbours.nd rfl (Or.inl rfl))) (fun _ _ _ _ _ => pts_nil) (fun _ _ _ _ _ => (pe_tup (pa_cons (pv 2) (pa_cons (pe_op op_add (pv 2) pe_int) (pa_cons pe_int pa_nil)))))) pa_nil)))), ?_⟩
    refine ⟨_, rfl, _, rfl, _, _, rfl, rfl, _, _, rfl, ⟨by omega, by omega, by omega, by omega⟩, fun D nD => lc_range (lo := a) (n := (b - 1 - a).toNat) (fun i H' => ∃ xs, Same H H' ∧ H' D = some (.lst xs) ∧ TIs K H' xs ((List.range i).map fun i : Nat => [a + (i : Int), a + (i : Int) + 1, 3])) ⟨[], same_new nD, upd_same, trivial⟩ ?_ ?_⟩
    · rintro i H2 hi ⟨xs, s2, hD, hx⟩
      refine ⟨rfl, ?_⟩
      refine ⟨_, rfl, _, rfl, _, _, rfl, rfl, show 3 ≤ sizeLine by decide, fun q nq => ?_⟩
      have hl := hx.len
      rw [List.length_map, List.length_range] at hl
      have hD3 := same_new (o := .tup [.int (a + i), .int (a + i + 1), .int 3]) nq _ _ hD
      refine ⟨_, hD3, small1000 (by omega), _, same_off nD (s2.trans (same_new nq)) off_upd, upd_same, ?_⟩
      rw [List.range_succ, List.map_append]
      exact (off_upd.tis hD3 (hx.same (same_new nq))).snoc (off_upd.ti hD3 ⟨q, rfl, .of upd_same⟩)
    · rintro H2 ⟨xs, s2, hD, hx⟩
      refine ⟨_, xs, rfl, .inl ⟨.of hD, fun q nq => ?_⟩⟩
      exact k _ _ (s2.trans (same_new nq)) ⟨q, xs, rfl, .of upd_same, hx.same (same_new nq)⟩
theorem ok_rows (T : Txt K mg C) {f : Addr} {fd : FuncData} (D : Fun K "rows" "System.rows" s_rows f fd) : FnOk P w K mg base CX0 6 f fd ["cls", "places"] (spC K C (fun p => 2 ≤ p ∧ p ≤ 5) rowsD) := by
  refine D.ok sc_rows (fun vs H Q E h => ?_) (fun cdv A outer s H vs Q E hr h => ?_)
  · obtain ⟨i, rfl, _⟩ := h
    rfl
  · obtain ⟨i, rfl, ⟨h2, h5⟩, q⟩ := h
    refine ⟨_, (pss_cons (ps_if (pt_not (pt_val (pe_cal (cal_is_within T) (hr.mono (by decide)) (by rfl) (pa_cons (pv 1) (pa_cons pe_int (pa_cons (pe_op op_add (C8.pe_gc (v := .int 4) (by rfl) T.g_MAX_LETTERS) pe_int) pa_nil)))))) (pss_one ps_never) pss_nil)
      (pss_one (ps_ret (pe_cls (i := 0) T (hr.mono (by decide)) rfl (Or.inl rfl) (pa_cons (pe_op op_sub (pv 1) pe_int) (pa_cons (pe_cal (cal_neighbours T) (hr.mono (by decide)) (by rfl) (pa_cons pe_int (pa_cons (pe_op op_sub (pv 1) pe_int) pa_nil))) pa_nil)))))), ?_⟩
    refine ⟨_, rfl, _, _, rfl, rfl, _, _, _, rfl, _, rfl, iteNT' (by rw [decide_eq_true h2, decide_eq_true (show i ≤ 4 + 1 by omega)]; rfl) ?_⟩
    refine ⟨rfl, _, rfl, _, _, rfl, rfl, _, rfl, _, _, rfl, rfl, _, _, rfl, by omega, by omega, by omega, by omega, fun v H1 s1 hb => ?_⟩
    refine ⟨_, v, nb 0 (i - 1), .inl rfl, fun _ => hb, okB_valid (d := rowsD i) ?_, q.sys s1 rfl⟩
    have : i = 2 ∨ i = 3 ∨ i = 4 ∨ i = 5 := by omega
    rcases this with rfl | rfl | rfl | rfl <;> decide
theorem unraw {CX : CXT} {n : Nat} {g : Addr} {fd : FuncData} {ps : List Str} {sp : Sp} (F : FnOk P w K mg base CX n g fd ps sp) (hb : Binds K fd ps []) : FnR P w K mg base CX n g sp := (F.raw hb .nil).imp fun vs H Q E h => by rw [List.append_nil]; exact h
section
variable {X : Cx} {o e : Expr} {ta : TE} {t : TA} {apos pos : Pos}
theorem pe_cRows {pl : Sem Bool} (T : Txt X.K X.mg C) (hr : Room 6 X.A) (he : PE X o ta) (ha : PA X [e] t)
    (hst : starEach [e] X.env = (false, eval e X.env) :: starEach [] X.env := by rfl)
    (ht : eval (.Call (.Attribute o "rows" apos) [e] [] pos) X.env = (do
      let ov ← eval o X.env
      standAt apos.atName
      let (f, first) ← holding [ov] (getMethod ov "rows" pl)
      callWith pos f first (backTo pos (starEach [e] X.env)) (backToKw pos (keywordEach [] X.env))) := by rfl) :
    PE X (.Call (.Attribute o "rows" apos) [e] [] pos) (ClX.tCMeth C (spC X.K C (fun p => 2 ≤ p ∧ p ≤ 5) rowsD) E0 ta t) := by
  obtain ⟨_, _, _, c, D⟩ := T.cRows
  exact ClX.pe_cmeth he T.crd c (unraw (ok_rows T D) (D.binds fun _ _ _ _ _ _ us hl => match us, hl with | [_, _], _ => rfl)) hr pass0 ha hst rfl ht
end
section
variable {X : Cx} {e : Expr} {es : List Expr} {ta : TE} {t : TA} {apos pos : Pos}
theorem pe_sletters (T : Txt X.K X.mg C) (hr : Room 2 X.A) (he : PE X e ta) (hab : attributeBase e "letters" X.env (eval e X.env) = eval e X.env := by rfl) : PE X (.Attribute e "letters" pos) (tProp C (spL X.K C) [] E0 ta) := by
  obtain ⟨_, _, _, hp, D⟩ := T.pL
  exact pe_prop he T.cl hp (ok_letters T D) hr (D.binds fun _ _ _ _ _ _ us hl => match us, hl with | [_], _ => rfl) .nil pass0 hab
theorem pe_bond_of {pl : Sem Bool} {o : Expr} (T : Txt X.K X.mg C) (hr : Room 2 X.A) (he : PE X o ta) (ha : PA X (e :: es) t)
    (hst : starEach (e :: es) X.env = (false, eval e X.env) :: starEach es X.env := by rfl) (hpl : (backTo pos (starEach es X.env)).any (·.1) = false := by rfl)
    (ht : eval (.Call (.Attribute o "bond_of" apos) (e :: es) [] pos) X.env = (do
      let ov ← eval o X.env
      standAt apos.atName
      let (f, first) ← holding [ov] (getMethod ov "bond_of" pl)
      callWith pos f first (backTo pos (starEach (e :: es) X.env)) (backToKw pos (keywordEach [] X.env))) := by rfl) :
    PE X (.Call (.Attribute o "bond_of" apos) (e :: es) [] pos) (tMeth C "bond_of" (spBondOf X.K C) [] E0 ta t) := by
  obtain ⟨_, _, D, m⟩ := T.mBond
  exact pe_meth he T.cl ⟨m.at_, m.fn, D.kp⟩ (ok_bond_of T D) hr (D.binds fun _ _ _ _ _ _ us hl => match us, hl with | [_, _, _], _ => rfl) .nil pass0 ha hst hpl ht
end
end
end Sk

namespace Sk
open PySem L2 Ow
/-- a def of the module by its raw promise -/
structure CalR (P : Program) (w : World) (K : PySem.W.Frag) (mg : Str → Option Value) (base : Heap) (x : Str) (k : Nat) (sp : Sp) : Prop where
  ex : ∃ f, FnR P w K mg base CX0 k f sp ∧ mg x = some (.ref f) ∧ PySem.W.keepIn K (.ref f) = true
theorem pe_calR {X : Cx} {x : Str} {k : Nat} {sp : Sp} {e : Expr} {es : List Expr} {t : TA} {p pos : Pos} (C : CalR X.prog X.w X.K X.mg X.base x k sp) (hr : Room k X.A) (hg : Gl X x) (ha : PA X (e :: es) t) (hdb : (x == ("__debug__" : Str)) = false := by decide)
    (he : starEach (e :: es) X.env = (false, eval e X.env) :: starEach es X.env := by rfl) (hpl : (backTo pos (starEach es X.env)).any (·.1) = false := by rfl) : PE X (.Call (.Name x p) (e :: es) [] pos) (tCall sp [] E0 t) := by
  obtain ⟨f, F, hm, hk⟩ := C.ex
  refine ⟨fun pins s σ H Q I h => ?_⟩
  refine wpAny_Call_Name_kw (ld_glob I hg hm ?_ hdb)
  refine PySem.W.callWith_K (h₀ := X.base) I.ok.mod.kin hk (thn (ha.run pos pins s σ H _ I h) fun us s1 ⟨vs, H1, I1, r, q⟩ => ⟨I1.kIn, wpAny_call (run_fnR F hr pass0 I1 r ?_)⟩) he hpl
  have q' : sp (vs ++ []) H1 Q E0 := q
  rw [List.append_nil] at q'
  exact q'
def Wd (n : Int) (ws : List Int) : Prop := (∀ x ∈ ws, 0 ≤ x ∧ x < n) ∧ ws.length ≤ 40
def spLetter (K : PySem.W.Frag) (C : Addr) : Sp := fun vs H Q _ => ∃ (p : Addr) (n : Int) (bv : V) (bs : List (List Int)) (i : Int), vs = [.ref p, .int i] ∧ SysAt K C H p n bv bs ∧ Q (.bl (decide (0 ≤ i) && decide (i ≤ n - 1))) H
def spWord (K : PySem.W.Frag) (C : Addr) : Sp := fun vs H Q _ => ∃ (p : Addr) (n : Int) (bv : V) (bs : List (List Int)) (v : V) (ws : List Int), vs = [.ref p, v] ∧ SysAt K C H p n bv bs ∧ TI K H v ws ∧ Wd n ws ∧ ∀ H', Same H H' → Q (.bl true) H'
def spCSys (K : PySem.W.Frag) (C : Addr) : Sp := fun vs H Q _ => ∃ (p : Addr) (n : Int) (bv : V) (bs : List (List Int)), vs = [.ref p] ∧ SysAt K C H p n bv bs ∧ Q .non H
def spCWord (K : PySem.W.Frag) (C : Addr) : Sp := fun vs H Q _ => ∃ (p : Addr) (n : Int) (bv : V) (bs : List (List Int)) (v : V) (ws : List Int), vs = [.ref p, v] ∧ SysAt K C H p n bv bs ∧ TI K H v ws ∧ Wd n ws ∧ ∀ H', Same H H' → Q .non H'
def TWs (K : PySem.W.Frag) (H : Hp) (n : Int) (vs : List V) : Prop := ∀ v ∈ vs, ∃ ws, TI K H v ws ∧ Wd n ws
def spCWords (K : PySem.W.Frag) (C : Addr) : Sp := fun vs H Q _ => ∃ (p : Addr) (n : Int) (bv : V) (bs : List (List Int)) (us : List V), vs = .ref p :: us ∧ us.length ≤ 1000 ∧ SysAt K C H p n bv bs ∧ TWs K H n us ∧ ∀ H', Same H H' → Q .non H'
section
variable {P : Program} {w : World} {K : PySem.W.Frag} {mg : Str → Option Value} {base : Heap} {C : Addr}
theorem cal_is_letter (T : Txt K mg C) : Cal P w K mg base "is_letter" 3 (spLetter K C) := by
  refine T.d_is_letter.cal (ps := ["system", "value"]) (fun f fd D => ?_) (fun _ _ _ _ _ _ us hl => match us, hl with | [_, _], _ => rfl)
  refine D.ok sc_is_letter (fun vs H Q E h => ?_) (fun cdv A outer s H vs Q E hr h => ?_)
  · obtain ⟨p, n, bv, bs, i, rfl, _⟩ := h
    rfl
  · obtain ⟨p, n, bv, bs, i, rfl, y, k⟩ := h
    obtain ⟨dx, g⟩ := id y.1
    refine ⟨_, (pss_one (ps_ret (pe_cal (cal_is_within T) (hr.mono (by decide)) (by rfl) (pa_cons (pv 1) (pa_cons pe_int (pa_cons (pe_op op_sub (pe_sletters T (hr.mono (by decide)) (pv 0)) pe_int) pa_nil)))))), ?_⟩
    exact ⟨_, rfl, _, rfl, p, dx, _, rfl, g, p, n, bv, bs, rfl, y, _, _, rfl, rfl, _, _, _, rfl, k⟩
theorem cal_is_word (T : Txt K mg C) : Cal P w K mg base "is_word" 4 (spWord K C) := by
  refine T.d_is_word.cal (ps := ["system", "value"]) (fun f fd D => ?_) (fun _ _ _ _ _ _ us hl => match us, hl with | [_, _], _ => rfl)
  refine D.ok sc_is_word (fun vs H Q E h => ?_) (fun cdv A outer s H vs Q E hr h => ?_)
  · obtain ⟨p, n, bv, bs, v, ws, rfl, _⟩ := h
    rfl
  · obtain ⟨p, n, bv, bs, v, ws, rfl, y, ⟨a, rfl, ha⟩, hw, k⟩ := h
    have h40 := hw.2
    have ll : (ws.map V.int).length = ws.length := List.length_map _
    refine ⟨_, (pss_cons (ps_if (PW.pt (pw_or (pt_not (pt_val (pe_callB call_isi (by rfl) T.b_isinstance (by decide +kernel) (pa_cons (pv 1) (pa_cons (pe_bltn (v := .ty "tuple") (by rfl) T.b_tuple (by decide +kernel) rfl) pa_nil))))) (pw_or1 (pt_cmpR op_gt (pe_callB call_len_seq (by rfl) T.b_len (by decide +kernel) (pa_cons (pv 1) pa_nil)) (C8.pe_gc (v := .int 40) (by rfl) T.g_LONGEST_WORD) (nomark _))))) (pss_one (ps_ret pe_bl)) pss_nil)
      (pss_one (ps_ret (pe_callB (cr_all rfl) (by rfl) T.b_all (by decide +kernel) (pa_cons (pe_lc (own := [("letter", 2)]) (g := gName 2) (tt := tYes) rfl sc_is_word.nd (pi_tup (pv 1)) (blkOk_by (own := [("letter", 2)]) (N := ["system", "value", "letter"]) (sc := defScope s_is_word) (by decide +kernel)) (fun _ _ _ _ _ => (pg_name (i := 2) sc_is_word.nd rfl (Or.inl rfl))) (fun _ _ _ _ _ => pts_nil) (fun _ _ _ _ _ => (pe_cal (cal_is_letter T) (hr.mono (by decide)) (by rfl) (pa_cons (pv 0) (pa_cons (pv 2) pa_nil))))) pa_nil))))), ?_⟩
    refine ⟨_, rfl, _, _, _, _, true, rfl, .ty "tuple", tup_ty ha, kit_ty (by decide +kernel), _, rfl, iteF ?_⟩
    refine ⟨_, rfl, _, _, rfl, .inr ha, _, _, rfl, rfl, _, rfl, ite2 (fun z => absurd (of_decide_eq_true z) (by rw [ll]; omega)) (fun _ => ?_)⟩
    refine ⟨_, rfl, a, rfl, ⟨_, ha⟩, fun D nD => lc_tup (K := K) (a := a) (xs := ws.map V.int) (fun i H' => Same H H' ∧ H' D = some (.lst ((List.replicate i true).map V.bl))) ⟨same_new nD, upd_same⟩ (fun i H' _ h => sqT_same h.1 ha) ?_ ?_⟩
    · rintro i x H2 hi ⟨s2, hD⟩
      have ilt := (List.getElem?_eq_some_iff.mp hi).1
      rw [ll] at ilt
      rw [List.getElem?_map, List.getElem?_eq_getElem ilt] at hi
      obtain rfl : V.int ws[i] = x := Option.some.inj hi
      have hb := hw.1 _ (List.getElem_mem ilt)
      refine ⟨rfl, _, rfl, _, rfl, p, n, bv, bs, _, rfl, y.same s2, _, hD, ?_, same_off nD s2 off_upd, ?_⟩
      · rw [List.length_map, List.length_replicate]
        exact small1000 (by omega)
      · rw [upd_same, decide_eq_true hb.1, decide_eq_true (show ws[i] ≤ n - 1 by omega), List.replicate_succ', List.map_append]
        rfl
    · rintro H2 ⟨s2, hD⟩
      refine ⟨_, _, rfl, .of hD, ?_⟩
      rw [show (List.replicate (ws.map V.int).length true).all id = true by simp]
      exact k _ s2
theorem cal_check_system (T : Txt K mg C) : Cal P w K mg base "check_system" 1 (spCSys K C) := by
  refine T.d_check_system.cal (ps := ["system"]) (fun f fd D => ?_) (fun _ _ _ _ _ _ us hl => match us, hl with | [_], _ => rfl)
  refine D.ok sc_check_system (fun vs H Q E h => ?_) (fun cdv A outer s H vs Q E hr h => ?_)
  · obtain ⟨p, n, bv, bs, rfl, _⟩ := h
    rfl
  · obtain ⟨p, n, bv, bs, rfl, y, k⟩ := h
    obtain ⟨dx, g⟩ := id y.1
    refine ⟨_, (pss_one (ps_if (pt_not (pt_val (pe_callB call_isi (by rfl) T.b_isinstance (by decide +kernel) (pa_cons (pv 0) (pa_cons (pe_glob (v := .ref C) (by rfl) T.mgSystem rfl) pa_nil))))) (pss_one ps_never) pss_nil)), ?_⟩
    exact ⟨_, rfl, _, _, _, _, true, rfl, .own C, .base (.ins g T.cl T.ic.ha T.ic.hn T.ic.htk T.ic.hm), T.ic.me, _, rfl, iteF k⟩
theorem cal_check_word (T : Txt K mg C) : Cal P w K mg base "check_word" 5 (spCWord K C) := by
  refine T.d_check_word.cal (ps := ["system", "word"]) (fun f fd D => ?_) (fun _ _ _ _ _ _ us hl => match us, hl with | [_, _], _ => rfl)
  refine D.ok sc_check_word (fun vs H Q E h => ?_) (fun cdv A outer s H vs Q E hr h => ?_)
  · obtain ⟨p, n, bv, bs, v, ws, rfl, _⟩ := h
    rfl
  · obtain ⟨p, n, bv, bs, v, ws, rfl, y, t, hw, k⟩ := h
    refine ⟨_, (pss_one (ps_if (pt_not (pt_val (pe_cal (cal_is_word T) (hr.mono (by decide)) (by rfl) (pa_cons (pv 0) (pa_cons (pv 1) pa_nil))))) (pss_one ps_never) pss_nil)), ?_⟩
    exact ⟨_, rfl, _, rfl, p, n, bv, bs, v, ws, rfl, y, t, hw, fun H1 s1 => ⟨_, rfl, iteF (k _ s1)⟩⟩
theorem cal_check_words (T : Txt K mg C) : CalR P w K mg base "check_words" 6 (spCWords K C) := by
  obtain ⟨f, fd, D, hm⟩ := T.d_check_words
  obtain ⟨oc, od, kV, doc, pm, an, cdv, ct, osl, rfl, lk, hcd⟩ := D.ex
  have F := StX.fn_star (P := P) (w := w) (K := K) (mg := mg) (base := base) (k := 5) (ps := ["system"]) (pv := "words") (CX := CX0) (sp := fun vs H Q _ => ∃ (p t : Addr) (n : Int) (bv : V) (bs : List (List Int)) (us : List V), vs = [.ref p, .ref t] ∧ us.length ≤ 1000 ∧ SqT K H t us ∧ SysAt K C H p n bv bs ∧ TWs K H n us ∧ ∀ H', Same H H' → Q .non H')
    lk hcd sc_check_words StX.cxUp_none (fun us rest hl => match us, rest, hl with | [_], [], _ => rfl | [_], _ :: _, _ => rfl) (fun A outer s H vs Q E hr h => ?_)
  · refine ⟨⟨f, fun A outer s H us vs Q E hr e0 r h => F A outer s H us vs Q E hr e0 r ?_, hm, D.kp⟩⟩
    obtain ⟨p, n, bv, bs, us, rfl, hl, y, t, k⟩ := h
    refine ⟨[.ref p], us, rfl, rfl, szl hl, fun q nq => ?_⟩
    have sn := same_new (o := .tup us) nq
    exact ⟨p, q, n, bv, bs, us, rfl, hl, .of upd_same, y.same sn, fun v hv => (t v hv).elim fun ws z => ⟨ws, z.1.same sn, z.2⟩, fun H' s' => k _ (sn.trans s')⟩
  · obtain ⟨p, t, n, bv, bs, us, rfl, hl, ht, y, tw, k⟩ := h
    refine ⟨_, PSs.nox (show PSs (cxOf CX0 P w K mg base _ "check_words" (defScope s_check_words) f cdv A outer s H E).nox (defBody s_check_words) _ from (pss_cons (ps_expr (pe_cal (cal_check_system T) (hr.mono (by decide)) (by rfl) (pa_cons (pv 0) pa_nil)))
      (pss_one (ps_for PassesOwn.never rfl (pi_tup (pv 1)) (pg_name (i := 2) sc_check_words.nd rfl (Or.inl rfl)) (pss_one (ps_expr (pe_cal (cal_check_word T) (hr.mono (by decide)) (by rfl) (pa_cons (pv 0) (pa_cons (pv 2) pa_nil))))))))), ?_⟩
    refine ⟨_, rfl, p, n, bv, bs, rfl, y, ?_⟩
    refine ⟨_, rfl, t, rfl, ⟨_, ht⟩, for_tup (K := K) (a := t) (xs := us) (fun i σ H' => Same H H' ∧ ∃ v2, σ = [some (.ref p), some (.ref t), v2]) ⟨.refl _, none, rfl⟩ (fun i σ H' _ h => sqT_same h.1 ht) ?_ ?_⟩
    · rintro i x σ H2 hx ⟨s2, v2, rfl⟩
      obtain ⟨ws, hws, wd⟩ := tw x (List.mem_of_getElem? hx)
      exact ⟨_, rfl, _, rfl, p, n, bv, bs, x, ws, rfl, y.same s2, hws.same s2, wd, fun H3 s3 => ⟨s2.trans s3, _, rfl⟩⟩
    · rintro σ H2 ⟨s2, v2, rfl⟩
      exact k _ s2
end
end Sk

namespace Sk
open PySem PySem.Spec PyProof.Rows L2 Ow
/-! a dict of the written part by whole numbers -/
def rKI (d : Addr) (es : Array DictEntry) : R2 := fun x y H Q => ∃ (k : Int) (u0 : Value) (v0 : V), x = .ref d ∧ y = .int k ∧ findBy Value.isInt es k = some u0 ∧ RelV v0 u0 ∧ Q v0 H
theorem ix_kint {X : Cx} {d : Addr} {es : Array DictEntry} {n : Nat} (hl : X.K.lookup d = some ⟨.type "dict", none, .dict es n, #[]⟩) (hk : IntKeys es) : IxR X (rKI d es) := by
  intro value slice pins s σ H x y v u Q I rx ry h hs
  obtain ⟨k, u0, v0, rfl, rfl, e, r, q⟩ := h
  cases rx
  obtain ⟨t, rfl⟩ := ry
  have hm : s.heap.IntMap d (fun k => findBy Value.isInt es k) := ⟨_, es, n, I.kIn _ _ hl, rfl, rfl, hk, fun _ => rfl⟩
  exact tail_any hm.typeIs slot_dict_getitem.lookup (wpAny_getItem_intMap hm e ⟨v0, H, I.tok _, r, q⟩) hs
end Sk
namespace Sk
open PySem L2 Ow
/-! lists of values, each by what it reads -/
def A2 {α : Type} (R : V → α → Prop) : List V → List α → Prop
  | [], [] => True
  | x :: xs, a :: as => R x a ∧ A2 R xs as
  | _, _ => False
theorem A2.imp {α : Type} {R S : V → α → Prop} (h : ∀ x a, R x a → S x a) : ∀ {xs : List V} {as : List α}, A2 R xs as → A2 S xs as
  | [], [], _ => trivial
  | _ :: _, _ :: _, z => ⟨h _ _ z.1, A2.imp h z.2⟩
theorem A2.len {α : Type} {R : V → α → Prop} : ∀ {xs : List V} {as : List α}, A2 R xs as → xs.length = as.length
  | [], [], _ => rfl
  | _ :: _, _ :: _, h => congrArg Nat.succ (A2.len h.2)
theorem A2.get {α : Type} {R : V → α → Prop} : ∀ {xs : List V} {as : List α} {i : Nat} {x : V}, A2 R xs as → xs[i]? = some x → ∃ a, as[i]? = some a ∧ R x a
  | x :: xs, n :: ns, 0, y, h, e => ⟨n, rfl, (show x = y by simpa using e) ▸ h.1⟩
  | x :: xs, n :: ns, i + 1, y, h, e => (A2.get (xs := xs) (as := ns) (i := i) h.2 (by simpa using e)).elim fun m z => ⟨m, by simpa using z.1, z.2⟩
  | [], [], i, y, _, e => by simp at e
theorem A2.at_ {α : Type} {R : V → α → Prop} : ∀ {xs : List V} {as : List α} {i : Nat} {a : α}, A2 R xs as → as[i]? = some a → ∃ x, xs[i]? = some x ∧ R x a
  | x :: xs, n :: ns, 0, y, h, e => ⟨x, rfl, (show n = y by simpa using e) ▸ h.1⟩
  | x :: xs, n :: ns, i + 1, y, h, e => (A2.at_ (xs := xs) (as := ns) (i := i) h.2 (by simpa using e)).elim fun m z => ⟨m, by simpa using z.1, z.2⟩
  | [], [], i, y, _, e => by simp at e
theorem A2.snoc {α : Type} {R : V → α → Prop} : ∀ {xs : List V} {as : List α} {x : V} {a : α}, A2 R xs as → R x a → A2 R (xs ++ [x]) (as ++ [a])
  | [], [], _, _, _, h => ⟨h, trivial⟩
  | _ :: _, _ :: _, _, _, h, k => ⟨h.1, A2.snoc h.2 k⟩
theorem A2.set {α : Type} {R : V → α → Prop} : ∀ {xs : List V} {as : List α} {i : Nat} {x : V} {a : α}, A2 R xs as → R x a → A2 R (xs.set i x) (as.set i a)
  | [], [], _, _, _, _, _ => trivial
  | _ :: _, _ :: _, 0, _, _, h, k => ⟨k, h.2⟩
  | _ :: _, _ :: _, i + 1, _, _, h, k => ⟨h.1, A2.set (i := i) h.2 k⟩
theorem A2.of_tis {K : PySem.W.Frag} {H : Hp} : ∀ {xs : List V} {as : List (List Int)}, TIs K H xs as → A2 (TI K H) xs as
  | [], [], _ => trivial
  | _ :: _, _ :: _, h => ⟨h.1, A2.of_tis h.2⟩
theorem A2.tis {K : PySem.W.Frag} {H : Hp} : ∀ {xs : List V} {as : List (List Int)}, A2 (TI K H) xs as → TIs K H xs as
  | [], [], _ => trivial
  | _ :: _, _ :: _, h => ⟨h.1, A2.tis h.2⟩
/-! factors -/
def bondOk (b : Int) : Prop := b = 0 ∨ b = 2 ∨ b = 3 ∨ b = 4 ∨ b = 5 ∨ b = 6
theorem bondOf_ok {n : Int} {bs : List (List Int)} (va : Valid n bs) (i j : Int) : bondOk (bondOf bs i j) := by
  unfold bondOf
  cases h : bs.filter (isPr i j) with
  | nil => exact .inr (.inl rfl)
  | cons t ts =>
    have hm : t ∈ bs.filter (isPr i j) := by rw [h]; simp
    obtain ⟨l, k, b, rfl, _, _, _, hb⟩ := va.tr t (List.mem_filter.mp hm).1
    show bondOk b
    unfold bondOk
    omega
def fac (bs : List (List Int)) (i j : Int) : List Int := if i < j then (facT (bondOf bs i j)).getD 0 [] else (facT (bondOf bs i j)).getD 1 []
theorem facT_two {b : Int} (h : bondOk b) : ∃ w p u q, facT b = [[w, p], [u, q]] ∧ 0 ≤ w ∧ w ≤ 3 ∧ 0 ≤ p ∧ p ≤ 1 ∧ 0 ≤ u ∧ u ≤ 3 ∧ 0 ≤ q ∧ q ≤ 1 := by
  unfold facT
  rcases h with rfl | rfl | rfl | rfl | rfl | rfl
  · exact ⟨_, _, _, _, rfl, by decide⟩
  · exact ⟨_, _, _, _, rfl, by decide⟩
  · exact ⟨_, _, _, _, rfl, by decide⟩
  · exact ⟨_, _, _, _, rfl, by decide⟩
  · exact ⟨_, _, _, _, rfl, by decide⟩
  · exact ⟨_, _, _, _, rfl, by decide⟩
theorem fac_two {n : Int} {bs : List (List Int)} (va : Valid n bs) (i j : Int) : ∃ w p, fac bs i j = [w, p] ∧ 0 ≤ w ∧ w ≤ 3 ∧ 0 ≤ p ∧ p ≤ 1 := by
  obtain ⟨w, p, u, q, e, h⟩ := facT_two (bondOf_ok va i j)
  unfold fac
  rw [e]
  by_cases c : i < j
  · rw [if_pos c]
    exact ⟨w, p, rfl, by omega⟩
  · rw [if_neg c]
    exact ⟨u, q, rfl, by omega⟩
def upto (n : Int) : List Int := (List.range n.toNat).map fun i : Nat => (0 : Int) + (i : Nat)
def oth (n l : Int) : List Int := (upto n).filter fun o => o != l
def nz (f : List Int) : Bool := f.getD 0 0 != 0 || f.getD 1 0 != 0
def trip (bs : List (List Int)) (n l : Int) : List (List Int) := ((oth n l).filter fun o => nz (fac bs o l)).map fun o => o :: fac bs o l
def lkOf (bs : List (List Int)) (n : Int) : List (List (List Int)) := (upto n).map fun l => trip bs n l
def PrAt (K : PySem.W.Frag) (H : Hp) (v : V) (d : Int × List Int) : Prop := ∃ a u, v = .ref a ∧ SqT K H a [.int d.1, u] ∧ TI K H u d.2
theorem PrAt.same {K : PySem.W.Frag} {H H' : Hp} {v : V} {d : Int × List Int} (h : PrAt K H v d) (s : Same H H') : PrAt K H' v d := h.elim fun a ⟨u, e, q, t⟩ => ⟨a, u, e, sqT_same s q, t.same s⟩
theorem PrAt.off {K : PySem.W.Frag} {D : Addr} {H H' : Hp} {acc : List V} {v : V} {d : Int × List Int} (h : PrAt K H v d) (o : Off D H H') (hD : H D = some (.lst acc)) : PrAt K H' v d := h.elim fun a ⟨u, e, q, t⟩ => ⟨a, u, e, o.sqT hD q, o.ti hD t⟩
/-- links: a tuple of tuples of triples -/
def LkAt (K : PySem.W.Frag) (H : Hp) (v : V) (lk : List (List (List Int))) : Prop := ∃ a xs, v = .ref a ∧ SqT K H a xs ∧ A2 (BsAt K H) xs lk
theorem LkAt.same {K : PySem.W.Frag} {H H' : Hp} {v : V} {lk : List (List (List Int))} (h : LkAt K H v lk) (s : Same H H') : LkAt K H' v lk := h.elim fun a ⟨xs, e, q, t⟩ => ⟨a, xs, e, sqT_same s q, t.imp fun _ _ z => z.same s⟩
def spFactor (K : PySem.W.Frag) (C : Addr) : Sp := fun vs H Q _ => ∃ (p : Addr) (n : Int) (bv : V) (bs : List (List Int)) (i j : Int), vs = [.ref p, .int i, .int j] ∧ SysAt K C H p n bv bs ∧ Valid n bs ∧ 0 ≤ i ∧ i < n ∧ 0 ≤ j ∧ j < n ∧ i ≠ j ∧
  ∀ v H', Same H H' → TI K H' v (fac bs i j) → Q v H'
def spOther (K : PySem.W.Frag) (C : Addr) : Sp := fun vs H Q _ => ∃ (p : Addr) (n : Int) (bv : V) (bs : List (List Int)) (l : Int), vs = [.ref p, .int l] ∧ SysAt K C H p n bv bs ∧ Valid n bs ∧
  ∀ a H', Same H H' → H' a = some (.lst ((oth n l).map V.int)) → Q (.ref a) H'
def spWZ (K : PySem.W.Frag) : Sp := fun vs H Q _ => ∃ (a : Addr) (xs : List V) (ds : List (Int × List Int)), vs = [.ref a] ∧ H a = some (.lst xs) ∧ A2 (PrAt K H) xs ds ∧ ds.length ≤ 100 ∧ (∀ d ∈ ds, ∃ w p, d.2 = [w, p]) ∧
  ∀ v H', Same H H' → BsAt K H' v ((ds.filter fun d => nz d.2).map fun d => d.1 :: d.2) → Q v H'
def spTrip (K : PySem.W.Frag) (C : Addr) : Sp := fun vs H Q _ => ∃ (p : Addr) (n : Int) (bv : V) (bs : List (List Int)) (l : Int), vs = [.ref p, .int l] ∧ SysAt K C H p n bv bs ∧ Valid n bs ∧ 0 ≤ l ∧ l < n ∧
  ∀ v H', Same H H' → BsAt K H' v (trip bs n l) → Q v H'
def spLinks (K : PySem.W.Frag) (C : Addr) : Sp := fun vs H Q _ => ∃ (p : Addr) (n : Int) (bv : V) (bs : List (List Int)), vs = [.ref p] ∧ SysAt K C H p n bv bs ∧ Valid n bs ∧
  ∀ v H', Same H H' → LkAt K H' v (lkOf bs n) → Q v H'
theorem upto_length (n : Int) : (upto n).length = n.toNat := by unfold upto; rw [List.length_map, List.length_range]
theorem upto_get {n : Int} {i : Nat} (h : i < n.toNat) : (upto n)[i]? = some ((0 : Int) + (i : Nat)) := by
  unfold upto
  rw [List.getElem?_map, List.getElem?_range h]
  rfl
theorem mem_upto {n x : Int} : x ∈ upto n ↔ 0 ≤ x ∧ x < n := by
  unfold upto
  rw [List.mem_map]
  constructor
  · rintro ⟨i, hi, rfl⟩
    have := List.mem_range.mp hi
    omega
  · rintro ⟨h1, h2⟩
    exact ⟨x.toNat, List.mem_range.mpr (by omega), by omega⟩
theorem mem_oth {n l x : Int} : x ∈ oth n l ↔ (0 ≤ x ∧ x < n) ∧ x ≠ l := by
  unfold oth
  rw [List.mem_filter, mem_upto]
  simp
theorem oth_length (n l : Int) : (oth n l).length ≤ n.toNat := by
  unfold oth
  exact Nat.le_trans (List.length_filter_le _ _) (by rw [upto_length]; exact Nat.le_refl _)
section
variable {P : Program} {w : World} {K : PySem.W.Frag} {mg : Str → Option Value} {base : Heap} {C : Addr}
theorem cal_factor (T : Txt K mg C) : Cal P w K mg base "factor" 3 (spFactor K C) := by
  refine T.d_factor.cal (ps := ["system", "one", "other"]) (fun f fd D => ?_) (fun _ _ _ _ _ _ us hl => match us, hl with | [_, _, _], _ => rfl)
  refine D.ok sc_factor (fun vs H Q E h => ?_) (fun cdv A outer s H vs Q E hr h => ?_)
  · obtain ⟨_, _, _, _, _, _, rfl, _⟩ := h
    rfl
  · obtain ⟨p, n, bv, bs, i, j, rfl, y, va, i0, i1, j0, j1, ne, k⟩ := h
    obtain ⟨dF, esF, nF, gF, lF, kF, hF⟩ := T.gF
    obtain ⟨dx, g⟩ := id y.1
    refine ⟨_, (pss_cons (ps_asg (pe_ix (show IxR _ (rKI dF esF) from ix_kint lF kF) (pe_bonds (by rfl) gF) (pe_bond_of T (hr.mono (by decide)) (pv 0) (pa_cons (pv 1) (pa_cons (pv 2) pa_nil))) (fun _ _ => rfl)) (pg_tup (by rfl) (pgs_cons (pg_name (i := 3) sc_factor.nd rfl (Or.inl rfl)) (pgs_cons (pg_name (i := 4) sc_factor.nd rfl (Or.inl rfl)) pgs_nil))))
      (pss_one (ps_ret (pe_ifExp (pt_cmpR op_lt (pv 1) (pv 2) (nomark _)) (pv 3) (pv 4))))), ?_⟩
    refine ⟨_, rfl, p, dx, _, rfl, g, sf_no _ _ (by decide +kernel) (by decide +kernel), _, rfl, _, rfl, p, n, bv, bs, i, j, rfl, y, va, i0, i1, j0, j1, ne, fun H1 s1 => ?_⟩
    obtain ⟨a, ha, hb⟩ := hF _ (bondOf_ok va i j)
    obtain ⟨w, q, u, z, e, _⟩ := facT_two (bondOf_ok va i j)
    have hb1 := hb H1
    rw [e] at hb1
    obtain ⟨a', xs, ea, hs, hx⟩ := hb1
    cases ea
    rcases xs with _ | ⟨x1, _ | ⟨x2, _ | ⟨x3, xs⟩⟩⟩
    · exact absurd hx id
    · exact absurd hx.2 id
    · refine ⟨_, _, .ref a, rfl, rfl, ha, rfl, _, _, rfl, hs, rfl, _, _, rfl, _, _, rfl, rfl, ?_⟩
      refine ⟨_, rfl, _, rfl, _, _, rfl, rfl, _, rfl, ite2 (fun c => ?_) (fun c => ?_)⟩
      · refine ⟨_, rfl, k _ _ s1 ?_⟩
        unfold fac
        rw [if_pos (of_decide_eq_true c), e]
        exact hx.1
      · refine ⟨_, rfl, k _ _ s1 ?_⟩
        unfold fac
        rw [if_neg (fun c' => c (decide_eq_true c')), e]
        exact hx.2.1
    · exact absurd hx.2.2 id
theorem cal_other_letters (T : Txt K mg C) : Cal P w K mg base "other_letters" 3 (spOther K C) := by
  refine T.d_other_letters.cal (ps := ["system", "letter"]) (fun f fd D => ?_) (fun _ _ _ _ _ _ us hl => match us, hl with | [_, _], _ => rfl)
  refine D.ok sc_other_letters (fun vs H Q E h => ?_) (fun cdv A outer s H vs Q E hr h => ?_)
  · obtain ⟨_, _, _, _, _, rfl, _⟩ := h
    rfl
  · obtain ⟨p, n, bv, bs, l, rfl, y, va, k⟩ := h
    obtain ⟨dx, g⟩ := id y.1
    have n1 := va.lo
    have n4 := va.hi
    refine ⟨_, (pss_one (ps_ret (pe_lc (own := [("other", 2)]) (g := gName 2) rfl sc_other_letters.nd (pi_range1 (by rfl) T.b_range (pa_cons (pe_sletters T (hr.mono (by decide)) (pv 0)) pa_nil)) (blkOk_by (own := [("other", 2)]) (N := ["system", "letter", "other"]) (sc := defScope s_other_letters) (by decide +kernel)) (fun _ _ _ _ _ => (pg_name (i := 2) sc_other_letters.nd rfl (Or.inl rfl))) (fun _ _ _ _ _ => (pts_one (pt_cmpR op_ne (pv 2) (pv 1) (nomark _)))) (fun _ _ _ _ _ => (pv 2))))), ?_⟩
    refine ⟨_, rfl, p, dx, _, rfl, g, p, n, bv, bs, rfl, y, _, rfl, by omega, by omega, fun D nD => lc_range (lo := 0) (n := n.toNat) (fun i H' => Same H H' ∧ H' D = some (.lst ((((upto n).take i).filter fun o => o != l).map V.int))) ⟨same_new nD, upd_same⟩ ?_ ?_⟩
    · rintro i H2 hi ⟨s2, hD⟩
      have hg := upto_get hi
      have hlen : (((upto n).take i).filter fun o => o != l).length ≤ 4 := Nat.le_trans (List.length_filter_le _ _) (by rw [List.length_take, upto_length]; omega)
      refine ⟨rfl, _, rfl, _, rfl, rfl, _, rfl, ite2 (fun c => ?_) (fun c => ?_)⟩
      · have c' : ((0 : Int) + (i : Nat) != l) = true := by
          rw [bne_iff_ne]
          intro e
          rw [e] at c
          simp at c
        refine ⟨_, rfl, _, hD, small1000 (by rw [List.length_map]; omega), same_off nD s2 off_upd, ?_⟩
        rw [upd_same, take_snoc hg, List.filter_append, List.filter_cons_of_pos (p := fun o => o != l) c', List.filter_nil, List.map_append]
        rfl
      · have c' : ¬ ((0 : Int) + (i : Nat) != l) = true := by
          rw [bne_iff_ne]
          intro e
          refine c ?_
          rw [decide_eq_false (fun z => e (V.int.inj z))]
          rfl
        refine ⟨s2, ?_⟩
        rw [take_snoc hg, List.filter_append, List.filter_cons_of_neg (p := fun o => o != l) c', List.filter_nil, List.append_nil]
        exact hD
    · rintro H2 ⟨s2, hD⟩
      rw [List.take_of_length_le (by rw [upto_length]; exact Nat.le_refl _)] at hD
      exact k _ _ s2 hD
end
end Sk

namespace Sk
open PySem L2 Ow
theorem A2.same {α : Type} {R S : V → α → Prop} {xs : List V} {as : List α} (h : A2 R xs as) (f : ∀ x a, R x a → S x a) : A2 S xs as := h.imp f
section
variable {P : Program} {w : World} {K : PySem.W.Frag} {mg : Str → Option Value} {base : Heap} {C : Addr}
theorem cal_without_zeros (T : Txt K mg C) : Cal P w K mg base "without_zeros" 1 (spWZ K) := by
  refine T.d_without_zeros.cal (ps := ["pairs"]) (fun f fd D => ?_) (fun _ _ _ _ _ _ us hl => match us, hl with | [_], _ => rfl)
  refine D.ok sc_without_zeros (fun vs H Q E h => ?_) (fun cdv A outer s H vs Q E hr h => ?_)
  · obtain ⟨_, _, _, rfl, _⟩ := h
    rfl
  · obtain ⟨a, xs, ds, rfl, ha, hx, hl, hd, k⟩ := h
    refine ⟨_, (pss_one (ps_ret (pe_callTy call_tuple_of (by rfl) T.b_tuple (by decide +kernel) (pa_cons (pe_lc (own := [("other", 1), ("whole", 2), ("part", 3)]) (g := gTup K 2 (gCons (gName 1) (gCons (gTup K 2 (gCons (gName 2) (gCons (gName 3) (gNil)))) (gNil)))) rfl sc_without_zeros.nd (pi_list (pv 0)) (blkOk_by (own := [("other", 1), ("whole", 2), ("part", 3)]) (N := ["pairs", "other", "whole", "part"]) (sc := defScope s_without_zeros) (by decide +kernel)) (fun _ _ _ _ _ => (pg_tup (by rfl) (pgs_cons (pg_name (i := 1) sc_without_zeros.nd rfl (Or.inl rfl)) (pgs_cons (pg_tup (by rfl) (pgs_cons (pg_name (i := 2) sc_without_zeros.nd rfl (Or.inl rfl)) (pgs_cons (pg_name (i := 3) sc_without_zeros.nd rfl (Or.inl rfl)) pgs_nil))) pgs_nil)))) (fun _ _ _ _ _ => (pts_one (PW.pt (pw_or (show PT _ _ (tTru K 2) from pt_truth (pv 2) (by intro _; rfl)) (pw_or1 (show PT _ _ (tTru K 3) from pt_truth (pv 3) (by intro _; rfl))))))) (fun _ _ _ _ _ => (pe_tup (pa_cons (pv 1) (pa_cons (pv 2) (pa_cons (pv 3) pa_nil)))))) pa_nil)))), ?_⟩
    refine ⟨_, rfl, a, rfl, ⟨_, .of ha⟩, fun D nD => lc_list (K := K) (a := a) (xs := xs) (fun i H' => Same H H' ∧ ∃ ys, H' D = some (.lst ys) ∧ TIs K H' ys (((ds.take i).filter fun d => nz d.2).map fun d => d.1 :: d.2)) ⟨same_new nD, [], upd_same, by simp [TIs]⟩ (fun i H' _ h => .of (h.1 _ _ ha)) ?_ ?_⟩
    · rintro i x H2 hi ⟨s2, ys, hD, hy⟩
      obtain ⟨d, hdg, hp⟩ := hx.get hi
      obtain ⟨b, u, rfl, hb, hu⟩ := hp.same s2
      obtain ⟨ww, pp, e2⟩ := hd d (List.mem_of_getElem? hdg)
      obtain ⟨d1, d2⟩ := d
      obtain rfl : d2 = [ww, pp] := e2
      obtain ⟨c, rfl, hc⟩ := hu
      have hlen := hy.len
      rw [List.length_map] at hlen
      have hl2 := List.length_filter_le (fun d : Int × List Int => nz d.2) (ds.take i)
      rw [List.length_take] at hl2
      have fin : nz [ww, pp] = true → ∀ t, H2 t = none → ∃ acc, (upd H2 t (.tup [.int d1, .int ww, .int pp])) D = some (.lst acc) ∧ acc.length < sizeLine ∧ Same H (upd (upd H2 t (.tup [.int d1, .int ww, .int pp])) D (.lst (acc ++ [.ref t]))) ∧ ∃ ys, upd (upd H2 t (.tup [.int d1, .int ww, .int pp])) D (.lst (acc ++ [.ref t])) D = some (.lst ys) ∧ TIs K (upd (upd H2 t (.tup [.int d1, .int ww, .int pp])) D (.lst (acc ++ [.ref t]))) ys (((ds.take (i + 1)).filter fun d => nz d.2).map fun d => d.1 :: d.2) := fun hz t nt => by
        have hD3 := same_new (o := .tup [.int d1, .int ww, .int pp]) nt _ _ hD
        refine ⟨ys, hD3, small1000 (by omega), same_off nD (s2.trans (same_new nt)) off_upd, _, upd_same, ?_⟩
        rw [take_snoc hdg, List.filter_append, List.filter_cons_of_pos (p := fun d : Int × List Int => nz d.2) hz, List.map_append]
        exact (off_upd.tis hD3 (hy.same (same_new nt))).snoc (off_upd.ti hD3 ⟨t, rfl, .of upd_same⟩)
      refine ⟨_, _, rfl, hb, rfl, _, _, rfl, _, _, rfl, _, _, rfl, hc, rfl, _, _, rfl, _, _, rfl, rfl, rfl, rfl, ?_⟩
      have tail : ∀ c : Bool, nz [ww, pp] = c → c = true → (2 : Nat) = 2 := fun _ _ _ => rfl
      refine ⟨_, rfl, (ww != 0), rfl, ite2 (fun hw => ?_) (fun hw => ?_)⟩
      · refine iteT ⟨_, rfl, _, rfl, _, rfl, show 3 ≤ sizeLine by decide, fun t nt => ?_⟩
        exact fin (by unfold nz; rw [show ([ww, pp] : List Int).getD 0 0 = ww from rfl, hw]; rfl) t nt
      · refine ⟨_, rfl, (pp != 0), rfl, ite2 (fun hq => ?_) (fun hq => ?_)⟩
        · refine ⟨_, rfl, _, rfl, _, rfl, show 3 ≤ sizeLine by decide, fun t nt => ?_⟩
          exact fin (by unfold nz; rw [show ([ww, pp] : List Int).getD 1 0 = pp from rfl, hq, Bool.or_true]) t nt
        · have hz : ¬ nz [ww, pp] = true := by
            unfold nz
            rw [show ([ww, pp] : List Int).getD 0 0 = ww from rfl, show ([ww, pp] : List Int).getD 1 0 = pp from rfl, Bool.eq_false_iff.mpr hw, Bool.eq_false_iff.mpr hq]
            decide
          refine ⟨s2, ys, hD, ?_⟩
          rw [take_snoc hdg, List.filter_append, List.filter_cons_of_neg (p := fun d : Int × List Int => nz d.2) hz, List.filter_nil, List.append_nil]
          exact hy
    · rintro H2 ⟨s2, ys, hD, hy⟩
      rw [show xs.length = ds.length from hx.len, List.take_length] at hy
      refine ⟨D, _, rfl, .inl ⟨.of hD, fun t nt => ?_⟩⟩
      exact k _ _ (s2.trans (same_new nt)) ⟨t, ys, rfl, .of upd_same, hy.same (same_new nt)⟩
theorem cal_triples_from (T : Txt K mg C) : Cal P w K mg base "triples_from" 4 (spTrip K C) := by
  refine T.d_triples_from.cal (ps := ["system", "letter"]) (fun f fd D => ?_) (fun _ _ _ _ _ _ us hl => match us, hl with | [_, _], _ => rfl)
  refine D.ok sc_triples_from (fun vs H Q E h => ?_) (fun cdv A outer s H vs Q E hr h => ?_)
  · obtain ⟨_, _, _, _, _, rfl, _⟩ := h
    rfl
  · obtain ⟨p, n, bv, bs, l, rfl, y, va, l0, l1, k⟩ := h
    have n4 := va.hi
    refine ⟨_, (pss_one (ps_ret (pe_cal (cal_without_zeros T) (hr.mono (by decide)) (by rfl) (pa_cons (pe_lc (own := [("other", 2)]) (g := gName 2) (tt := tYes) rfl sc_triples_from.nd (pi_list (pe_cal (cal_other_letters T) (hr.mono (by decide)) (by rfl) (pa_cons (pv 0) (pa_cons (pv 1) pa_nil)))) (blkOk_by (own := [("other", 2)]) (N := ["system", "letter", "other"]) (sc := defScope s_triples_from) (by decide +kernel)) (fun _ _ _ _ _ => (pg_name (i := 2) sc_triples_from.nd rfl (Or.inl rfl))) (fun _ _ _ _ _ => pts_nil) (fun _ _ _ _ _ => (pe_tup (pa_cons (pv 2) (pa_cons (pe_cal (cal_factor T) (hr.mono (by decide)) (by rfl) (pa_cons (pv 0) (pa_cons (pv 2) (pa_cons (pv 1) pa_nil)))) pa_nil))))) pa_nil)))), ?_⟩
    refine ⟨_, rfl, _, rfl, p, n, bv, bs, l, rfl, y, va, fun a H1 s1 ha => ?_⟩
    refine ⟨a, rfl, ⟨_, .of ha⟩, fun D nD => lc_list (K := K) (a := a) (xs := (oth n l).map V.int) (fun i H' => Same H1 H' ∧ ∃ ys, H' D = some (.lst ys) ∧ A2 (PrAt K H') ys (((oth n l).take i).map fun o => (o, fac bs o l))) ⟨same_new nD, [], upd_same, by simp [A2]⟩ (fun i H' _ h => .of (h.1 _ _ ha)) ?_ ?_⟩
    · rintro i x H2 hi ⟨s2, ys, hD, hy⟩
      have ilt := (List.getElem?_eq_some_iff.mp hi).1
      rw [List.length_map] at ilt
      have hg : (oth n l)[i]? = some (oth n l)[i] := List.getElem?_eq_getElem ilt
      rw [List.getElem?_map, hg] at hi
      obtain rfl : V.int (oth n l)[i] = x := Option.some.inj hi
      have mo := mem_oth.mp (List.getElem_mem ilt)
      have ol := oth_length n l
      have hlen := hy.len
      rw [List.length_map, List.length_take] at hlen
      refine ⟨rfl, _, rfl, _, rfl, _, rfl, _, rfl, p, n, bv, bs, _, _, rfl, (y.same s1).same s2, va, mo.1.1, mo.1.2, l0, l1, mo.2, fun v H3 s3 tv => ⟨show 2 ≤ sizeLine by decide, fun t nt => ?_⟩⟩
      have hD4 := same_new (o := .tup [.int (oth n l)[i], v]) nt _ _ (s3 _ _ hD)
      refine ⟨ys, hD4, small1000 (by omega), same_off nD ((s2.trans s3).trans (same_new nt)) off_upd, _, upd_same, ?_⟩
      rw [take_snoc hg, List.map_append]
      refine A2.snoc (hy.imp fun x a z => ((z.same s3).same (same_new nt)).off off_upd hD4) ?_
      exact PrAt.off ⟨t, v, rfl, .of upd_same, tv.same (same_new nt)⟩ off_upd hD4
    · rintro H2 ⟨s2, ys, hD, hy⟩
      rw [List.length_map, List.take_length] at hy
      have ol := oth_length n l
      refine ⟨D, ys, _, rfl, hD, hy, by rw [List.length_map]; omega, fun d hd => ?_, fun v H3 s3 hb => k _ _ ((s1.trans s2).trans s3) ?_⟩
      · obtain ⟨o, _, rfl⟩ := List.mem_map.mp hd
        obtain ⟨w, q, e, _⟩ := fac_two va o l
        exact ⟨w, q, e⟩
      · unfold trip
        rw [List.filter_map, List.map_map] at hb
        exact hb
theorem cal_links_of (T : Txt K mg C) : Cal P w K mg base "links_of" 5 (spLinks K C) := by
  refine T.d_links_of.cal (ps := ["system"]) (fun f fd D => ?_) (fun _ _ _ _ _ _ us hl => match us, hl with | [_], _ => rfl)
  refine D.ok sc_links_of (fun vs H Q E h => ?_) (fun cdv A outer s H vs Q E hr h => ?_)
  · obtain ⟨_, _, _, _, rfl, _⟩ := h
    rfl
  · obtain ⟨p, n, bv, bs, rfl, y, va, k⟩ := h
    obtain ⟨dx, g⟩ := id y.1
    have n1 := va.lo
    have n4 := va.hi
    refine ⟨_, (pss_one (ps_ret (pe_callTy call_tuple_of (by rfl) T.b_tuple (by decide +kernel) (pa_cons (pe_lc (own := [("letter", 1)]) (g := gName 1) (tt := tYes) rfl sc_links_of.nd (pi_range1 (by rfl) T.b_range (pa_cons (pe_sletters T (hr.mono (by decide)) (pv 0)) pa_nil)) (blkOk_by (own := [("letter", 1)]) (N := ["system", "letter"]) (sc := defScope s_links_of) (by decide +kernel)) (fun _ _ _ _ _ => (pg_name (i := 1) sc_links_of.nd rfl (Or.inl rfl))) (fun _ _ _ _ _ => pts_nil) (fun _ _ _ _ _ => (pe_cal (cal_triples_from T) (hr.mono (by decide)) (by rfl) (pa_cons (pv 0) (pa_cons (pv 1) pa_nil))))) pa_nil)))), ?_⟩
    refine ⟨_, rfl, p, dx, _, rfl, g, p, n, bv, bs, rfl, y, _, rfl, by omega, by omega, fun D nD => lc_range (lo := 0) (n := n.toNat) (fun i H' => Same H H' ∧ ∃ ys, H' D = some (.lst ys) ∧ A2 (BsAt K H') ys (((upto n).take i).map fun l => trip bs n l)) ⟨same_new nD, [], upd_same, by simp [A2]⟩ ?_ ?_⟩
    · rintro i H2 hi ⟨s2, ys, hD, hy⟩
      have hg := upto_get hi
      have hlen := hy.len
      rw [List.length_map, List.length_take, upto_length] at hlen
      refine ⟨rfl, _, rfl, _, rfl, p, n, bv, bs, _, rfl, y.same s2, va, by omega, by omega, fun v H3 s3 hb => ?_⟩
      have hD3 := s3 _ _ hD
      refine ⟨ys, hD3, small1000 (by omega), same_off nD (s2.trans s3) off_upd, _, upd_same, ?_⟩
      rw [take_snoc hg, List.map_append]
      exact A2.snoc (hy.imp fun x a z => off_upd.bs hD3 (z.same s3)) (off_upd.bs hD3 hb)
    · rintro H2 ⟨s2, ys, hD, hy⟩
      rw [List.take_of_length_le (by rw [upto_length]; exact Nat.le_refl _)] at hy
      refine ⟨D, _, rfl, .inl ⟨.of hD, fun t nt => ?_⟩⟩
      exact k _ _ (s2.trans (same_new nt)) ⟨t, ys, rfl, .of upd_same, hy.imp fun x a z => z.same (same_new nt)⟩
end
end Sk

namespace Sk
open PySem L2 Ow
/-! states and their steps -/
def step1 (w p : Int) (ns : List (List Int)) (t : List Int) : List (List Int) :=
  ns.set (t.getD 0 0).toNat [(ns.getD (t.getD 0 0).toNat []).getD 0 0 + t.getD 1 0 * w + t.getD 2 0 * p, (ns.getD (t.getD 0 0).toNat []).getD 1 0 + t.getD 1 0 * p + t.getD 2 0 * (w + p)]
theorem step1_eq {w p o m g a b : Int} {ns : List (List Int)} (e : ns.getD o.toNat [] = [a, b]) : step1 w p ns [o, m, g] = ns.set o.toNat [a + m * w + g * p, b + m * p + g * (w + p)] := by
  show ns.set o.toNat [(ns.getD o.toNat []).getD 0 0 + m * w + g * p, (ns.getD o.toNat []).getD 1 0 + m * p + g * (w + p)] = _
  rw [e]
  rfl
def putA (lk : List (List (List Int))) (st : List (List Int)) (l : Int) : List (List Int) :=
  (lk.getD l.toNat []).foldl (step1 ((st.getD l.toNat []).getD 0 0) ((st.getD l.toNat []).getD 1 0)) (st.set l.toNat [-(st.getD l.toNat []).getD 0 0, -(st.getD l.toNat []).getD 1 0])
def aheadW (lk : List (List (List Int))) (st : List (List Int)) (ws : List Int) : List (List Int) := ws.reverse.foldl (putA lk) st
def first (n : Nat) : List (List Int) := List.replicate n [1, 0]
structure StOk (n : Nat) (st : List (List Int)) : Prop where
  len : st.length = n
  two : ∀ x ∈ st, ∃ w p, x = [w, p]
def trio (n : Nat) (x : List Int) : Prop := ∃ o m g, x = [o, m, g] ∧ 0 ≤ o ∧ o < n ∧ 0 ≤ m ∧ m ≤ 3 ∧ 0 ≤ g ∧ g ≤ 3
structure LkOk (n : Nat) (lk : List (List (List Int))) : Prop where
  len : lk.length = n
  few : n ≤ 100
  tri : ∀ t ∈ lk, ∀ x ∈ t, trio n x
theorem StOk.at_ {n : Nat} {st : List (List Int)} (h : StOk n st) {i : Nat} (hi : i < n) : ∃ w p, st[i]? = some [w, p] ∧ st.getD i [] = [w, p] := by
  have hl : i < st.length := by rw [h.len]; exact hi
  obtain ⟨w, p, e⟩ := h.two _ (List.getElem_mem hl)
  have e1 : st[i]? = some [w, p] := by rw [List.getElem?_eq_getElem hl, e]
  exact ⟨w, p, e1, by rw [List.getD_eq_getElem?_getD, e1]; rfl⟩
theorem StOk.set {n : Nat} {st : List (List Int)} (h : StOk n st) (i : Nat) (a b : Int) : StOk n (st.set i [a, b]) := by
  refine ⟨by rw [List.length_set]; exact h.len, fun x hx => ?_⟩
  rcases List.mem_or_eq_of_mem_set hx with hx | rfl
  · exact h.two x hx
  · exact ⟨a, b, rfl⟩
theorem StOk.fold {n : Nat} {w p : Int} : ∀ {ts : List (List Int)} {st : List (List Int)}, StOk n st → StOk n (ts.foldl (step1 w p) st)
  | [], _, h => h
  | t :: ts, st, h => StOk.fold (ts := ts) (st := step1 w p st t) (h.set _ _ _)
theorem StOk.put {n : Nat} {st : List (List Int)} (h : StOk n st) (lk : List (List (List Int))) (l : Int) : StOk n (putA lk st l) := (h.set _ _ _).fold
theorem StOk.ahead {n : Nat} (lk : List (List (List Int))) : ∀ (ws : List Int) {st : List (List Int)}, StOk n st → StOk n (ws.foldl (putA lk) st)
  | [], _, h => h
  | w :: ws, st, h => StOk.ahead lk ws (h.put lk w)
theorem StOk.first (n : Nat) : StOk n (first n) := ⟨List.length_replicate, fun x hx => ⟨1, 0, (List.mem_replicate.mp hx).2⟩⟩
theorem lkOf_ok {n : Int} {bs : List (List Int)} (va : Valid n bs) : LkOk n.toNat (lkOf bs n) := by
  have h1 := va.lo
  have h4 := va.hi
  refine ⟨by unfold lkOf; rw [List.length_map, upto_length], by omega, fun t ht x hx => ?_⟩
  unfold lkOf at ht
  obtain ⟨l, _, rfl⟩ := List.mem_map.mp ht
  unfold trip at hx
  obtain ⟨o, ho, rfl⟩ := List.mem_map.mp hx
  have hm := mem_oth.mp (List.mem_filter.mp ho).1
  obtain ⟨w, p, e, b⟩ := fac_two va o l
  rw [e]
  exact ⟨o, w, p, rfl, by omega, by omega, by omega, by omega, by omega, by omega⟩
theorem ixI {xs : List V} {l : Int} {x : V} (h0 : 0 ≤ l) (h : xs[l.toNat]? = some x) : atI xs l = some x := at_of (j := l.toNat) (by omega) h
theorem ixN_ok {n : Nat} {l : Int} (h0 : 0 ≤ l) (h1 : l < n) : ixN n l = some l.toNat := by unfold ixN; rw [if_pos h0, if_pos h1]
def spFirst (K : PySem.W.Frag) : Sp := fun vs H Q _ => ∃ (v : V) (lk : List (List (List Int))), vs = [v] ∧ LkAt K H v lk ∧ lk.length ≤ 100 ∧ ∀ v' H', Same H H' → BsAt K H' v' (first lk.length) → Q v' H'
def spPut (K : PySem.W.Frag) : Sp := fun vs H Q _ => ∃ (lv sv : V) (l : Int) (n : Nat) (lk : List (List (List Int))) (st : List (List Int)), vs = [lv, sv, .int l] ∧ LkAt K H lv lk ∧ BsAt K H sv st ∧ LkOk n lk ∧ StOk n st ∧ 0 ≤ l ∧ l < n ∧
  ∀ v H', Same H H' → BsAt K H' v (putA lk st l) → Q v H'
def spAhead (K : PySem.W.Frag) : Sp := fun vs H Q _ => ∃ (lv sv wv : V) (ws : List Int) (n : Nat) (lk : List (List (List Int))) (st : List (List Int)), vs = [lv, sv, wv] ∧ LkAt K H lv lk ∧ BsAt K H sv st ∧ TI K H wv ws ∧ LkOk n lk ∧ StOk n st ∧ (∀ x ∈ ws, 0 ≤ x ∧ x < n) ∧ ws.length ≤ 1000 ∧
  ∀ v H', Same H H' → BsAt K H' v (aheadW lk st ws) → Q v H'
def spState (K : PySem.W.Frag) : Sp := fun vs H Q _ => ∃ (lv wv : V) (ws : List Int) (n : Nat) (lk : List (List (List Int))), vs = [lv, wv] ∧ LkAt K H lv lk ∧ TI K H wv ws ∧ LkOk n lk ∧ (∀ x ∈ ws, 0 ≤ x ∧ x < n) ∧ ws.length ≤ 1000 ∧
  ∀ v H', Same H H' → BsAt K H' v (aheadW lk (first n) ws) → Q v H'
section
variable {P : Program} {w : World} {K : PySem.W.Frag} {mg : Str → Option Value} {base : Heap} {C : Addr}
theorem cal_first_state (T : Txt K mg C) : Cal P w K mg base "first_state" 1 (spFirst K) := by
  refine T.d_first_state.cal (ps := ["links"]) (fun f fd D => ?_) (fun _ _ _ _ _ _ us hl => match us, hl with | [_], _ => rfl)
  refine D.ok sc_first_state (fun vs H Q E h => ?_) (fun cdv A outer s H vs Q E hr h => ?_)
  · obtain ⟨_, _, rfl, _⟩ := h
    rfl
  · obtain ⟨_, lk, rfl, ⟨a, xs, rfl, ha, hx⟩, hl, k⟩ := h
    have hxl := hx.len
    refine ⟨_, (pss_one (ps_ret (pe_callTy call_tuple_of (by rfl) T.b_tuple (by decide +kernel) (pa_cons (pe_lc (own := [("_", 1)]) (g := gName 1) (tt := tYes) rfl sc_first_state.nd (pi_tup (pv 0)) (blkOk_by (own := [("_", 1)]) (N := ["links", "_"]) (sc := defScope s_first_state) (by decide +kernel)) (fun _ _ _ _ _ => (pg_name (i := 1) sc_first_state.nd rfl (Or.inl rfl))) (fun _ _ _ _ _ => pts_nil) (fun _ _ _ _ _ => (pe_tup (pa_cons pe_int (pa_cons pe_int pa_nil))))) pa_nil)))), ?_⟩
    refine ⟨_, rfl, a, rfl, ⟨_, ha⟩, fun D nD => lc_tup (K := K) (a := a) (xs := xs) (fun i H' => Same H H' ∧ ∃ ys, H' D = some (.lst ys) ∧ TIs K H' ys (first i)) ⟨same_new nD, [], upd_same, trivial⟩ (fun i H' _ h => sqT_same h.1 ha) ?_ ?_⟩
    · rintro i x H2 hi ⟨s2, ys, hD, hy⟩
      have ilt := (List.getElem?_eq_some_iff.mp hi).1
      have hlen : ys.length = i := by rw [hy.len]; unfold first; rw [List.length_replicate]
      refine ⟨rfl, show 2 ≤ sizeLine by decide, fun t nt => ?_⟩
      have hD3 := same_new (o := .tup [.int 1, .int 0]) nt _ _ hD
      refine ⟨ys, hD3, small1000 (by omega), same_off nD (s2.trans (same_new nt)) off_upd, _, upd_same, ?_⟩
      rw [show first (i + 1) = first i ++ [[1, 0]] from List.replicate_succ']
      exact (off_upd.tis hD3 (hy.same (same_new nt))).snoc (off_upd.ti hD3 ⟨t, rfl, .of upd_same⟩)
    · rintro H2 ⟨s2, ys, hD, hy⟩
      rw [hxl] at hy
      refine ⟨D, _, rfl, .inl ⟨.of hD, fun t nt => ?_⟩⟩
      exact k _ _ (s2.trans (same_new nt)) ⟨t, ys, rfl, .of upd_same, hy.same (same_new nt)⟩
theorem cal_put_ahead (T : Txt K mg C) : Cal P w K mg base "put_ahead" 1 (spPut K) := by
  refine T.d_put_ahead.cal (ps := ["links", "state", "letter"]) (fun f fd D => ?_) (fun _ _ _ _ _ _ us hl => match us, hl with | [_, _, _], _ => rfl)
  refine D.ok sc_put_ahead (fun vs H Q E h => ?_) (fun cdv A outer s H vs Q E hr h => ?_)
  · obtain ⟨_, _, _, _, _, _, rfl, _⟩ := h
    rfl
  · obtain ⟨_, _, l, n, lk, st, rfl, ⟨la, lx, rfl, hla, hlx⟩, ⟨sa, sx, rfl, hsa, hsx⟩, hlk, hst, l0, l1, k⟩ := h
    have l1' : l.toNat < n := by omega
    have sl : sx.length = n := by rw [hsx.len, hst.len]
    obtain ⟨w, p, hst1, hst2⟩ := hst.at_ l1'
    obtain ⟨x, hx, tx⟩ := (A2.of_tis hsx).at_ hst1
    obtain ⟨xa, rfl, hxa⟩ := tx
    have hlkl : l.toNat < lk.length := by rw [hlk.len]; exact l1'
    obtain ⟨tv, htv, tb⟩ := hlx.at_ (List.getElem?_eq_getElem hlkl)
    obtain ⟨ta, tx, rfl, hta, htx⟩ := tb
    have hgl : lk.getD l.toNat [] = lk[l.toNat] := by rw [List.getD_eq_getElem?_getD, List.getElem?_eq_getElem hlkl]; rfl
    have few := hlk.few
    refine ⟨_, (pss_cons (ps_asg (pe_ix ix_tup (pv 1) (pv 2) (fun _ _ => rfl)) (pg_tup (by rfl) (pgs_cons (pg_name (i := 3) sc_put_ahead.nd rfl (Or.inl rfl)) (pgs_cons (pg_name (i := 4) sc_put_ahead.nd rfl (Or.inl rfl)) pgs_nil))))
      (pss_cons (ps_set (i := 5) sc_put_ahead.nd rfl (Or.inl rfl) (pe_callTy call_list_of (by rfl) T.b_list (by decide +kernel) (pa_cons (pv 1) pa_nil)))
      (pss_cons (ps_asg (pe_tup (pa_cons (pe_un un_neg (pv 3)) (pa_cons (pe_un un_neg (pv 4)) pa_nil))) (pg_sub (pv 5) (pv 2) set_list))
      (pss_cons (ps_for PassesOwn.never rfl (pi_tup (pe_ix ix_tup (pv 0) (pv 2) (fun _ _ => rfl))) (pg_tup (by rfl) (pgs_cons (pg_name (i := 6) sc_put_ahead.nd rfl (Or.inl rfl)) (pgs_cons (pg_name (i := 7) sc_put_ahead.nd rfl (Or.inl rfl)) (pgs_cons (pg_name (i := 8) sc_put_ahead.nd rfl (Or.inl rfl)) pgs_nil)))) (pss_cons (ps_asg (pe_ix ix_list (pv 5) (pv 6) (fun _ _ => rfl)) (pg_tup (by rfl) (pgs_cons (pg_name (i := 9) sc_put_ahead.nd rfl (Or.inl rfl)) (pgs_cons (pg_name (i := 10) sc_put_ahead.nd rfl (Or.inl rfl)) pgs_nil))))
      (pss_one (ps_asg (pe_tup (pa_cons (pe_op op_add (pe_op op_add (pv 9) (pe_op op_mul (pv 7) (pv 3))) (pe_op op_mul (pv 8) (pv 4))) (pa_cons (pe_op op_add (pe_op op_add (pv 10) (pe_op op_mul (pv 7) (pv 4))) (pe_op op_mul (pv 8) (pe_op op_add (pv 3) (pv 4)))) pa_nil))) (pg_sub (pv 5) (pv 6) set_list)))))
      (pss_one (ps_ret (pe_callTy call_tuple_of (by rfl) T.b_tuple (by decide +kernel) (pa_cons (pv 5) pa_nil)))))))), ?_⟩
    refine ⟨_, rfl, _, rfl, sa, sx, l, .ref xa, rfl, rfl, hsa, ixI l0 hx, _, _, rfl, hxa, rfl, _, _, rfl, _, _, rfl, rfl, ?_⟩
    refine ⟨_, rfl, sa, sx, rfl, .inr hsa, fun N nN => ?_⟩
    have sN := same_new (o := .lst sx) nN
    refine ⟨_, rfl, _, rfl, _, rfl, _, rfl, show 2 ≤ sizeLine by decide, fun t nt => ?_⟩
    have sNt := sN.trans (same_new (o := .tup [.int (-w), .int (-p)]) nt)
    have hN1 : (upd (upd H N (.lst sx)) t (.tup [.int (-w), .int (-p)])) N = some (.lst sx) := same_new nt _ _ upd_same
    refine ⟨_, rfl, _, rfl, N, sx, l, l.toNat, rfl, rfl, hN1, ixN_ok l0 (by omega), ?_⟩
    have s1 : Same H (upd (upd (upd H N (.lst sx)) t (.tup [.int (-w), .int (-p)])) N (.lst (sx.set l.toNat (.ref t)))) := same_off nN sNt off_upd
    have hy0 : TIs K (upd (upd (upd H N (.lst sx)) t (.tup [.int (-w), .int (-p)])) N (.lst (sx.set l.toNat (.ref t)))) (sx.set l.toNat (.ref t)) (st.set l.toNat [-w, -p]) :=
      (A2.set (A2.of_tis (off_upd.tis hN1 (hsx.same sNt))) (off_upd.ti hN1 ⟨t, rfl, .of upd_same⟩)).tis
    refine ⟨_, rfl, _, rfl, la, lx, l, .ref ta, rfl, rfl, sqT_same s1 hla, ixI l0 htv, ta, rfl, ⟨_, sqT_same s1 hta⟩, for_tup (K := K) (a := ta) (xs := tx) (fun i σ H' => ∃ (ys : List V) (v6 v7 v8 v9 v10 : Option V), σ = [some (.ref la), some (.ref sa), some (.int l), some (.int w), some (.int p), some (.ref N), v6, v7, v8, v9, v10] ∧ Same H H' ∧ H' N = some (.lst ys) ∧ TIs K H' ys ((lk[l.toNat].take i).foldl (step1 w p) (st.set l.toNat [-w, -p])))
      ⟨_, none, none, none, none, none, rfl, s1, upd_same, hy0⟩ (fun i σ H' _ h => by obtain ⟨_, _, _, _, _, _, _, h, _⟩ := h; exact sqT_same h hta) ?_ ?_⟩
    · rintro i x σ H2 hi ⟨ys, v6, v7, v8, v9, v10, rfl, s2, hN, hy⟩
      obtain ⟨tr, htr, tx⟩ := htx.get hi
      obtain ⟨o, m, g, rfl, o0, o1, m0, m1, g0, g1⟩ := hlk.tri _ (List.getElem_mem hlkl) _ (List.mem_of_getElem? htr)
      obtain ⟨b, rfl, hb⟩ := tx.same s2
      have hok : StOk n ((lk[l.toNat].take i).foldl (step1 w p) (st.set l.toNat [-w, -p])) := (hst.set _ _ _).fold
      obtain ⟨a1, b1, e1, e2⟩ := hok.at_ (i := o.toNat) (by omega)
      obtain ⟨z, hz, tz⟩ := (A2.of_tis hy).at_ e1
      obtain ⟨za, rfl, hza⟩ := tz
      have yl : ys.length = n := by rw [hy.len, hok.len]
      refine ⟨_, _, rfl, hb, rfl, _, _, rfl, _, _, rfl, _, _, rfl, rfl, ?_⟩
      refine ⟨_, rfl, _, rfl, N, ys, o, .ref za, rfl, rfl, .of hN, ixI o0 hz, _, _, rfl, hza, rfl, _, _, rfl, _, _, rfl, rfl, ?_⟩
      refine ⟨_, rfl, _, rfl, _, rfl, _, _, rfl, rfl, .inl ⟨by omega, by omega⟩, _, _, rfl, rfl, _, rfl, _, rfl, _, _, rfl, rfl, .inl ⟨by omega, by omega⟩, _, _, rfl, rfl, ?_⟩
      refine ⟨_, rfl, _, rfl, _, rfl, _, _, rfl, rfl, .inl ⟨by omega, by omega⟩, _, _, rfl, rfl, _, rfl, _, rfl, _, rfl, _, _, rfl, rfl, _, _, rfl, rfl, .inl ⟨by omega, by omega⟩, _, _, rfl, rfl, show 2 ≤ sizeLine by decide, fun t2 nt2 => ?_⟩
      have s3 := same_new (o := .tup [.int (a1 + m * w + g * p), .int (b1 + m * p + g * (w + p))]) nt2
      have hN3 := s3 _ _ hN
      refine ⟨_, rfl, _, rfl, N, ys, o, o.toNat, rfl, rfl, hN3, ixN_ok o0 (by omega), ?_⟩
      refine ⟨_, _, _, _, _, _, rfl, same_off nN (s2.trans s3) off_upd, upd_same, ?_⟩
      rw [take_snoc htr, List.foldl_append]
      show TIs K _ _ (step1 w p _ [o, m, g])
      rw [step1_eq e2]
      exact (A2.set (A2.of_tis (off_upd.tis hN3 (hy.same s3))) (off_upd.ti hN3 ⟨t2, rfl, .of upd_same⟩)).tis
    · rintro σ H2 ⟨ys, v6, v7, v8, v9, v10, rfl, s2, hN, hy⟩
      refine ⟨_, rfl, N, ys, rfl, .inl ⟨.of hN, fun t2 nt2 => ?_⟩⟩
      refine k _ _ (s2.trans (same_new nt2)) ⟨t2, ys, rfl, .of upd_same, ?_⟩
      have hx := hy.same (same_new (o := .tup ys) nt2)
      rw [htx.len, List.take_length] at hx
      unfold putA
      rw [hgl, hst2]
      exact hx
theorem cal_word_ahead (T : Txt K mg C) : Cal P w K mg base "word_ahead" 2 (spAhead K) := by
  refine T.d_word_ahead.cal (ps := ["links", "state", "word"]) (fun f fd D => ?_) (fun _ _ _ _ _ _ us hl => match us, hl with | [_, _, _], _ => rfl)
  refine D.ok sc_word_ahead (fun vs H Q E h => ?_) (fun cdv A outer s H vs Q E hr h => ?_)
  · obtain ⟨_, _, _, _, _, _, _, rfl, _⟩ := h
    rfl
  · obtain ⟨lv, sv, _, ws, n, lk, st, rfl, hlv, hsv, ⟨wa, rfl, hwa⟩, hlk, hst, hws, hw, k⟩ := h
    refine ⟨_, (pss_cons (ps_for PassesOwn.never rfl (pi_tup (pe_revT (pv 2))) (pg_name (i := 3) sc_word_ahead.nd rfl (Or.inl rfl)) (pss_one (ps_set (i := 1) sc_word_ahead.nd rfl (Or.inl rfl) (pe_cal (cal_put_ahead T) (hr.mono (by decide)) (by rfl) (pa_cons (pv 0) (pa_cons (pv 1) (pa_cons (pv 3) pa_nil)))))))
      (pss_one (ps_ret (pv 1)))), ?_⟩
    refine ⟨_, rfl, wa, _, rfl, hwa, fun r nr => ?_⟩
    have s1 := same_new (o := .tup (ws.map V.int).reverse) nr
    refine ⟨r, rfl, ⟨_, .of upd_same⟩, for_tup (K := K) (a := r) (xs := (ws.map V.int).reverse) (fun i σ H' => ∃ (v : V) (v3 : Option V), σ = [some lv, some v, some (.ref wa), v3] ∧ Same (upd H r (.tup (ws.map V.int).reverse)) H' ∧ BsAt K H' v ((ws.reverse.take i).foldl (putA lk) st)) ⟨sv, none, rfl, .refl _, hsv.same s1⟩ (fun i σ H' _ h => by obtain ⟨_, _, _, h, _⟩ := h; exact sqT_same h (.of upd_same)) ?_ ?_⟩
    · rintro i x σ H2 hi ⟨v, v3, rfl, s2, hb⟩
      rw [← List.map_reverse, List.getElem?_map] at hi
      obtain ⟨c, hc, rfl⟩ := Option.map_eq_some_iff.mp hi
      have hcm := hws c (List.mem_reverse.mp (List.mem_of_getElem? hc))
      refine ⟨_, rfl, _, rfl, _, rfl, lv, v, c, n, lk, _, rfl, (hlv.same s1).same s2, hb, hlk, StOk.ahead lk _ hst, hcm.1, hcm.2, fun v' H3 s3 hb3 => ?_⟩
      refine ⟨v', _, rfl, s2.trans s3, ?_⟩
      rw [take_snoc hc, List.foldl_append]
      exact hb3
    · rintro σ H2 ⟨v, v3, rfl, s2, hb⟩
      rw [List.length_reverse, List.length_map, List.take_of_length_le (by rw [List.length_reverse]; exact Nat.le_refl _)] at hb
      exact ⟨_, rfl, k _ _ (s1.trans s2) hb⟩
theorem cal_state_of (T : Txt K mg C) : Cal P w K mg base "state_of" 3 (spState K) := by
  refine T.d_state_of.cal (ps := ["links", "word"]) (fun f fd D => ?_) (fun _ _ _ _ _ _ us hl => match us, hl with | [_, _], _ => rfl)
  refine D.ok sc_state_of (fun vs H Q E h => ?_) (fun cdv A outer s H vs Q E hr h => ?_)
  · obtain ⟨_, _, _, _, _, rfl, _⟩ := h
    rfl
  · obtain ⟨lv, wv, ws, n, lk, rfl, hlv, hwv, hlk, hws, hw, k⟩ := h
    have hl := hlk.len
    have few := hlk.few
    refine ⟨_, (pss_one (ps_ret (pe_cal (cal_word_ahead T) (hr.mono (by decide)) (by rfl) (pa_cons (pv 0) (pa_cons (pe_cal (cal_first_state T) (hr.mono (by decide)) (by rfl) (pa_cons (pv 0) pa_nil)) (pa_cons (pv 1) pa_nil)))))), ?_⟩
    refine ⟨_, rfl, _, rfl, lv, lk, rfl, hlv, by omega, fun v H1 s1 hb => ?_⟩
    rw [hl] at hb
    exact ⟨_, rfl, lv, v, wv, ws, n, lk, _, rfl, hlv.same s1, hb, hwv.same s1, hlk, .first n, hws, hw, fun v' H2 s2 hb2 => k _ _ (s1.trans s2) hb2⟩
end
end Sk

namespace Sk
open PySem L2 Ow
def B (n : Nat) (i : Int) : Prop := i.natAbs < 2 ^ n
theorem B.mono {n m : Nat} {i : Int} (h : B n i) (k : n ≤ m) : B m i := Nat.lt_of_lt_of_le h (Nat.pow_le_pow_right (by decide) k)
theorem B.mul {n m : Nat} {i j : Int} (h : B n i) (k : B m j) : B (n + m) (i * j) := wide_lt h k
theorem B.add {n : Nat} {i j : Int} (h : B n i) (k : B n j) : B (n + 1) (i + j) := by
  unfold B at *
  rw [Nat.pow_succ]
  omega
theorem B.sub {n : Nat} {i j : Int} (h : B n i) (k : B n j) : B (n + 1) (i - j) := by
  unfold B at *
  rw [Nat.pow_succ]
  omega
theorem B.neg {n : Nat} {i : Int} (h : B n i) : B n (-i) := by
  unfold B at *
  omega
theorem B.ok {n m : Nat} {i j : Int} (h : B n i) (k : B m j) (hn : 0 < n := by decide) (hm : 0 < m := by decide) (hs : n + m ≤ 1000000 := by decide) : CMulW i j := wide_mul h k hn hm hs
theorem B.lit {n : Nat} (i : Int) (h : i.natAbs < 2 ^ n := by decide) : B n i := h

theorem ite_and {c d : Bool} {A B X Y : Prop} (hx : (if d = true then A else B) → X) (hy : B → Y) (h1 : c = true → d = true → A) (h2 : ¬ (c = true ∧ d = true) → B) : if c = true then X else Y := by
  cases c with
  | false => exact iteF (hy (h2 fun z => Bool.noConfusion z.1))
  | true =>
    refine iteT (hx ?_)
    cases d with
    | false => exact iteF (h2 fun z => Bool.noConfusion z.2)
    | true => exact iteT (h1 rfl rfl)
theorem vi_eq {i j : Int} (h : decide (V.int i = V.int j) = true) : i = j := V.int.inj (of_decide_eq_true h)
theorem vi_of {i j : Int} (h : i = j) : decide (V.int i = V.int j) = true := decide_eq_true (by rw [h])

def spSenseOf : Sp := fun vs H Q _ => ∃ a b : Int, vs = [.int a, .int b] ∧ B 1000 a ∧ B 1000 b ∧ Q (.int (Gd.gsI a b)) H
/-- below 0, of a number's two whole numbers -/
def bel (x : List Int) : Bool := if x.getD 1 0 = 0 then decide (x.getD 0 0 < 0) else decide (Gd.gsI (x.getD 0 0) (x.getD 1 0) < 0)
def FineN (x : List Int) : Prop := x.getD 1 0 = 0 ∨ (B 1000 (x.getD 0 0) ∧ B 1000 (x.getD 1 0))
def Fine (st : List (List Int)) : Prop := ∀ x ∈ st, FineN x
def lefts (st : List (List Int)) : List Int := (upto st.length).filter fun i => bel (st.getD i.toNat [])
def lenAt (H : Hp) (l : Addr) : Nat := match H l with
  | some (.lst xs) => xs.length
  | _ => 0
/-- the letters that are taken, one behind the other, until none is left -/
inductive Runs (lk : List (List (List Int))) : List (List Int) → List Int → Prop
  | done {st : List (List Int)} : Fine st → lefts st = [] → Runs lk st []
  | step {st : List (List Int)} {l : Int} {r ws : List Int} : Fine st → lefts st = l :: r → Runs lk (putA lk st l) ws → Runs lk st (l :: ws)
theorem Runs.fine {lk : List (List (List Int))} {st : List (List Int)} {ws : List Int} (h : Runs lk st ws) : Fine st := by cases h <;> assumption
def spBelow (K : PySem.W.Frag) : Sp := fun vs H Q _ => ∃ (v : V) (x : List Int), vs = [v] ∧ TI K H v x ∧ x.length = 2 ∧ FineN x ∧ Q (.bl (bel x)) H
def spLeft (K : PySem.W.Frag) : Sp := fun vs H Q _ => ∃ (v : V) (st : List (List Int)) (n : Nat), vs = [v] ∧ BsAt K H v st ∧ StOk n st ∧ n ≤ 100 ∧ Fine st ∧ ∀ a H', Same H H' → H a = none → H' a = some (.lst ((lefts st).map V.int)) → Q (.ref a) H'
def spNormalOf (K : PySem.W.Frag) : Sp := fun vs H Q _ => ∃ (lv sv : V) (n : Nat) (lk : List (List (List Int))) (st : List (List Int)) (ws : List Int), vs = [lv, sv] ∧ LkAt K H lv lk ∧ BsAt K H sv st ∧ LkOk n lk ∧ StOk n st ∧ Runs lk st ws ∧ ws.length ≤ 1000 ∧
  ∀ v H', Same H H' → TI K H' v ws → Q v H'
def spNormalW (K : PySem.W.Frag) : Sp := fun vs H Q _ => ∃ (lv wv : V) (n : Nat) (lk : List (List (List Int))) (us ws : List Int), vs = [lv, wv] ∧ LkAt K H lv lk ∧ TI K H wv us ∧ LkOk n lk ∧ (∀ x ∈ us, 0 ≤ x ∧ x < n) ∧ us.length ≤ 1000 ∧ Runs lk (aheadW lk (first n) us) ws ∧ ws.length ≤ 1000 ∧
  ∀ v H', Same H H' → TI K H' v ws → Q v H'
section
variable {P : Program} {w : World} {K : PySem.W.Frag} {mg : Str → Option Value} {base : Heap} {C : Addr}
theorem cal_sense_of (T : Txt K mg C) : Cal P w K mg base "sense_of" 1 spSenseOf := by
  refine T.d_sense_of.cal (ps := ["whole", "part"]) (fun f fd D => ?_) (fun _ _ _ _ _ _ us hl => match us, hl with | [_, _], _ => rfl)
  refine D.ok sc_sense_of (fun vs H Q E h => ?_) (fun cdv A outer s H vs Q E hr h => ?_)
  · obtain ⟨a, b, rfl, _⟩ := h
    rfl
  · obtain ⟨a, b, rfl, ha, hb, q⟩ := h
    refine ⟨_, (pss_cons (ps_set (i := 2) sc_sense_of.nd rfl (Or.inl rfl) (pe_op op_add (pe_op op_mul pe_int (pv 0)) (pv 1)))
      (pss_cons (ps_if (PW.pt (pw_and (pt_cmpR op_eq (pv 2) pe_int (nomark _)) (pw_and1 (pt_cmpR op_eq (pv 1) pe_int (nomark _))))) (pss_one (ps_ret pe_int)) pss_nil)
      (pss_cons (ps_if (PW.pt (pw_and (pt_cmpR op_ge (pv 2) pe_int (nomark _)) (pw_and1 (pt_cmpR op_ge (pv 1) pe_int (nomark _))))) (pss_one (ps_ret pe_int)) pss_nil)
      (pss_cons (ps_if (PW.pt (pw_and (pt_cmpR op_le (pv 2) pe_int (nomark _)) (pw_and1 (pt_cmpR op_le (pv 1) pe_int (nomark _))))) (pss_one (ps_ret (pe_un un_neg pe_int))) pss_nil)
      (pss_cons (ps_set (i := 3) sc_sense_of.nd rfl (Or.inl rfl) (pe_cmpR op_gt (pe_op op_mulW (pv 2) (pv 2)) (pe_op op_mulW (pe_op op_mul pe_int (pv 1)) (pv 1)) (nomark _)))
      (pss_one (ps_ret (pe_ifExp (pt_cmpR op_eq (pv 3) (pe_cmpR op_gt (pv 2) pe_int (nomark _)) (nomark _)) pe_int (pe_un un_neg pe_int))))))))), ?_⟩
    refine ⟨_, rfl, _, _, rfl, rfl, .inl ⟨by decide, by decide⟩, _, rfl, _, _, rfl, rfl, ?_⟩
    refine ⟨_, rfl, rfl, _, rfl, ite_and (fun z => ⟨_, rfl, rfl, _, rfl, z⟩) (fun z => iteF z) (fun h1 h2 => ?_) (fun n1 => ?_)⟩
    · have e : Gd.gsI a b = 0 := by
        unfold Gd.gsI
        rw [if_pos ⟨vi_eq h1, vi_eq h2⟩]
      rw [e] at q
      exact q
    have m1 : ¬ (2 * a + b = 0 ∧ b = 0) := fun z => n1 ⟨vi_of z.1, vi_of z.2⟩
    refine ⟨_, rfl, _, _, rfl, rfl, _, rfl, ite_and (fun z => ⟨_, rfl, _, _, rfl, rfl, _, rfl, z⟩) (fun z => iteF z) (fun h1 h2 => ?_) (fun n2 => ?_)⟩
    · have e : Gd.gsI a b = 1 := by
        unfold Gd.gsI
        rw [if_neg m1, if_pos ⟨of_decide_eq_true h1, of_decide_eq_true h2⟩]
      rw [e] at q
      exact q
    have m2 : ¬ (0 ≤ 2 * a + b ∧ 0 ≤ b) := fun z => n2 ⟨decide_eq_true z.1, decide_eq_true z.2⟩
    refine ⟨_, rfl, _, _, rfl, rfl, _, rfl, ite_and (fun z => ⟨_, rfl, _, _, rfl, rfl, _, rfl, z⟩) (fun z => iteF z) (fun h1 h2 => ?_) (fun n3 => ?_)⟩
    · have e : Gd.gsI a b = -1 := by
        unfold Gd.gsI
        rw [if_neg m1, if_neg m2, if_pos ⟨of_decide_eq_true h1, of_decide_eq_true h2⟩]
      rw [e] at q
      exact ⟨_, rfl, q⟩
    have m3 : ¬ (2 * a + b ≤ 0 ∧ b ≤ 0) := fun z => n3 ⟨decide_eq_true z.1, decide_eq_true z.2⟩
    have bt : B 1003 (2 * a + b) := ((B.lit (n := 2) 2).mul ha : B 1002 (2 * a)).add (hb.mono (by decide))
    have b5 : B 1003 (5 * b) := (B.lit (n := 3) 5).mul hb
    refine ⟨_, rfl, _, rfl, _, _, rfl, rfl, bt.ok bt, _, rfl, _, _, rfl, rfl, .inl ⟨by decide, by decide⟩, _, rfl, _, _, rfl, rfl, b5.ok hb, _, _, rfl, rfl, ?_⟩
    refine ⟨_, rfl, _, rfl, _, _, rfl, rfl, rfl, _, rfl, ?_⟩
    have e : Gd.gsI a b = if (decide ((2 * a + b) * (2 * a + b) > 5 * b * b) == decide (2 * a + b > 0)) = true then 1 else -1 := by
      unfold Gd.gsI
      rw [if_neg m1, if_neg m2, if_neg m3]
    refine ite2 (fun h => ?_) (fun h => ?_)
    · rw [e, if_pos (by rw [← dec_bl]; exact h)] at q
      exact q
    · rw [e, if_neg (by rw [← dec_bl]; exact h)] at q
      exact ⟨_, rfl, q⟩
theorem cal_is_below (T : Txt K mg C) : Cal P w K mg base "is_below" 2 (spBelow K) := by
  refine T.d_is_below.cal (ps := ["number"]) (fun f fd D => ?_) (fun _ _ _ _ _ _ us hl => match us, hl with | [_], _ => rfl)
  refine D.ok sc_is_below (fun vs H Q E h => ?_) (fun cdv A outer s H vs Q E hr h => ?_)
  · obtain ⟨_, _, rfl, _⟩ := h
    rfl
  · obtain ⟨_, x, rfl, ⟨a, rfl, ha⟩, hl, hf, k⟩ := h
    rcases x with _ | ⟨w1, _ | ⟨p1, _ | ⟨z, x⟩⟩⟩
    · simp at hl
    · simp at hl
    · refine ⟨_, (pss_cons (ps_asg (pv 0) (pg_tup (by rfl) (pgs_cons (pg_name (i := 1) sc_is_below.nd rfl (Or.inl rfl)) (pgs_cons (pg_name (i := 2) sc_is_below.nd rfl (Or.inl rfl)) pgs_nil))))
      (pss_one (ps_ret (pe_ifExp (pt_cmpR op_eq (pv 2) pe_int (nomark _)) (pe_cmpR op_lt (pv 1) pe_int (nomark _)) (pe_cmpR op_lt (pe_cal (cal_sense_of T) (hr.mono (by decide)) (by rfl) (pa_cons (pv 1) (pa_cons (pv 2) pa_nil))) pe_int (nomark _)))))), ?_⟩
      refine ⟨_, rfl, _, _, rfl, ha, rfl, _, _, rfl, _, _, rfl, rfl, ?_⟩
      refine ⟨_, rfl, rfl, _, rfl, ite2 (fun c => ?_) (fun c => ?_)⟩
      · refine ⟨_, rfl, _, _, rfl, rfl, ?_⟩
        have e : bel [w1, p1] = decide (w1 < 0) := if_pos (vi_eq c)
        rw [e] at k
        exact k
      · have np : p1 ≠ 0 := fun e => c (vi_of e)
        have e : bel [w1, p1] = decide (Gd.gsI w1 p1 < 0) := if_neg np
        rcases hf with hf | ⟨h1, h2⟩
        · exact absurd hf np
        · rw [e] at k
          exact ⟨_, rfl, _, rfl, w1, p1, rfl, h1, h2, _, _, rfl, rfl, k⟩
    · simp at hl
theorem cal_left_of (T : Txt K mg C) : Cal P w K mg base "left_of" 3 (spLeft K) := by
  refine T.d_left_of.cal (ps := ["state"]) (fun f fd D => ?_) (fun _ _ _ _ _ _ us hl => match us, hl with | [_], _ => rfl)
  refine D.ok sc_left_of (fun vs H Q E h => ?_) (fun cdv A outer s H vs Q E hr h => ?_)
  · obtain ⟨_, _, _, rfl, _⟩ := h
    rfl
  · obtain ⟨_, st, n, rfl, ⟨a, xs, rfl, ha, hx⟩, hst, few, fine, k⟩ := h
    have hxl := hx.len
    have sl := hst.len
    refine ⟨_, (pss_one (ps_ret (pe_lc (own := [("letter", 1), ("number", 2)]) (g := gTup K 2 (gCons (gName 1) (gCons (gName 2) (gNil)))) rfl sc_left_of.nd (pi_enumT (by rfl) T.b_enumerate (pa_cons (pv 0) pa_nil)) (blkOk_by (own := [("letter", 1), ("number", 2)]) (N := ["state", "letter", "number"]) (sc := defScope s_left_of) (by decide +kernel)) (fun _ _ _ _ _ => (pg_tup (by rfl) (pgs_cons (pg_name (i := 1) sc_left_of.nd rfl (Or.inl rfl)) (pgs_cons (pg_name (i := 2) sc_left_of.nd rfl (Or.inl rfl)) pgs_nil)))) (fun _ _ _ _ _ => (pts_one (pt_val (pe_cal (cal_is_below T) (hr.mono (by decide)) (by rfl) (pa_cons (pv 2) pa_nil))))) (fun _ _ _ _ _ => (pv 1))))), ?_⟩
    refine ⟨_, rfl, a, _, rfl, ha, fun D nD => lc_it (walk_enumT (K := K) (a := a) (xs := xs)) (fun i H' => Same H H' ∧ H' D = some (.lst ((((upto st.length).take i).filter fun i => bel (st.getD i.toNat [])).map V.int))) ⟨same_new nD, upd_same⟩ (fun i H' _ h => sqT_same h.1 ha) ?_ ?_⟩
    · rintro i x H4 H5 hi ⟨s4, hD⟩ ⟨q, x1, x2, rfl, nq, rfl, e1, e2⟩
      obtain rfl : x1 = .int (i : Nat) := (Option.some.inj e1).symm
      obtain ⟨y, hy, ty⟩ := hx.get e2
      have s5 := s4.trans (same_new (o := .tup [.int (i : Nat), x2]) nq)
      have hD5 := same_new (o := .tup [.int (i : Nat), x2]) nq _ _ hD
      obtain ⟨ww, pp, ey⟩ := hst.two y (List.mem_of_getElem? hy)
      have il : i < ((st.length : Nat) : Int).toNat := by
        have := (List.getElem?_eq_some_iff.mp hy).1
        omega
      have hg := upto_get il
      rw [show (0 : Int) + (i : Nat) = (i : Nat) by omega] at hg
      have gd : st.getD ((i : Nat) : Int).toNat [] = y := by
        rw [show ((i : Nat) : Int).toNat = i by omega, List.getD_eq_getElem?_getD, hy]
        rfl
      have hlen : (((upto st.length).take i).filter fun i => bel (st.getD i.toNat [])).length ≤ 100 := Nat.le_trans (List.length_filter_le _ _) (by rw [List.length_take, upto_length]; omega)
      refine ⟨_, _, rfl, .of upd_same, rfl, _, _, rfl, _, _, rfl, rfl, rfl, ?_⟩
      refine ⟨_, rfl, x2, y, rfl, ty.same s5, by rw [ey]; rfl, fine y (List.mem_of_getElem? hy), _, rfl, ite2 (fun c => ?_) (fun c => ?_)⟩
      · refine ⟨_, rfl, _, hD5, small1000 (by rw [List.length_map]; omega), same_off nD s5 off_upd, ?_⟩
        rw [upd_same, take_snoc hg, List.filter_append, List.filter_cons_of_pos (p := fun i : Int => bel (st.getD i.toNat [])) (by rw [gd]; exact c), List.filter_nil, List.map_append]
        rfl
      · refine ⟨s5, ?_⟩
        rw [take_snoc hg, List.filter_append, List.filter_cons_of_neg (p := fun i : Int => bel (st.getD i.toNat [])) (by rw [gd]; exact c), List.filter_nil, List.append_nil]
        exact hD5
    · rintro H4 ⟨s4, hD⟩
      rw [List.take_of_length_le (by rw [upto_length]; omega)] at hD
      exact k _ _ s4 nD hD
theorem lefts_in {n : Nat} {st : List (List Int)} (h : StOk n st) {l : Int} (hl : l ∈ lefts st) : 0 ≤ l ∧ l < n := by
  unfold lefts at hl
  have := mem_upto.mp (List.mem_filter.mp hl).1
  rw [h.len] at this
  exact this
theorem cal_normal_of (T : Txt K mg C) : Cal P w K mg base "normal_of" 4 (spNormalOf K) := by
  refine T.d_normal_of.cal (ps := ["links", "state"]) (fun f fd D => ?_) (fun _ _ _ _ _ _ us hl => match us, hl with | [_, _], _ => rfl)
  refine D.ok sc_normal_of (fun vs H Q E h => ?_) (fun cdv A outer s H vs Q E hr h => ?_)
  · obtain ⟨_, _, _, _, _, _, rfl, _⟩ := h
    rfl
  · obtain ⟨lv, sv, n, lk, st, ws, rfl, hlv, hsv, hlk, hst, hrun, hws, k⟩ := h
    have few := hlk.few
    refine ⟨_, (pss_cons (ps_set (i := 2) sc_normal_of.nd rfl (Or.inl rfl) (pe_lst pa_nil))
      (pss_cons (ps_set (i := 3) sc_normal_of.nd rfl (Or.inl rfl) (pe_cal (cal_left_of T) (hr.mono (by decide)) (by rfl) (pa_cons (pv 1) pa_nil)))
      (pss_cons (ps_while PassesOwn.never (pt_truth (pv 3) (by intro _; rfl)) (pss_cons (ps_expr (pe_bm PySem.F.plainAttrs_list PySem.F.slot_list_append PySem.F.type_list_append mt_append (pv 2) (pa_cons (pe_ix ix_list (pv 3) pe_int (fun _ _ => rfl)) pa_nil)))
      (pss_cons (ps_set (i := 1) sc_normal_of.nd rfl (Or.inl rfl) (pe_cal (cal_put_ahead T) (hr.mono (by decide)) (by rfl) (pa_cons (pv 0) (pa_cons (pv 1) (pa_cons (pe_ix ix_list (pv 3) pe_int (fun _ _ => rfl)) pa_nil)))))
      (pss_one (ps_set (i := 3) sc_normal_of.nd rfl (Or.inl rfl) (pe_cal (cal_left_of T) (hr.mono (by decide)) (by rfl) (pa_cons (pv 1) pa_nil)))))))
      (pss_one (ps_ret (pe_callTy call_tuple_of (by rfl) T.b_tuple (by decide +kernel) (pa_cons (pv 2) pa_nil))))))), ?_⟩
    refine ⟨Nat.zero_le _, fun g ng => ?_⟩
    have s1 := same_new (o := .lst []) ng
    refine ⟨_, rfl, sv, st, n, rfl, hsv.same s1, hst, few, hrun.fine, fun a H2 s2 na ha => ?_⟩
    dsimp only [gName, tSeq]
    refine while_by (fun σ H' => ∃ (sv' : V) (fa : Addr) (st' : List (List Int)) (us rs : List Int), σ = [some lv, some sv', some (.ref g), some (.ref fa)] ∧ Same H H' ∧ BsAt K H' sv' st' ∧ StOk n st' ∧ H' g = some (.lst (us.map V.int)) ∧ H' fa = some (.lst ((lefts st').map V.int)) ∧ fa ≠ g ∧ Runs lk st' rs ∧ us ++ rs = ws) (fun _ H' => 1000 - lenAt H' g) ?_ ?_ ?_
    · exact ⟨sv, a, st, [], ws, rfl, s1.trans s2, (hsv.same s1).same s2, hst, s2 _ _ upd_same, ha, (ne_of_none (upd_same (H := H) (o := .lst [])) na).symm, hrun, rfl⟩
    · rintro _ H3 ⟨sv', fa, st', us, rs, rfl, s3, hb, hok, hg, hf, nfg, hr', rfl⟩
      rw [List.length_append] at hws
      refine ⟨_, rfl, _, .inl ⟨_, .of hf, rfl⟩, ?_⟩
      cases hr' with
      | done fine hl =>
        rw [hl] at hf ⊢
        refine iteF ⟨_, rfl, g, _, rfl, .inl ⟨.of hg, fun t nt => ?_⟩⟩
        rw [List.append_nil] at k
        exact k _ _ (s3.trans (same_new nt)) ⟨t, rfl, .of upd_same⟩
      | @step _ l r rs fine hl hr' =>
        have hin := lefts_in hok (l := l) (by rw [hl]; simp)
        rw [hl] at hf ⊢
        simp only [List.length_cons] at hws
        refine iteT ?_
        refine ⟨_, rfl, .inl ⟨rfl, _, .of hg⟩, ?_⟩
        refine ⟨_, rfl, _, _, _, _, rfl, rfl, .of hf, at_of (j := 0) rfl rfl, g, _, _, rfl, rfl, hg, by rw [List.length_map]; exact small1000 (by omega), ?_⟩
        have so : Off g H3 (upd H3 g (.lst (us.map V.int ++ [.int l]))) := off_upd
        have sH : Same H (upd H3 g (.lst (us.map V.int ++ [.int l]))) := same_off ng s3 so
        obtain ⟨sb, sy, rfl, hsb, hsy⟩ := hb
        have hb4 : BsAt K (upd H3 g (.lst (us.map V.int ++ [.int l]))) (.ref sb) st' := so.bs hg ⟨sb, sy, rfl, hsb, hsy⟩
        have hf4 := so _ _ nfg hf
        refine ⟨_, rfl, _, rfl, _, rfl, _, _, _, _, rfl, rfl, .of hf4, at_of (j := 0) rfl rfl, lv, .ref sb, l, n, lk, st', rfl, hlv.same sH, hb4, hlk, hok, hin.1, hin.2, fun v H5 s5 hb5 => ?_⟩
        refine ⟨_, rfl, v, _, n, rfl, hb5, hok.put lk l, few, hr'.fine, fun a6 H6 s6 n6 ha6 => ?_⟩
        have hg6 : H6 g = some (.lst ((us ++ [l]).map V.int)) := by
          have := s6 _ _ (s5 _ _ (upd_same (H := H3) (a := g) (o := .lst (us.map V.int ++ [.int l]))))
          rw [List.map_append]
          exact this
        refine ⟨⟨v, a6, _, us ++ [l], rs, rfl, (sH.trans s5).trans s6, hb5.same s6, hok.put lk l, hg6, ha6, (ne_of_none (s5 _ _ upd_same) n6).symm, hr', by simp⟩, ?_⟩
        unfold lenAt
        rw [hg6, hg]
        simp only [List.length_map, List.length_append, List.length_cons, List.length_nil]
        omega
    · rintro σ H Q Q' hq ⟨v, hv, k, h1, h2⟩
      exact ⟨v, hv, k, h1, hq _ _ h2⟩
theorem cal_normal_word (T : Txt K mg C) : Cal P w K mg base "normal_word" 5 (spNormalW K) := by
  refine T.d_normal_word.cal (ps := ["links", "word"]) (fun f fd D => ?_) (fun _ _ _ _ _ _ us hl => match us, hl with | [_, _], _ => rfl)
  refine D.ok sc_normal_word (fun vs H Q E h => ?_) (fun cdv A outer s H vs Q E hr h => ?_)
  · obtain ⟨_, _, _, _, _, _, rfl, _⟩ := h
    rfl
  · obtain ⟨lv, wv, n, lk, us, ws, rfl, hlv, hwv, hlk, hus, hul, hrun, hws, k⟩ := h
    refine ⟨_, (pss_one (ps_ret (pe_cal (cal_normal_of T) (hr.mono (by decide)) (by rfl) (pa_cons (pv 0) (pa_cons (pe_cal (cal_state_of T) (hr.mono (by decide)) (by rfl) (pa_cons (pv 0) (pa_cons (pv 1) pa_nil))) pa_nil))))), ?_⟩
    refine ⟨_, rfl, _, rfl, _, rfl, lv, wv, us, n, lk, rfl, hlv, hwv, hlk, hus, hul, fun v H1 s1 hb => ?_⟩
    exact ⟨lv, v, n, lk, _, ws, rfl, hlv.same s1, hb, hlk, StOk.ahead lk _ (.first n), hrun, hws, fun v' H2 s2 t => k _ _ (s1.trans s2) t⟩
end
end Sk

namespace Sk
open PySem L2 Ow
/-- the state of a word -/
def stOf (bs : List (List Int)) (n : Int) (ws : List Int) : List (List Int) := aheadW (lkOf bs n) (first n.toNat) ws
/-- the word is the normal one -/
def Nw (bs : List (List Int)) (n : Int) (ws us : List Int) : Prop := Runs (lkOf bs n) (stOf bs n ws) us
def SyW (K : PySem.W.Frag) (C : Addr) (H : Hp) (sv wv : V) (n : Int) (bs : List (List Int)) (ws : List Int) : Prop := ∃ (p : Addr) (bv : V), sv = .ref p ∧ SysAt K C H p n bv bs ∧ Valid n bs ∧ TI K H wv ws ∧ Wd n ws
def spNormal (K : PySem.W.Frag) (C : Addr) : Sp := fun vs H Q _ => ∃ (sv wv : V) (n : Int) (bs : List (List Int)) (ws us : List Int), vs = [sv, wv] ∧ SyW K C H sv wv n bs ws ∧ Nw bs n ws us ∧ us.length ≤ 1000 ∧ ∀ v H', Same H H' → TI K H' v us → Q v H'
def spLength (K : PySem.W.Frag) (C : Addr) : Sp := fun vs H Q _ => ∃ (sv wv : V) (n : Int) (bs : List (List Int)) (ws us : List Int), vs = [sv, wv] ∧ SyW K C H sv wv n bs ws ∧ Nw bs n ws us ∧ us.length ≤ 1000 ∧ ∀ H', Same H H' → Q (.int (us.length : Nat)) H'
def spInverse (K : PySem.W.Frag) (C : Addr) : Sp := fun vs H Q _ => ∃ (sv wv : V) (n : Int) (bs : List (List Int)) (ws us : List Int), vs = [sv, wv] ∧ SyW K C H sv wv n bs ws ∧ Nw bs n ws.reverse us ∧ us.length ≤ 1000 ∧ ∀ v H', Same H H' → TI K H' v us → Q v H'
def spProduct (K : PySem.W.Frag) (C : Addr) : Sp := fun vs H Q _ => ∃ (sv wv zv : V) (n : Int) (bs : List (List Int)) (ws zs us : List Int), vs = [sv, wv, zv] ∧ SyW K C H sv wv n bs ws ∧ TI K H zv zs ∧ Wd n zs ∧ Nw bs n (ws ++ zs) us ∧ us.length ≤ 40 ∧ ∀ v H', Same H H' → TI K H' v us → Q v H'
def spLL (K : PySem.W.Frag) (C : Addr) : Sp := fun vs H Q _ => ∃ (sv wv : V) (n : Int) (bs : List (List Int)) (ws : List Int), vs = [sv, wv] ∧ SyW K C H sv wv n bs ws ∧ Fine (stOf bs n ws) ∧ ∀ v H', Same H H' → TI K H' v (lefts (stOf bs n ws)) → Q v H'
def spRL (K : PySem.W.Frag) (C : Addr) : Sp := fun vs H Q _ => ∃ (sv wv : V) (n : Int) (bs : List (List Int)) (ws : List Int), vs = [sv, wv] ∧ SyW K C H sv wv n bs ws ∧ Fine (stOf bs n ws.reverse) ∧ ∀ v H', Same H H' → TI K H' v (lefts (stOf bs n ws.reverse)) → Q v H'
theorem cat_any {K : PySem.W.Frag} {H : Hp} {Q : VK} {a b : Addr} {xs ys : List V} (ha : SqT K H a xs) (hb : SqT K H b ys) (hl : xs.length + ys.length ≤ 1000)
    (q : ∀ v H', Same H H' → (∃ c, v = .ref c ∧ SqT K H' c (xs ++ ys)) → Q v H') : rCatA K (.ref a) (.ref b) H Q :=
  ⟨a, b, xs, ys, rfl, rfl, ha, hb, szl hl, fun e => q _ _ (.refl _) ⟨b, rfl, by rw [e]; exact hb⟩, fun _ e => q _ _ (.refl _) ⟨a, rfl, by rw [e, List.append_nil]; exact ha⟩, fun _ _ p np => q _ _ (same_new np) ⟨p, rfl, .of upd_same⟩⟩
theorem Wd.in_ {n : Int} {ws : List Int} (h : Wd n ws) (h0 : 0 ≤ n) : ∀ x ∈ ws, 0 ≤ x ∧ x < (n.toNat : Nat) := fun x hx => by
  have := h.1 x hx
  omega
section
variable {P : Program} {w : World} {K : PySem.W.Frag} {mg : Str → Option Value} {base : Heap} {C : Addr}
theorem cal_left_letters (T : Txt K mg C) : Cal P w K mg base "left_letters" 7 (spLL K C) := by
  refine T.d_left_letters.cal (ps := ["system", "word"]) (fun f fd D => ?_) (fun _ _ _ _ _ _ us hl => match us, hl with | [_, _], _ => rfl)
  refine D.ok sc_left_letters (fun vs H Q E h => ?_) (fun cdv A outer s H vs Q E hr h => ?_)
  · obtain ⟨_, _, _, _, _, rfl, _⟩ := h
    rfl
  · obtain ⟨_, wv, n, bs, ws, rfl, ⟨p, bv, rfl, y, va, t, hw⟩, hf, k⟩ := h
    have n1 := va.lo
    have n4 := va.hi
    have h40 := hw.2
    refine ⟨_, (pss_cons (ps_expr (pe_calR (cal_check_words T) (hr.mono (by decide)) (by rfl) (pa_cons (pv 0) (pa_cons (pv 1) pa_nil))))
      (pss_one (ps_ret (pe_callTy call_tuple_of (by rfl) T.b_tuple (by decide +kernel) (pa_cons (pe_cal (cal_left_of T) (hr.mono (by decide)) (by rfl) (pa_cons (pe_cal (cal_state_of T) (hr.mono (by decide)) (by rfl) (pa_cons (pe_cal (cal_links_of T) (hr.mono (by decide)) (by rfl) (pa_cons (pv 0) pa_nil)) (pa_cons (pv 1) pa_nil))) pa_nil)) pa_nil))))), ?_⟩
    refine ⟨_, rfl, _, rfl, p, n, bv, bs, [wv], rfl, by simp, y, fun v hv => ⟨ws, by rw [List.mem_singleton.mp hv]; exact t, hw⟩, fun H1 s1 => ?_⟩
    refine ⟨_, rfl, p, n, bv, bs, rfl, y.same s1, va, fun v2 H2 s2 hlk => ?_⟩
    refine ⟨_, rfl, v2, wv, ws, n.toNat, lkOf bs n, rfl, hlk, (t.same s1).same s2, lkOf_ok va, hw.in_ (by omega), by omega, fun v3 H3 s3 hb => ?_⟩
    refine ⟨v3, _, n.toNat, rfl, hb, StOk.ahead _ _ (.first _), by omega, hf, fun a H4 s4 na ha => ?_⟩
    exact ⟨a, _, rfl, .inl ⟨.of ha, fun t nt => k _ _ ((((s1.trans s2).trans s3).trans s4).trans (same_new nt)) ⟨t, rfl, .of upd_same⟩⟩⟩
theorem cal_right_letters (T : Txt K mg C) : Cal P w K mg base "right_letters" 7 (spRL K C) := by
  refine T.d_right_letters.cal (ps := ["system", "word"]) (fun f fd D => ?_) (fun _ _ _ _ _ _ us hl => match us, hl with | [_, _], _ => rfl)
  refine D.ok sc_right_letters (fun vs H Q E h => ?_) (fun cdv A outer s H vs Q E hr h => ?_)
  · obtain ⟨_, _, _, _, _, rfl, _⟩ := h
    rfl
  · obtain ⟨_, wv, n, bs, ws, rfl, ⟨p, bv, rfl, y, va, t, hw⟩, hf, k⟩ := h
    have n1 := va.lo
    have n4 := va.hi
    have h40 := hw.2
    refine ⟨_, (pss_cons (ps_expr (pe_calR (cal_check_words T) (hr.mono (by decide)) (by rfl) (pa_cons (pv 0) (pa_cons (pv 1) pa_nil))))
      (pss_one (ps_ret (pe_callTy call_tuple_of (by rfl) T.b_tuple (by decide +kernel) (pa_cons (pe_cal (cal_left_of T) (hr.mono (by decide)) (by rfl) (pa_cons (pe_cal (cal_state_of T) (hr.mono (by decide)) (by rfl) (pa_cons (pe_cal (cal_links_of T) (hr.mono (by decide)) (by rfl) (pa_cons (pv 0) pa_nil)) (pa_cons (pe_revT (pv 1)) pa_nil))) pa_nil)) pa_nil))))), ?_⟩
    refine ⟨_, rfl, _, rfl, p, n, bv, bs, [wv], rfl, by simp, y, fun v hv => ⟨ws, by rw [List.mem_singleton.mp hv]; exact t, hw⟩, fun H1 s1 => ?_⟩
    refine ⟨_, rfl, p, n, bv, bs, rfl, y.same s1, va, fun v2 H2 s2 hlk => ?_⟩
    obtain ⟨wa, rfl, hwa⟩ := (t.same s1).same s2
    refine ⟨_, rfl, wa, _, rfl, hwa, fun r nr => ?_⟩
    have s2b := same_new (o := .tup (ws.map V.int).reverse) nr
    refine ⟨v2, .ref r, ws.reverse, n.toNat, lkOf bs n, rfl, hlk.same s2b, ⟨r, rfl, .of (by rw [upd_same, List.map_reverse])⟩, lkOf_ok va, fun x hx => hw.in_ (by omega) x (List.mem_reverse.mp hx), by rw [List.length_reverse]; omega, fun v3 H3 s3 hb => ?_⟩
    refine ⟨v3, _, n.toNat, rfl, hb, StOk.ahead _ _ (.first _), by omega, hf, fun a H4 s4 na ha => ?_⟩
    exact ⟨a, _, rfl, .inl ⟨.of ha, fun t nt => k _ _ (((((s1.trans s2).trans s2b).trans s3).trans s4).trans (same_new nt)) ⟨t, rfl, .of upd_same⟩⟩⟩
end
end Sk

namespace Sk
open PySem L2 Ow
theorem sh_L (ns : List Int) : SeqAt.shaped (.list (ns.map PyData.int)) = true := by
  unfold SeqAt.shaped
  have h1 : (PyData.list (ns.map PyData.int)).canLay0 = true := by simp [PyData.canLay0, lay_ints]
  have h2 : (PyData.list (ns.map PyData.int)).depth ≤ 64 := by have := dep_ints ns; simp [PyData.depth]; omega
  rw [h1, decide_eq_true h2]
  rfl
theorem eqv_ints : ∀ a b : List Int, PyData.eqvAll (a.map PyData.int) (b.map PyData.int) = decide (a = b)
  | [], [] => by simp [PyData.eqvAll]
  | [], _ :: _ => by simp [PyData.eqvAll]
  | _ :: _, [] => by simp [PyData.eqvAll]
  | x :: a, y :: b => by
    have h := eqv_ints a b
    by_cases e : x = y
    · subst e
      simp [PyData.eqvAll, PyData.eqv, h]
    · simp [PyData.eqvAll, PyData.eqv, h, e]
theorem eqv_dT (a b : List Int) : PyData.eqv (dT a) (dT b) = decide (a = b) := by
  unfold dT
  rw [show PyData.eqv (.tuple (a.map PyData.int)) (.tuple (b.map PyData.int)) = PyData.eqvAll (a.map PyData.int) (b.map PyData.int) from by simp [PyData.eqv]]
  exact eqv_ints a b
theorem eqv_dTs : ∀ a b : List (List Int), PyData.eqvAll (a.map dT) (b.map dT) = decide (a = b)
  | [], [] => by simp [PyData.eqvAll]
  | [], _ :: _ => by simp [PyData.eqvAll]
  | _ :: _, [] => by simp [PyData.eqvAll]
  | x :: a, y :: b => by
    have h := eqv_dTs a b
    have h2 := eqv_dT x y
    by_cases e : x = y
    · subst e
      simp [PyData.eqvAll, h2, h]
    · simp [PyData.eqvAll, h2, h, e]
theorem eqv_L (a b : List Int) : PyData.eqv (.list (a.map PyData.int)) (.list (b.map PyData.int)) = decide (a = b) := by
  rw [show PyData.eqv (.list (a.map PyData.int)) (.list (b.map PyData.int)) = PyData.eqvAll (a.map PyData.int) (b.map PyData.int) from by simp [PyData.eqv]]
  exact eqv_ints a b
/-- a list of tuples of ints, as data -/
def dL (bs : List (List Int)) : PyData := .list (bs.map dT)
theorem sh_dL (bs : List (List Int)) : SeqAt.shaped (dL bs) = true := by
  unfold SeqAt.shaped
  have h1 : (dL bs).canLay0 = true := by simp [dL, PyData.canLay0, lay_dTs]
  have h2 : (dL bs).depth ≤ 64 := by have := dep_dTs bs; simp [dL, PyData.depth]; omega
  rw [h1, decide_eq_true h2]
  rfl
theorem eqv_dL (a b : List (List Int)) : PyData.eqv (dL a) (dL b) = decide (a = b) := by
  unfold dL
  rw [show PyData.eqv (.list (a.map dT)) (.list (b.map dT)) = PyData.eqvAll (a.map dT) (b.map dT) from by simp [PyData.eqv]]
  exact eqv_dTs a b
/-- a list of tuples of ints at l -/
def LT (K : PySem.W.Frag) (H : Hp) (l : Addr) (bs : List (List Int)) : Prop := ∃ xs, H l = some (.lst xs) ∧ TIs K H xs bs
theorem LT.same {K : PySem.W.Frag} {H H' : Hp} {l : Addr} {bs : List (List Int)} (h : LT K H l bs) (s : Same H H') : LT K H' l bs := h.elim fun xs ⟨e, t⟩ => ⟨xs, s _ _ e, t.same s⟩
theorem LT.dp {K : PySem.W.Frag} {H : Hp} {l : Addr} {bs : List (List Int)} (h : LT K H l bs) : Dp K H (.ref l) (dL bs) := h.elim fun xs ⟨e, t⟩ => .lst (.of e) t.dp
theorem any_dT (x : List Int) : ∀ bs : List (List Int), ((bs.map dT).any fun z => PyData.eqv z (dT x)) = decide (x ∈ bs)
  | [] => by simp
  | b :: r => by
    rw [List.map_cons, List.any_cons, any_dT x r, eqv_dT]
    by_cases e : b = x
    · subst e; simp
    · simp [e, Ne.symm e]
/-- the draws' list -/
def VatAt (H : Hp) (p : Addr) : Prop := ∃ b0 b1 b2 : Int, H p = some (.lst [.int b0, .int b1, .int b2])
theorem Off.refl {D : Addr} {H : Hp} : Off D H H := fun _ _ _ h => h
theorem Off.trans {D : Addr} {H H1 H2 : Hp} (a : Off D H H1) (b : Off D H1 H2) : Off D H H2 := fun q o n h => b q o n (a q o n h)
theorem Off.of_same {D : Addr} {H H1 : Hp} (a : Same H H1) : Off D H H1 := fun q o _ h => a q o h
theorem TI.but {K : PySem.W.Frag} {H H' : Hp} {v : V} {ns : List Int} {p : Addr} (h : TI K H v ns) (o : Off p H H') (b : VatAt H p) : TI K H' v ns := h.elim fun a ⟨e, q⟩ => ⟨a, e, by
  obtain ⟨_, _, _, hp⟩ := b
  exact o.sqT hp q⟩
theorem VatAt.same {H H' : Hp} {p : Addr} (b : VatAt H p) (s : Same H H') : VatAt H' p := b.elim fun b0 ⟨b1, b2, e⟩ => ⟨b0, b1, b2, s _ _ e⟩
theorem vat_ne {H : Hp} {p q : Addr} (b : VatAt H p) (n : H q = none) : q ≠ p := fun e => by
  obtain ⟨_, _, _, h⟩ := b
  rw [e, h] at n
  cases n
theorem VatAt.but {H H' : Hp} {p D : Addr} (b : VatAt H p) (o : Off D H H') (n : p ≠ D) : VatAt H' p := b.elim fun b0 ⟨b1, b2, e⟩ => ⟨b0, b1, b2, o _ _ n e⟩
theorem fm {i n : Int} (h : 0 < n) : 0 ≤ i.fmod n ∧ i.fmod n < n := by
  rw [Int.fmod_eq_emod_of_nonneg i (Int.le_of_lt h)]
  exact ⟨Int.emod_nonneg i (by omega), Int.emod_lt_of_pos i h⟩
theorem em {i n : Int} (h : 0 < n) : 0 ≤ i % n ∧ i % n < n := ⟨Int.emod_nonneg i (by omega), Int.emod_lt_of_pos i h⟩
def spVat (K : PySem.W.Frag) : Sp := fun vs H Q _ => ∃ (sa : Addr) (at_ : Int) (ns : List Int), vs = [.ref sa, .int at_] ∧ SqL K H sa (ns.map V.int) ∧ 0 ≤ at_ ∧
  ∀ (p : Addr) (H' : Hp), Same H H' → H p = none → VatAt H' p → Q (.ref p) H'
def spSip : Sp := fun vs H Q _ => ∃ (p : Addr) (n : Int), vs = [.ref p, .int n] ∧ 0 < n ∧ B 8000 n ∧ VatAt H p ∧ ∀ (r : Int) (H' : Hp), 0 ≤ r → r < n → Off p H H' → VatAt H' p → Q (.int r) H'
section
variable {P : Program} {w : World} {K : PySem.W.Frag} {mg : Str → Option Value} {base : Heap} {C : Addr}
theorem cal_l_sip (T : Txt K mg C) : Cal P w K mg base "_law_sip" 1 spSip := by
  refine T.d_l_sip.cal (ps := ["_law_vat_here", "_law_total"]) (fun f fd D => ?_) (fun _ _ _ _ _ _ us hl => match us, hl with | [_, _], _ => rfl)
  refine D.ok sc_l_sip (fun vs H Q E h => ?_) (fun cdv A outer s H vs Q E hr h => ?_)
  · obtain ⟨p, n, rfl, _⟩ := h
    rfl
  · obtain ⟨p, n, rfl, hn, bn, ⟨b0, b1, b2, hp⟩, k⟩ := h
    refine ⟨_, (pss_cons (ps_if (pt_cmpR op_gt (pe_ix ix_list (pv 0) pe_int (fun _ _ => rfl)) pe_int (nomark _)) (pss_cons (ps_set (i := 2) sc_l_sip.nd rfl (Or.inl rfl) (pe_op op_modN (pe_callTy call_int1 (by rfl) T.b_int (by decide +kernel) (pa_cons (pe_ix ix_list (pv 0) pe_int (fun _ _ => rfl)) pa_nil)) (pv 1)))
      (pss_cons (ps_asg (pe_op op_fdivW (pe_ix ix_list (pv 0) pe_int (fun _ _ => rfl)) (pv 1)) (pg_sub (pv 0) pe_int set_list))
      (pss_one (ps_ret (pv 2))))) pss_nil)
      (pss_cons (ps_asg (pe_op op_add (pe_ix ix_list (pv 0) pe_int (fun _ _ => rfl)) pe_int) (pg_sub (pv 0) pe_int set_list))
      (pss_cons (ps_set (i := 3) sc_l_sip.nd rfl (Or.inl rfl) (pe_op op_mod (pe_op op_add (pe_op op_add (pe_op op_mul (pe_ix ix_list (pv 0) pe_int (fun _ _ => rfl)) pe_int) (pe_op op_mul pe_int (pe_ix ix_list (pv 0) pe_int (fun _ _ => rfl)))) pe_int) pe_int))
      (pss_cons (ps_set (i := 4) sc_l_sip.nd rfl (Or.inl rfl) (pe_op op_add (pe_op op_add (pe_op op_mul (pe_op op_mod (pe_op op_mulW (pv 3) (pv 3)) pe_int) pe_int) (pv 3)) (pe_op op_mul pe_int (pe_ix ix_list (pv 0) pe_int (fun _ _ => rfl)))))
      (pss_one (ps_ret (pe_callTy call_int1 (by rfl) T.b_int (by decide +kernel) (pa_cons (pe_op op_modN (pe_op op_mod (pe_op op_fdiv (pv 4) pe_int) pe_int) (pv 1)) pa_nil)))))))), ?_⟩
    refine ⟨_, rfl, _, _, _, _, rfl, rfl, .of hp, rfl, _, _, rfl, rfl, _, rfl, ite2 (fun hpos => ?_) (fun _ => ?_)⟩
    · refine ⟨_, rfl, _, _, _, _, rfl, rfl, .of hp, rfl, .inl ⟨_, rfl, _, rfl, _, _, rfl, rfl, (by omega), ?_⟩⟩
      refine ⟨_, rfl, _, _, _, _, rfl, rfl, .of hp, rfl, _, rfl, _, _, rfl, rfl, wide_div hn bn (by decide) (by decide), _, rfl, _, _, _, _, rfl, rfl, hp, rfl, ?_⟩
      refine ⟨_, rfl, k _ _ (fm hn).1 (fm hn).2 (fun q o hq e => ?_) ⟨_, _, _, upd_same⟩⟩
      rw [upd_ne hq]
      exact e
    · refine ⟨_, rfl, _, _, _, _, rfl, rfl, .of hp, rfl, _, _, rfl, rfl, _, rfl, _, _, _, _, rfl, rfl, hp, rfl, ?_⟩
      have hq : upd H p (.lst [.int b0, .int b1, .int (b2 + 1)]) p = some (.lst [.int b0, .int b1, .int (b2 + 1)]) := upd_same
      have b61 : ∀ i m : Int, 0 < m → m ≤ 2305843009213693951 → B 61 (i % m) := fun i m h0 h1 => by
        have := em (i := i) h0
        show (i % m).natAbs < 2 ^ 61
        omega
      refine ⟨_, rfl, _, _, _, _, rfl, rfl, .of hq, rfl, _, _, rfl, rfl, .inr ⟨by decide, by decide⟩, _, rfl, _, _, _, _, rfl, rfl, .of hq, rfl, _, _, rfl, rfl, .inl ⟨by decide, by decide⟩, _, _, rfl, rfl, _, _, rfl, rfl, _, _, rfl, rfl, show (0 : Int) < 2305843009213693951 by decide, ?_⟩
      refine ⟨_, rfl, _, rfl, _, _, rfl, rfl, (b61 _ _ (by decide) (by decide)).ok (b61 _ _ (by decide) (by decide)), _, _, rfl, rfl, show (0 : Int) < 2305843009213693921 by decide, _, _, rfl, rfl, .inr ⟨by decide, by decide⟩, _, rfl, _, _, rfl, rfl, _, rfl, _, _, _, _, rfl, rfl, .of hq, rfl, _, _, rfl, rfl, .inl ⟨by decide, by decide⟩, _, _, rfl, rfl, ?_⟩
      refine ⟨_, rfl, _, _, rfl, rfl, ⟨by decide, by decide⟩, _, _, rfl, rfl, show (0 : Int) < 4611686018427387847 by decide, _, rfl, _, _, rfl, rfl, (by omega), .inl ⟨_, rfl, ?_⟩⟩
      refine k _ _ (fm hn).1 (fm hn).2 (fun q o hq e => ?_) ⟨_, _, _, upd_same⟩
      rw [upd_ne hq]
      exact e
theorem cal_l_vat (T : Txt K mg C) : Cal P w K mg base "_law_vat" 1 (spVat K) := by
  refine T.d_l_vat.cal (ps := ["_law_script", "_law_spot"]) (fun f fd D => ?_) (fun _ _ _ _ _ _ us hl => match us, hl with | [_, _], _ => rfl)
  refine D.ok sc_l_vat (fun vs H Q E h => ?_) (fun cdv A outer s H vs Q E hr h => ?_)
  · obtain ⟨p, n, ns, rfl, _⟩ := h
    rfl
  · obtain ⟨sa, z, ns, rfl, hs, hz, k⟩ := h
    refine ⟨_, (pss_cons (ps_set (i := 2) sc_l_vat.nd rfl (Or.inl rfl) (pe_ifExp (pt_cmpR op_lt (pv 1) (pe_callB call_len_seq (by rfl) T.b_len (by decide +kernel) (pa_cons (pv 0) pa_nil)) (nomark _)) (pe_ix ix_list (pv 0) (pv 1) (fun _ _ => rfl)) (pe_op op_add (pe_op op_mul pe_int (pv 1)) pe_int)))
      (pss_cons (ps_set (i := 3) sc_l_vat.nd rfl (Or.inl rfl) (pe_op op_modN (pe_callTy call_int1 (by rfl) T.b_int (by decide +kernel) (pa_cons (pe_callB call_abs (by rfl) T.b_abs (by decide +kernel) (pa_cons (pv 2) pa_nil)) pa_nil)) (pe_op op_powW (pe_op op_pow pe_int pe_int) pe_int)))
      (pss_cons (ps_set (i := 4) sc_l_vat.nd rfl (Or.inl rfl) (pe_op op_add (pe_op op_add (pe_op op_add (pe_op op_mul (pe_op op_mod (pv 3) pe_int) pe_int) (pe_op op_mul pe_int (pv 1))) (pe_op op_mul pe_int (pe_callTy call_int1 (by rfl) T.b_int (by decide +kernel) (pa_cons (pe_cmpR op_lt (pv 2) pe_int (nomark _)) pa_nil)))) pe_int))
      (pss_one (ps_ret (pe_lst (pa_cons (pe_callB (call_max2 rfl) (by rfl) T.b_max (by decide +kernel) (pa_cons pe_int (pa_cons (pe_op op_sub (pv 3) (pe_op op_pow pe_int pe_int)) pa_nil))) (pa_cons (pe_op op_mod (pv 4) pe_int) (pa_cons pe_int pa_nil))))))))), ?_⟩
    have hP : CPowW ((10 : Int) ^ (58 : Int).toNat) 9 := ⟨by decide, by decide +kernel⟩
    have hQ : ((10 : Int) ^ (58 : Int).toNat) ^ (9 : Int).toNat ≠ 0 := by decide +kernel
    refine ⟨_, rfl, _, rfl, _, _, rfl, .inl hs, _, _, rfl, rfl, _, rfl, ite2 (fun h => ?_) (fun h => ?_)⟩
    · have hlt : z < ((ns.map V.int).length : Int) := of_decide_eq_true h
      rw [List.length_map] at hlt
      have hi : z.toNat < ns.length := by omega
      have hget : atI (ns.map V.int) z = some (.int ns[z.toNat]) := at_of (j := z.toNat) (by omega) (by rw [List.getElem?_map, List.getElem?_eq_getElem hi]; rfl)
      refine ⟨_, rfl, _, rfl, _, _, _, _, rfl, rfl, hs, hget, ?_⟩
      refine ⟨_, rfl, _, rfl, .inl ⟨_, rfl, _, _, rfl, rfl, ⟨by decide, by decide, by decide⟩, _, _, rfl, rfl, hP, _, _, rfl, rfl, hQ, ?_⟩⟩
      refine ⟨_, rfl, _, _, rfl, rfl, show (0 : Int) < 1152921504606846883 by decide, _, _, rfl, rfl, .inr ⟨by decide, by decide⟩, _, rfl, _, _, rfl, rfl, .inl ⟨by decide, by decide⟩, _, _, rfl, rfl, _, rfl, _, _, rfl, rfl, .inr ⟨_, rfl, _, _, rfl, rfl, .inl ⟨by decide, by decide⟩, _, _, rfl, rfl, _, _, rfl, rfl, ?_⟩⟩
      refine ⟨_, rfl, _, _, rfl, rfl, ⟨by decide, by decide, by decide⟩, _, _, rfl, rfl, _, _, rfl, _, rfl, _, _, rfl, rfl, show (0 : Int) < 2305843009213693921 by decide, show 3 ≤ sizeLine by decide, fun p np => ?_⟩
      exact k p _ (fun q o e => by rw [upd_ne (ne_of_none e np)]; exact e) np ⟨_, _, _, upd_same⟩
    · refine ⟨_, rfl, _, _, rfl, rfl, .inl ⟨by decide, by decide⟩, _, _, rfl, rfl, ?_⟩
      refine ⟨_, rfl, _, rfl, .inl ⟨_, rfl, _, _, rfl, rfl, ⟨by decide, by decide, by decide⟩, _, _, rfl, rfl, hP, _, _, rfl, rfl, hQ, ?_⟩⟩
      refine ⟨_, rfl, _, _, rfl, rfl, show (0 : Int) < 1152921504606846883 by decide, _, _, rfl, rfl, .inr ⟨by decide, by decide⟩, _, rfl, _, _, rfl, rfl, .inl ⟨by decide, by decide⟩, _, _, rfl, rfl, _, rfl, _, _, rfl, rfl, .inr ⟨_, rfl, _, _, rfl, rfl, .inl ⟨by decide, by decide⟩, _, _, rfl, rfl, _, _, rfl, rfl, ?_⟩⟩
      refine ⟨_, rfl, _, _, rfl, rfl, ⟨by decide, by decide, by decide⟩, _, _, rfl, rfl, _, _, rfl, _, rfl, _, _, rfl, rfl, show (0 : Int) < 2305843009213693921 by decide, show 3 ≤ sizeLine by decide, fun p np => ?_⟩
      exact k p _ (fun q o e => by rw [upd_ne (ne_of_none e np)]; exact e) np ⟨_, _, _, upd_same⟩
end
end Sk

namespace Sk
open PySem L2 Ow
/-- 1 to n -/
def up (n : Nat) : List Int := (List.range n).map fun i : Nat => (1 : Int) + (i : Nat)
/-- a row of two to five places -/
structure IsRow (r : List Int) : Prop where
  lo : 2 ≤ r.length
  hi : r.length ≤ 5
  pm : r.Perm (up r.length)
theorem up_length (n : Nat) : (up n).length = n := by unfold up; rw [List.length_map, List.length_range]
theorem mem_up {n : Nat} {x : Int} : x ∈ up n ↔ 1 ≤ x ∧ x ≤ n := by
  unfold up
  rw [List.mem_map]
  constructor
  · rintro ⟨i, hi, rfl⟩
    have := List.mem_range.mp hi
    omega
  · rintro ⟨h1, h2⟩
    exact ⟨(x - 1).toNat, List.mem_range.mpr (by omega), by omega⟩
theorem up_sorted (n : Nat) : (up n).Pairwise (· ≤ ·) := by
  unfold up
  rw [List.pairwise_map]
  exact (List.pairwise_lt_range (n := n)).imp fun h => by omega
theorem up_nodup (n : Nat) : (up n).Nodup := by
  unfold up List.Nodup
  rw [List.pairwise_map]
  exact (List.pairwise_lt_range (n := n)).imp fun h => by omega
theorem IsRow.mem {r : List Int} (h : IsRow r) {x : Int} : x ∈ r ↔ 1 ≤ x ∧ x ≤ r.length := h.pm.mem_iff.trans mem_up
theorem IsRow.nodup {r : List Int} (h : IsRow r) : r.Nodup := h.pm.nodup_iff.mpr (up_nodup _)
theorem rgV_up (n : Nat) : rgV 1 ((n : Int) + 1) = (up n).map V.int := by
  unfold rgV up
  rw [List.map_map, show ((n : Int) + 1 - 1).toNat = n by omega]
  rfl
theorem int_at {ns : List Int} {i : Nat} {x : V} (h : (ns.map V.int)[i]? = some x) : ∃ c, ns[i]? = some c ∧ x = .int c := by
  rw [List.getElem?_map] at h
  cases e : ns[i]? with
  | none => rw [e] at h; cases h
  | some c => rw [e] at h; exact ⟨c, rfl, (Option.some.inj h).symm⟩
theorem small1000 {n : Nat} (h : n ≤ 1000) : n < sizeLine := Nat.lt_of_le_of_lt h (by decide)
def spEntries (K : PySem.W.Frag) : Sp := fun vs H Q _ => ∃ (v : V) (r : List Int), vs = [v, .int 1] ∧ TI K H v r ∧ IsRow r ∧ ∀ H', Same H H' → Q (.bl true) H'
def spRow (K : PySem.W.Frag) : Sp := fun vs H Q _ => ∃ (v : V) (r : List Int), vs = [v] ∧ TI K H v r ∧ IsRow r ∧ ∀ H', Same H H' → Q (.bl true) H'
def spCheck (K : PySem.W.Frag) : Sp := fun vs H Q _ => ∃ (v : V) (r : List Int), vs = [v] ∧ TI K H v r ∧ IsRow r ∧ ∀ H', Same H H' → Q .non H'
section
variable {P : Program} {w : World} {K : PySem.W.Frag} {mg : Str → Option Value} {base : Heap} {C : Addr}
theorem cal_are_entries (T : Txt K mg C) : Cal P w K mg base "are_entries" 2 (spEntries K) := by
  refine T.d_are_entries.cal (ps := ["value", "least"]) (fun f fd D => ?_) (fun _ _ _ _ _ _ us hl => match us, hl with | [_, _], _ => rfl)
  refine D.ok sc_are_entries (fun vs H Q E h => ?_) (fun cdv A outer s H vs Q E hr h => ?_)
  · obtain ⟨v, r, rfl, _⟩ := h
    rfl
  · obtain ⟨v, r, rfl, ⟨a, rfl, ha⟩, hR, k⟩ := h
    refine ⟨_, (pss_cons (ps_set (i := 2) sc_are_entries.nd rfl (Or.inr rfl) (pe_callB call_len_seq (by rfl) T.b_len (by decide +kernel) (pa_cons (pv 0) pa_nil)))
      (pss_cons (ps_if (pt_not (pt_val (pe_callB (cr_all rfl) (by rfl) T.b_all (by decide +kernel) (pa_cons (pe_lc (own := [("entry", 3)]) (g := gName 3) (tt := tYes) rfl sc_are_entries.nd (pi_tup (pv 0)) (blkOk_by (own := [("entry", 3)]) (N := ["value", "least", "many", "entry"]) (sc := defScope s_are_entries) (by decide +kernel)) (fun _ _ _ _ _ => (pg_name (i := 3) sc_are_entries.nd rfl (Or.inl rfl))) (fun _ _ _ _ _ => pts_nil) (fun _ _ _ _ _ => (pe_cal (cal_is_within T) (hr.mono (by decide)) (by rfl) (pa_cons (pv 3) (pa_cons (pv 1) (pa_cons (pv 2) pa_nil)))))) pa_nil)))) (pss_one (ps_ret pe_bl)) pss_nil)
      (pss_one (ps_ret (pe_cmpR (op_eqD hr.units) (pe_callB cr_sorted (by rfl) T.b_sorted (by decide +kernel) (pa_cons (pe_lc (own := [("entry", 3)]) (g := gName 3) (tt := tYes) rfl sc_are_entries.nd (pi_tup (pv 0)) (blkOk_by (own := [("entry", 3)]) (N := ["value", "least", "many", "entry"]) (sc := defScope s_are_entries) (by decide +kernel)) (fun _ _ _ _ _ => (pg_name (i := 3) sc_are_entries.nd rfl (Or.inl rfl))) (fun _ _ _ _ _ => pts_nil) (fun _ _ _ _ _ => (pe_callB call_abs (by rfl) T.b_abs (by decide +kernel) (pa_cons (pv 3) pa_nil)))) pa_nil)) (pe_listRg rfl (by rfl) T.b_list (prg_2 (by rfl) T.b_range pe_int (pe_op op_add (pv 2) pe_int))) (nomark _)))))), ?_⟩
    have hl5 := hR.hi
    refine ⟨_, rfl, _, _, rfl, .inr ha, ?_⟩
    refine ⟨_, rfl, a, rfl, ⟨_, ha⟩, fun D nD => lc_tup (K := K) (a := a) (xs := r.map V.int) (fun i H' => Same H H' ∧ H' D = some (.lst ((List.replicate i true).map V.bl))) ⟨same_new nD, upd_same⟩ (fun i H' _ h => sqT_same h.1 ha) ?_ ?_⟩
    · rintro i x H2 hm ⟨s2, hD⟩
      obtain ⟨c, hc, rfl⟩ := int_at hm
      have ilt := (List.getElem?_eq_some_iff.mp hc).1
      have b := hR.mem.mp (List.mem_of_getElem? hc)
      refine ⟨rfl, _, rfl, _, rfl, _, rfl, _, _, _, rfl, ?_⟩
      rw [decide_eq_true b.1, List.length_map, decide_eq_true b.2]
      refine ⟨_, hD, ?_, same_off nD s2 off_upd, ?_⟩
      · rw [List.length_map, List.length_replicate]
        exact small1000 (by omega)
      · rw [upd_same, List.replicate_succ', List.map_append]
        rfl
    · rintro H2 ⟨s2, hD⟩
      refine ⟨_, _, rfl, .of hD, ?_⟩
      rw [show ((List.replicate (r.map V.int).length true).all id) = true by simp]
      refine ⟨_, rfl, iteF ?_⟩
      refine ⟨_, rfl, a, rfl, ⟨_, sqT_same s2 ha⟩, fun D2 nD2 => lc_tup (K := K) (a := a) (xs := r.map V.int) (fun i H' => Same H2 H' ∧ H' D2 = some (.lst ((r.take i).map V.int))) ⟨same_new nD2, upd_same⟩ (fun i H' _ h => sqT_same (s2.trans h.1) ha) ?_ ?_⟩
      · rintro i x H3 hm ⟨s3, hD3⟩
        obtain ⟨c, hc, rfl⟩ := int_at hm
        have ilt := (List.getElem?_eq_some_iff.mp hc).1
        have b := hR.mem.mp (List.mem_of_getElem? hc)
        refine ⟨rfl, _, rfl, c, rfl, ?_⟩
        rw [if_neg (show ¬ c < 0 by omega)]
        refine ⟨_, hD3, ?_, same_off nD2 s3 off_upd, ?_⟩
        · rw [List.length_map, List.length_take]
          exact small1000 (by omega)
        · rw [upd_same, take_snoc hc, List.map_append]
          rfl
      · rintro H3 ⟨s3, hD3⟩
        rw [List.length_map, List.take_length] at hD3
        refine ⟨_, r, rfl, .of hD3, Nat.lt_of_le_of_lt hl5 (by decide), fun ns' p hp hs np => ?_⟩
        have e : ns' = up r.length := (hp.trans hR.pm).eq_of_pairwise (fun a b _ _ h h2 => Int.le_antisymm h h2) hs (up_sorted _)
        subst e
        refine ⟨_, rfl, _, _, rfl, rfl, _, _, rfl, rfl, .of_le (by decide) (by rw [List.length_map]; omega) (by decide) (by omega), fun q nq => ?_⟩
        have s4 := same_new (o := .lst ((up r.length).map V.int)) np
        refine ⟨.list ((up r.length).map PyData.int), .list ((up r.length).map PyData.int), .lst (.of (same_new nq _ _ upd_same)) (dInts _), .lst (.of (by rw [List.length_map, rgV_up]; exact upd_same)) (dInts _), sh_L _, sh_L _, ?_⟩
        rw [eqv_L, decide_eq_true rfl]
        exact k _ ((s2.trans s3).trans (s4.trans (same_new nq)))
theorem cal_is_row (T : Txt K mg C) : Cal P w K mg base "is_row" 3 (spRow K) := by
  refine T.d_is_row.cal (ps := ["value"]) (fun f fd D => ?_) (fun _ _ _ _ _ _ us hl => match us, hl with | [_], _ => rfl)
  refine D.ok sc_is_row (fun vs H Q E h => ?_) (fun cdv A outer s H vs Q E hr h => ?_)
  · obtain ⟨v, r, rfl, _⟩ := h
    rfl
  · obtain ⟨v, r, rfl, ⟨a, rfl, ha⟩, hR, k⟩ := h
    refine ⟨_, (pss_one (ps_ret (pe_and (pe_callB call_isi (by rfl) T.b_isinstance (by decide +kernel) (pa_cons (pv 0) (pa_cons (pe_bltn (v := .ty "tuple") (by rfl) T.b_tuple (by decide +kernel) rfl) pa_nil))) (pe_and (pe_chain op_le op_le pe_int (pe_callB call_len_seq (by rfl) T.b_len (by decide +kernel) (pa_cons (pv 0) pa_nil)) (C8.pe_gc (v := .int 5) (by rfl) T.g_MOST_PLACES)) (pe_one (pe_cal (cal_are_entries T) (hr.mono (by decide)) (by rfl) (pa_cons (pv 0) (pa_cons pe_int pa_nil)))))))), ?_⟩
    refine ⟨_, rfl, _, _, .type "tuple", _, true, rfl, .ty "tuple", tup_ty ha, kit_ty (by decide +kernel), _, rfl, iteT ?_⟩
    have l2 := hR.lo
    have l5 := hR.hi
    refine ⟨_, rfl, _, _, rfl, .inr ha, _, _, rfl, rfl, _, rfl, ?_⟩
    rw [decide_eq_true (show (2 : Int) ≤ ((r.map V.int).length : Nat) by rw [List.length_map]; omega)]
    refine iteT ⟨_, _, rfl, rfl, _, rfl, ?_⟩
    rw [decide_eq_true (show (((r.map V.int).length : Nat) : Int) ≤ 5 by rw [List.length_map]; omega)]
    exact iteT ⟨_, rfl, _, r, rfl, ⟨a, rfl, ha⟩, hR, k⟩
theorem cal_check_row (T : Txt K mg C) : Cal P w K mg base "check_row" 4 (spCheck K) := by
  refine T.d_check_row.cal (ps := ["row"]) (fun f fd D => ?_) (fun _ _ _ _ _ _ us hl => match us, hl with | [_], _ => rfl)
  refine D.ok sc_check_row (fun vs H Q E h => ?_) (fun cdv A outer s H vs Q E hr h => ?_)
  · obtain ⟨v, r, rfl, _⟩ := h
    rfl
  · obtain ⟨v, r, rfl, ha, hR, k⟩ := h
    refine ⟨_, (pss_one (ps_if (pt_not (pt_val (pe_cal (cal_is_row T) (hr.mono (by decide)) (by rfl) (pa_cons (pv 0) pa_nil)))) (pss_one ps_never) pss_nil)), ?_⟩
    refine ⟨_, rfl, v, r, rfl, ha, hR, fun H' s' => ⟨_, rfl, iteF (k H' s')⟩⟩
end
end Sk

namespace Sk
open PySem PySem.Spec PyProof.Rows L2 Ow
section
variable {X : Cx}
def rIxI (K : PySem.W.Frag) : V → List V → Hp → VK → Prop := fun x xs H Q => ∃ (p : Addr) (ns : List Int) (c : Int), x = .ref p ∧ xs = [.int c] ∧ SqT K H p (ns.map V.int) ∧ c ∈ ns ∧ Q (.int (ns.idxOf c : Nat)) H
/-- where a whole number stands in a tuple of these -/
theorem ix_ints : MtR X "tuple.index" (rIxI X.K) := by
  intro pins s σ H x xs v us Q I rx rs h
  obtain ⟨p, ns, c, rfl, rfl, sq, mem, q⟩ := h
  cases rx
  obtain ⟨u, rfl, t, rfl⟩ := vals1 rs
  obtain ⟨its, rv, pl, _⟩ := I.tuple sq
  exact SeqAt.tuple_index_ints (vs := its) pl (Vals.ints rv) mem ⟨.int _, H, I.tok _, ⟨_, rfl⟩, q⟩
end
end Sk

namespace Sk
open PySem PySem.Spec PyProof.Rows L2 Ow
/-- a made tuple, of which it is known that it has no dict of its own -/
def FT (H : Hp) (a : Addr) (ys : List V) : Prop := ∃ o : Obj, H a = some (.frz o (.tup ys)) ∧ o.cls = .type "tuple" ∧ o.dict = none
theorem FT.sq {K : PySem.W.Frag} {H : Hp} {a : Addr} {ys : List V} (h : FT H a ys) : SqT K H a ys := h.elim fun o z => .inl (.inr ⟨o, z.1⟩)
theorem FT.same {H H' : Hp} {a : Addr} {ys : List V} (h : FT H a ys) (s : Same H H') : FT H' a ys := h.elim fun o z => ⟨o, s _ _ z.1, z.2⟩
section
variable {X : Cx}
/-- tuple(list), with what is known of the new object -/
def rTupF (K : PySem.W.Frag) : List V → Hp → VK → Prop := fun xs H Q => ∃ (p : Addr) (ys : List V), xs = [.ref p] ∧ SqL K H p ys ∧ ∀ (l : Addr) (H' : Hp), H l = none → (∀ q, q ≠ l → H' q = H q) → FT H' l ys → Q (.ref l) H'
theorem call_tupF : CallR X (.type "tuple") (rTupF X.K) := by
  intro pins s σ H xs us Q I rs h
  obtain ⟨p, ys, rfl, sq, q⟩ := h
  obtain ⟨v, rfl, rv⟩ := vals1 rs
  cases rv
  obtain ⟨its, vv, pl, few⟩ := I.list sq
  have ln := vv.length
  refine call_tuple_list pl.isList (fun g kp => ?_) (by simp only [List.size_toArray]; omega)
  have J : Inv X pins σ H { s with heap := g } := I.kept (t' := s.toks) kp
  have free := J.hok.fresh (Nat.le_refl g.objs.size)
  have J2 := J.laid (t' := s.toks) (o := .frz { cls := .type "tuple", data := .seq its.toArray } (.tup ys)) (h' := g.push { cls := .type "tuple", data := .seq its.toArray }) (fun b o e => Heap.get?_push_of_some _ e) (Nat.le_refl g.objs.size) ⟨Heap.get?_push_size _ rfl, few, its, vv, IsTup.new _ _⟩
  exact ⟨.ref g.objs.size, _, J2, rfl, q _ _ free (fun b hb => upd_ne hb) ⟨_, upd_same, rfl, rfl⟩⟩
variable {o e : Expr} {to : TE} {t : TA} {name : Str} {apos cpos : Pos} {id : String} {r : V → List V → Hp → VK → Prop}
/-- t.m(e), t such a tuple -/
def tTM (r : V → List V → Hp → VK → Prop) (to : TE) (t : TA) : TE := fun σ H Q => to σ H fun x H1 => (∃ a ys, x = .ref a ∧ FT H1 a ys) ∧ t σ H1 fun xs H2 => r x xs H2 Q
theorem pe_tm (slot : Slot "tuple" name id) (hty : typeOf (.builtin id) = pure (.type "method_descriptor")) (hm : MtR X id r) (ho : PE X o to) (ha : PA X [e] t)
    (h1 : attributeBase o name X.env (eval o X.env) = eval o X.env := by rfl)
    (h2 : ((backTo cpos (starEach [e] X.env)).all (fun x => !x.1) && (backToKw cpos (keywordEach [] X.env)).all (fun x => x.1.isSome) && decide (([e] : List Expr).length + ([] : List Keyword).length + (if ([] : List Keyword).isEmpty then 0 else 1) < 30)) = true := by rfl)
    (h3 : (apos.endLine == cpos.line) = true := by rfl) (h4 : starEach [e] X.env = (false, eval e X.env) :: starEach [] X.env := by rfl) (h5 : (backTo cpos (starEach [] X.env)).any (·.1) = false := by rfl) :
    PE X (.Call (.Attribute o name apos) [e] [] cpos) (tTM r to t) := by
  refine ⟨fun pins s σ H Q I h => ?_⟩
  refine wpAny_Call_method_late h1 h2 h3 rfl (thn (ho.run pins s σ H _ I h) fun v s1 ⟨x, H1, I1, r1, ⟨a, ys, ex, ob, hob, hcl, hdi⟩, q1⟩ => ?_)
  subst ex
  cases r1
  have live := (I1.hok a _ hob).1
  refine ⟨"tuple", id, PySem.F.plainAttrs_tuple, slot, hty, ⟨ob, live, hcl⟩, fun b eb => ?_, ?_⟩
  · cases eb
    exact ⟨ob, live, hdi⟩
  · have go := ha.run cpos pins s1 σ H1 _ I1 q1
    rw [h4] at go ⊢
    refine Calls.callWith_builtin (by show (false || (backTo cpos (starEach [] X.env)).any (·.1)) = false; rw [h5] <;> rfl) (Calls.evalArgs_plain ?_)
    exact thn go fun us s2 ⟨vs, H2, I2, r2, q2⟩ => hm pins s2 σ H2 (.ref a) vs (.ref a) us Q I2 rfl r2 q2
end
end Sk

namespace Sk
open PySem L2 Ow
/-- a made tuple of whole numbers -/
def RT (H : Hp) (v : V) (r : List Int) : Prop := ∃ a, v = .ref a ∧ FT H a (r.map V.int)
theorem RT.ti {K : PySem.W.Frag} {H : Hp} {v : V} {r : List Int} (h : RT H v r) : TI K H v r := h.elim fun a z => ⟨a, z.1, z.2.sq⟩
theorem RT.same {H H' : Hp} {v : V} {r : List Int} (h : RT H v r) (s : Same H H') : RT H' v r := h.elim fun a z => ⟨a, z.1, z.2.same s⟩
theorem RT.but {H H' : Hp} {v : V} {r : List Int} {p : Addr} (h : RT H v r) (o : Off p H H') (b : VatAt H p) : RT H' v r := by
  obtain ⟨a, rfl, ob, h1, h2⟩ := h
  obtain ⟨_, _, _, hp⟩ := b
  exact ⟨a, rfl, ob, o _ _ (fun e => by rw [e, hp] at h1; cases h1) h1, h2⟩
def spSome (K : PySem.W.Frag) : Sp := fun vs H Q _ => ∃ (p : Addr) (n : Int), vs = [.ref p, .int n] ∧ VatAt H p ∧ 2 ≤ n ∧ n ≤ 5 ∧ ∀ (v : V) (r : List Int) (H' : Hp), Off p H H' → VatAt H' p → RT H' v r → IsRow r → ((r.length : Nat) : Int) = n → Q v H'
theorem erase_map {α β : Type} {f : α → β} : ∀ (l : List α) (k : Nat), (l.map f).eraseIdx k = (l.eraseIdx k).map f
  | [], _ => rfl
  | _ :: _, 0 => rfl
  | a :: l, k + 1 => by
    rw [List.map_cons, List.eraseIdx_cons_succ, List.eraseIdx_cons_succ, List.map_cons, erase_map l k]
theorem erase_perm : ∀ {l : List Int} {i : Nat} (h : i < l.length), (l[i] :: l.eraseIdx i).Perm l
  | a :: l, 0, _ => .refl _
  | a :: l, i + 1, h => by
    rw [List.eraseIdx_cons_succ, List.getElem_cons_succ]
    exact (List.Perm.swap a _ _).trans ((erase_perm (l := l) (i := i) (by simpa using h)).cons a)
section
variable {P : Program} {w : World} {K : PySem.W.Frag} {mg : Str → Option Value} {base : Heap} {C : Addr}
theorem cal_l_some_row (T : Txt K mg C) : Cal P w K mg base "_law_some_row" 2 (spSome K) := by
  refine T.d_l_some_row.cal (ps := ["_law_vat_here", "_law_places"]) (fun f fd D => ?_) (fun _ _ _ _ _ _ us hl => match us, hl with | [_, _], _ => rfl)
  refine D.ok sc_l_some_row (fun vs H Q E h => ?_) (fun cdv A outer s H vs Q E hr h => ?_)
  · obtain ⟨_, _, rfl, _⟩ := h
    rfl
  · obtain ⟨p, n, rfl, hb, n2, n5, k⟩ := h
    refine ⟨_, (pss_cons (ps_par (i := 2) (j := 3) rfl sc_l_some_row.nd rfl rfl (by decide) rfl rfl (pa_cons (pe_listRg rfl (by rfl) T.b_list (prg_2 (by rfl) T.b_range pe_int (pe_op op_add (pv 1) pe_int))) (pa_cons (pe_lst pa_nil) pa_nil)) rfl)
      (pss_cons (ps_while PassesOwn.never (pt_cmpR (op_neD hr.units) (pv 2) (pe_lst pa_nil) (nomark _)) (pss_one (ps_expr (pe_bm PySem.F.plainAttrs_list PySem.F.slot_list_append PySem.F.type_list_append mt_append (pv 3) (pa_cons (pe_bm PySem.F.plainAttrs_list PySem.F.slot_list_pop PySem.F.type_list_pop mt_popAt (pv 2) (pa_cons (pe_cal (cal_l_sip T) (hr.mono (by decide)) (by rfl) (pa_cons (pv 0) (pa_cons (pe_callB call_len_seq (by rfl) T.b_len (by decide +kernel) (pa_cons (pv 2) pa_nil)) pa_nil))) pa_nil)) pa_nil)))))
      (pss_one (ps_ret (pe_callTy call_tupF (by rfl) T.b_tuple (by decide +kernel) (pa_cons (pv 3) pa_nil)))))), ?_⟩
    refine ⟨_, rfl, _, _, rfl, rfl, _, _, rfl, rfl, .of_le (by decide) (by omega) (by decide) (by omega), fun l nl => ⟨Nat.zero_le _, fun g ng => ⟨_, _, rfl, ?_⟩⟩⟩
    have s1 := same_new (o := .lst (rgV 1 (n + 1))) nl
    have s2 := s1.trans (same_new (o := .lst []) ng)
    have nlp := vat_ne hb nl
    have ngp := vat_ne (hb.same s1) ng
    have ngl : g ≠ l := fun e => by rw [e, upd_same] at ng; cases ng
    have nH : H g = none := by
      rw [upd_ne ngl] at ng
      exact ng
    refine while_by (fun σ H' => σ = [some (.ref p), some (.int n), some (.ref l), some (.ref g)] ∧ Off p H H' ∧ VatAt H' p ∧ ∃ ls fs : List Int, H' l = some (.lst (ls.map V.int)) ∧ H' g = some (.lst (fs.map V.int)) ∧ (fs ++ ls).Perm (up n.toNat)) (fun _ H' => lenAt H' l) ?_ ?_ ?_
    · refine ⟨rfl, .of_same s2, hb.same s2, up n.toNat, [], ?_, upd_same, .refl _⟩
      rw [upd_ne ngl.symm, upd_same]
      have := rgV_up n.toNat
      rw [show ((n.toNat : Nat) : Int) = n by omega] at this
      rw [this]
    · rintro _ H3 ⟨rfl, b3, v3, ls, fs, hl, hf, hp⟩
      refine ⟨_, rfl, Nat.zero_le _, fun e ne => ⟨_, _, .lst (.of (same_new ne _ _ hl)) (dInts ls), .lst (.of upd_same) .nil, sh_L ls, sh_L [], ?_⟩⟩
      have hq : PyData.eqv (.list (ls.map PyData.int)) (.list []) = decide (ls = []) := eqv_L ls []
      rw [hq]
      refine ⟨_, rfl, ?_⟩
      have se := same_new (o := .lst []) ne
      by_cases hls : ls = []
      · subst hls
        refine iteF ⟨_, rfl, _, _, rfl, .of (se _ _ hf), fun t H6 nt ex ft => ?_⟩
        have s6 : Same (upd H3 e (.lst [])) H6 := fun u w z => by rw [ex u (ne_of_none z nt)]; exact z
        have hpm : fs.Perm (up n.toNat) := by simpa using hp
        have hlen : fs.length = n.toNat := by rw [hpm.length_eq, up_length]
        refine k _ fs _ ((b3.trans (.of_same se)).trans (.of_same s6)) ((v3.same se).same s6) ⟨t, rfl, ft⟩ ⟨by omega, by omega, by rw [hlen]; exact hpm⟩ (by rw [hlen]; omega)
      · rw [decide_eq_false hls]
        refine iteT ?_
        have hl4 := se _ _ hl
        have hf4 := se _ _ hf
        have hpos : 0 < ls.length := List.length_pos_iff.mpr hls
        have htot : fs.length + ls.length = n.toNat := by rw [← List.length_append, hp.length_eq, up_length]
        refine ⟨_, rfl, .inl ⟨rfl, _, .of hf4⟩, _, rfl, .inl ⟨rfl, _, .of hl4⟩, _, rfl, _, rfl, _, _, rfl, .inl (.of hl4), p, _, rfl, by rw [List.length_map]; omega, ?_, v3.same se, fun i H5 i0 i1 o5 v5 => ?_⟩
        · rw [List.length_map]
          exact Nat.lt_of_le_of_lt (show ((ls.length : Nat) : Int).natAbs ≤ 5 by omega) (by decide)
        · rw [List.length_map] at i1
          have hi : i.toNat < ls.length := by omega
          have hl5 := o5 _ _ nlp hl4
          have hf5 := o5 _ _ ngp hf4
          refine ⟨l, _, i, i.toNat, .int ls[i.toNat], rfl, rfl, hl5, by omega, by omega, (ixN_seq (by unfold ixN; rw [List.length_map, if_pos i0, if_pos i1])).1, by rw [List.getElem?_map, List.getElem?_eq_getElem hi]; rfl, ?_⟩
          refine ⟨g, _, _, rfl, rfl, by rw [upd_ne ngl]; exact hf5, by rw [List.length_map]; exact small1000 (by omega), ⟨rfl, ?_, ?_, ls.eraseIdx i.toNat, fs ++ [ls[i.toNat]], ?_, ?_, ?_⟩, ?_⟩
          · intro u w hu hw
            rw [upd_ne (fun e => by rw [e, nH] at hw; cases hw), upd_ne (fun e => by rw [e, nl] at hw; cases hw)]
            exact o5 _ _ hu (se _ _ (b3 _ _ hu hw))
          · obtain ⟨b0, b1, b2, hv⟩ := v5
            exact ⟨b0, b1, b2, by rw [upd_ne ngp.symm, upd_ne nlp.symm]; exact hv⟩
          · rw [upd_ne ngl.symm, upd_same, erase_map]
          · rw [upd_same, List.map_append]
            rfl
          · rw [List.append_assoc]
            exact (List.Perm.append_left fs (erase_perm hi)).trans hp
          · show lenAt (upd (upd H5 l _) g _) l < lenAt H3 l
            unfold lenAt
            rw [upd_ne ngl.symm, upd_same, hl]
            show (List.eraseIdx (ls.map V.int) i.toNat).length < (ls.map V.int).length
            rw [List.length_eraseIdx, if_pos (by rw [List.length_map]; exact hi), List.length_map]
            omega
    · rintro σ H Q Q' hq ⟨v, hv, h0, h⟩
      refine ⟨v, hv, h0, fun e ne => ?_⟩
      obtain ⟨d, e', h1, h2, h3, h4, c, h5, h6⟩ := h e ne
      exact ⟨d, e', h1, h2, h3, h4, c, h5, hq _ _ h6⟩
end
end Sk

namespace Sk
open PySem L2 Ow
/-- the row that undoes a row -/
def inv (r : List Int) : List Int := (up r.length).map fun e => ((r.idxOf e : Nat) : Int) + 1
def spUndone (K : PySem.W.Frag) : Sp := fun vs H Q _ => ∃ (rv : V) (r : List Int), vs = [rv] ∧ RT H rv r ∧ IsRow r ∧ ∀ v H', Same H H' → TI K H' v (inv r) → Q v H'
section
variable {P : Program} {w : World} {K : PySem.W.Frag} {mg : Str → Option Value} {base : Heap} {C : Addr}
theorem cal_l_undone (T : Txt K mg C) : Cal P w K mg base "_law_undone" 1 (spUndone K) := by
  refine T.d_l_undone.cal (ps := ["_law_row"]) (fun f fd D => ?_) (fun _ _ _ _ _ _ us hl => match us, hl with | [_], _ => rfl)
  refine D.ok sc_l_undone (fun vs H Q E h => ?_) (fun cdv A outer s H vs Q E hr h => ?_)
  · obtain ⟨_, _, rfl, _⟩ := h
    rfl
  · obtain ⟨_, r, rfl, ⟨ra, rfl, hft⟩, hR, k⟩ := h
    have hra : SqT K H ra (r.map V.int) := hft.sq
    have l5 := hR.hi
    refine ⟨_, (pss_one (ps_ret (pe_callTy call_tuple_of (by rfl) T.b_tuple (by decide +kernel) (pa_cons (pe_lc (own := [("_law_entry", 1)]) (g := gName 1) (tt := tYes) rfl sc_l_undone.nd (pi_range2 (by rfl) T.b_range (pa_cons pe_int (pa_cons (pe_op op_add (pe_callB call_len_seq (by rfl) T.b_len (by decide +kernel) (pa_cons (pv 0) pa_nil)) pe_int) pa_nil))) (blkOk_by (own := [("_law_entry", 1)]) (N := ["_law_row", "_law_entry"]) (sc := defScope s_l_undone) (by decide +kernel)) (fun _ _ _ _ _ => (pg_name (i := 1) sc_l_undone.nd rfl (Or.inl rfl))) (fun _ _ _ _ _ => pts_nil) (fun _ _ _ _ _ => (pe_op op_add (show PE _ _ (tTM (rIxI K) (tVar 0) (tCons (tVar 1) tNil)) from pe_tm PySem.F.slot_tuple_index PySem.F.type_tuple_index (show MtR _ _ (rIxI K) from ix_ints) (pv 0) (pa_cons (pv 1) pa_nil)) pe_int))) pa_nil)))), ?_⟩
    refine ⟨_, rfl, _, _, rfl, .inr hra, _, _, rfl, rfl, _, _, rfl, ⟨by decide, by decide, by rw [List.length_map]; omega, by rw [List.length_map]; omega⟩, ?_⟩
    rw [show ((((r.map V.int).length : Nat) : Int) + 1 - 1).toNat = r.length by rw [List.length_map]; omega]
    intro D nD
    refine lc_range (lo := 1) (n := r.length) (fun i H' => Same H H' ∧ H' D = some (.lst (((inv r).take i).map V.int))) ⟨same_new nD, upd_same⟩ ?_ ?_
    · rintro i H2 hi ⟨s2, hD⟩
      have hu : (up r.length)[i]? = some ((1 : Int) + (i : Nat)) := by
        unfold up
        rw [List.getElem?_map, List.getElem?_range hi]
        rfl
      have hv : (inv r)[i]? = some (((r.idxOf ((1 : Int) + (i : Nat)) : Nat) : Int) + 1) := by
        unfold inv
        rw [List.getElem?_map, hu]
        rfl
      refine ⟨rfl, _, rfl, ⟨ra, _, rfl, hft.same s2⟩, _, rfl, ra, r, _, rfl, rfl, sqT_same s2 hra, hR.mem.mpr ⟨by omega, by omega⟩, _, _, rfl, rfl, _, hD, ?_, same_off nD s2 off_upd, ?_⟩
      · rw [List.length_map, List.length_take]
        exact small1000 (by omega)
      · rw [upd_same, take_snoc hv, List.map_append]
        rfl
    · rintro H2 ⟨s2, hD⟩
      rw [List.take_of_length_le (by unfold inv; rw [List.length_map, up_length]; exact Nat.le_refl _)] at hD
      exact ⟨_, _, rfl, .inl ⟨.of hD, fun t nt => k _ _ (s2.trans (same_new nt)) ⟨t, rfl, .of upd_same⟩⟩⟩
end
end Sk

namespace Sk
/-! rows, by looking at all of them -/
def pr : Nat → List Int → List (List Int)
  | 0, _ => [[]]
  | k + 1, av => av.flatMap fun x => (pr k (av.erase x)).map (x :: ·)
theorem pr_mem : ∀ {k : Nat} {av r : List Int}, r.Perm av → av.length = k → r ∈ pr k av
  | 0, av, r, h, e => by
    have : r.length = 0 := h.length_eq.trans e
    rw [List.eq_nil_of_length_eq_zero this]
    simp [pr]
  | k + 1, av, [], h, e => by
    have := h.length_eq
    rw [e] at this
    cases this
  | k + 1, av, x :: r, h, e => by
    obtain ⟨h1, h2⟩ := List.cons_perm_iff_perm_erase.mp h
    unfold pr
    rw [List.mem_flatMap]
    refine ⟨x, h1, List.mem_map.mpr ⟨r, pr_mem h2 ?_, rfl⟩⟩
    rw [List.length_erase_of_mem h1, e]
    rfl
def allRows : List (List Int) := pr 2 (up 2) ++ pr 3 (up 3) ++ pr 4 (up 4) ++ pr 5 (up 5)
theorem mem_all {r : List Int} (h : IsRow r) : r ∈ allRows := by
  have h1 := h.lo
  have h2 := h.hi
  have h3 := h.pm
  unfold allRows
  simp only [List.mem_append]
  have : r.length = 2 ∨ r.length = 3 ∨ r.length = 4 ∨ r.length = 5 := by omega
  rcases this with e | e | e | e <;> rw [e] at h3
  · exact .inl (.inl (.inl (pr_mem h3 (up_length 2))))
  · exact .inl (.inl (.inr (pr_mem h3 (up_length 3))))
  · exact .inl (.inr (pr_mem h3 (up_length 4)))
  · exact .inr (pr_mem h3 (up_length 5))
theorem rows_all {p : List Int → Bool} (h : allRows.all p = true) {r : List Int} (hr : IsRow r) : p r = true := List.all_eq_true.mp h r (mem_all hr)
/-- the letters of the rows of so many entries -/
def lets (r : List Int) : List Int := upto ((r.length : Nat) - 1 : Int)
theorem rows_let {p : List Int → Int → Bool} (h : (allRows.all fun r => (lets r).all fun l => p r l) = true) {r : List Int} (hr : IsRow r) {l : Int} (h0 : 0 ≤ l) (h1 : l < (r.length : Nat) - 1) : p r l = true :=
  List.all_eq_true.mp (rows_all h hr) l (mem_upto.mpr ⟨h0, h1⟩)
def isRowB (r : List Int) : Bool := decide (2 ≤ r.length) && decide (r.length ≤ 5) && r.isPerm (up r.length)
theorem isRowB_iff {r : List Int} : isRowB r = true ↔ IsRow r := by
  unfold isRowB
  simp only [Bool.and_eq_true, decide_eq_true_eq, List.isPerm_iff]
  exact ⟨fun h => ⟨h.1.1, h.1.2, h.2⟩, fun h => ⟨⟨h.lo, h.hi⟩, h.pm⟩⟩
/-- two neighbours change places -/
def sw (r : List Int) (l : Int) : List Int := (r.set l.toNat (r.getD (l + 1).toNat 0)).set (l + 1).toNat (r.getD l.toNat 0)
/-- two neighbouring entries change places -/
def ahl (l : Int) (r : List Int) : List Int := r.map fun e => if e = l + 1 then l + 2 else if e = l + 2 then l + 1 else e
def falls (r : List Int) : List Int := (lets r).filter fun i => decide (r.getD i.toNat 0 > r.getD (i + 1).toNat 0)
def invsAt (r : List Int) (i : Nat) : Nat := ((r.drop (i + 1)).filter fun o => decide (o < r.getD i 0)).length
def invs (r : List Int) : Int := (((List.range r.length).map fun i => ((invsAt r i : Nat) : Int))).sum
def nrm : Nat → List Int → List Int
  | 0, _ => []
  | k + 1, r => match falls r with
    | [] => []
    | l :: _ => l :: nrm k (sw r l)
def diffs (r : List Int) : List (List Int) := (lets r).map fun i => [r.getD (i + 1).toNat 0 - r.getD i.toNat 0, 0]
def rlk (n : Int) : List (List (List Int)) := lkOf (nb 0 n) n
theorem sw_row {r : List Int} (h : IsRow r) {l : Int} (h0 : 0 ≤ l) (h1 : l < (r.length : Nat) - 1) : IsRow (sw r l) :=
  isRowB_iff.mp (rows_let (p := fun r l => isRowB (sw r l)) (by decide +kernel) h h0 h1)
theorem ahl_row {r : List Int} (h : IsRow r) {l : Int} (h0 : 0 ≤ l) (h1 : l < (r.length : Nat) - 1) : IsRow (ahl l r) :=
  isRowB_iff.mp (rows_let (p := fun r l => isRowB (ahl l r)) (by decide +kernel) h h0 h1)
theorem inv_row {r : List Int} (h : IsRow r) : IsRow (inv r) := isRowB_iff.mp (rows_all (p := fun r => isRowB (inv r)) (by decide +kernel) h)
theorem inv_length (r : List Int) : (inv r).length = r.length := by unfold inv; rw [List.length_map, up_length]
theorem sw_length (r : List Int) (l : Int) : (sw r l).length = r.length := by unfold sw; rw [List.length_set, List.length_set]
theorem ahl_length (r : List Int) (l : Int) : (ahl l r).length = r.length := by unfold ahl; rw [List.length_map]
theorem up_row {n : Nat} (h0 : 2 ≤ n) (h1 : n ≤ 5) : IsRow (up n) := ⟨by rw [up_length]; exact h0, by rw [up_length]; exact h1, by rw [up_length]⟩
theorem inv_inv {r : List Int} (h : IsRow r) : inv (inv r) = r := eq_of_beq (rows_all (p := fun r => inv (inv r) == r) (by decide +kernel) h)
theorem inv_sw {r : List Int} (h : IsRow r) {l : Int} (h0 : 0 ≤ l) (h1 : l < (r.length : Nat) - 1) : inv (sw r l) = ahl l (inv r) :=
  eq_of_beq (rows_let (p := fun r l => inv (sw r l) == ahl l (inv r)) (by decide +kernel) h h0 h1)
theorem inv_ahl {r : List Int} (h : IsRow r) {l : Int} (h0 : 0 ≤ l) (h1 : l < (r.length : Nat) - 1) : inv (ahl l r) = sw (inv r) l :=
  eq_of_beq (rows_let (p := fun r l => inv (ahl l r) == sw (inv r) l) (by decide +kernel) h h0 h1)
theorem invs_fall {r : List Int} (h : IsRow r) {l : Int} {ls : List Int} (e : falls r = l :: ls) : 0 ≤ l ∧ l < (r.length : Nat) - 1 ∧ invs (sw r l) + 1 = invs r := by
  have m : l ∈ falls r := by rw [e]; simp
  have b := mem_upto.mp (List.mem_filter.mp m).1
  have := rows_let (p := fun r l => !(falls r).contains l || decide (invs (sw r l) + 1 = invs r)) (by decide +kernel) h b.1 b.2
  rw [Bool.or_eq_true, decide_eq_true_eq] at this
  rcases this with h2 | h2
  · rw [List.contains_iff_mem.mpr m] at h2
    cases h2
  · exact ⟨b.1, b.2, h2⟩
theorem invs_zero {r : List Int} (h : IsRow r) (e : invs r = 0) : falls r = [] := by
  have := rows_all (p := fun r => !decide (invs r = 0) || decide (falls r = [])) (by decide +kernel) h
  rw [Bool.or_eq_true, decide_eq_true_eq] at this
  rcases this with h2 | h2
  · rw [e] at h2
    cases h2
  · exact h2
theorem invs_le {r : List Int} (h : IsRow r) : 0 ≤ invs r ∧ invs r ≤ 10 := by
  have := rows_all (p := fun r => decide (0 ≤ invs r) && decide (invs r ≤ 10)) (by decide +kernel) h
  simpa using this
/-- the falls that are taken, one behind the other, until none is left -/
inductive FR : List Int → List Int → Prop
  | done {r : List Int} : falls r = [] → FR r []
  | step {r : List Int} {l : Int} {ls ws : List Int} : falls r = l :: ls → FR (sw r l) ws → FR r (l :: ws)
theorem fr_nrm : ∀ {k : Nat} {r : List Int}, IsRow r → invs r ≤ k → FR r (nrm k r)
  | 0, r, h, e => .done (invs_zero h (by have := (invs_le h).1; omega))
  | k + 1, r, h, e => by
    unfold nrm
    cases c : falls r with
    | nil => exact .done c
    | cons l ls =>
      have b := invs_fall h c
      exact .step c (fr_nrm (sw_row h b.1 b.2.1) (by omega))
theorem fun_nrm_len : ∀ (k : Nat) (r : List Int), (nrm k r).length ≤ k
  | 0, r => Nat.le_refl _
  | k + 1, r => by
    unfold nrm
    split
    · exact Nat.zero_le _
    · rw [List.length_cons]
      exact Nat.succ_le_succ (fun_nrm_len k _)
/-- the word of a row -/
def W (r : List Int) : List Int := nrm 10 (inv r)
/-- the row of a word -/
def Rw (n : Nat) (ws : List Int) : List Int := ws.foldl sw (up n)
theorem fr_row {r : List Int} (h : IsRow r) : FR r (nrm 10 r) := fr_nrm h (invs_le h).2
theorem FR.det : ∀ {r ws us : List Int}, FR r ws → FR r us → ws = us
  | _, _, _, .done _, .done _ => rfl
  | _, _, _, .done e, .step e' _ => by rw [e] at e'; cases e'
  | _, _, _, .step e _, .done e' => by rw [e] at e'; cases e'
  | _, _, _, .step e h, .step e' h' => by
    rw [e] at e'
    injection e' with e1 e2
    subst e1
    rw [FR.det h h']
theorem W_len {r : List Int} (h : IsRow r) : (((W r).length : Nat) : Int) = invs r := by
  have := rows_all (p := fun r => decide ((((W r).length : Nat) : Int) = invs r)) (by decide +kernel) h
  exact of_decide_eq_true this
theorem Rw_W {r : List Int} (h : IsRow r) : Rw r.length (W r) = r := eq_of_beq (rows_all (p := fun r => Rw r.length (W r) == r) (by decide +kernel) h)
theorem Rw_back {r : List Int} (h : IsRow r) : Rw r.length (nrm 10 r).reverse = r := eq_of_beq (rows_all (p := fun r => Rw r.length (nrm 10 r).reverse == r) (by decide +kernel) h)
theorem nrm_in {r : List Int} (h : IsRow r) : ∀ l ∈ nrm 10 r, 0 ≤ l ∧ l < (r.length : Nat) - 1 := fun l hl => by
  have := List.all_eq_true.mp (rows_all (p := fun r => (nrm 10 r).all fun l => decide (0 ≤ l) && decide (l < (r.length : Nat) - 1)) (by decide +kernel) h) l hl
  simpa using this
/-- the steps of the states are those of rows -/
theorem put_diffs {r : List Int} (h : IsRow r) {l : Int} (h0 : 0 ≤ l) (h1 : l < (r.length : Nat) - 1) : putA (rlk ((r.length : Nat) - 1)) (diffs r) l = diffs (sw r l) :=
  eq_of_beq (rows_let (p := fun r l => putA (rlk ((r.length : Nat) - 1)) (diffs r) l == diffs (sw r l)) (by decide +kernel) h h0 h1)
theorem lefts_diffs {r : List Int} (h : IsRow r) : lefts (diffs r) = falls r := eq_of_beq (rows_all (p := fun r => lefts (diffs r) == falls r) (by decide +kernel) h)
theorem fine_diffs (r : List Int) : Fine (diffs r) := fun x hx => by
  unfold diffs at hx
  obtain ⟨i, _, rfl⟩ := List.mem_map.mp hx
  exact .inl rfl
theorem runs_fr : ∀ {r ws : List Int}, IsRow r → FR r ws → Runs (rlk ((r.length : Nat) - 1)) (diffs r) ws
  | r, _, h, .done e => .done (fine_diffs r) (by rw [lefts_diffs h]; exact e)
  | r, _, h, .step e f => by
    have b := invs_fall h e
    refine .step (fine_diffs r) (by rw [lefts_diffs h]; exact e) ?_
    rw [put_diffs h b.1 b.2.1]
    have := runs_fr (sw_row h b.1 b.2.1) f
    rw [sw_length] at this
    exact this
/-- words of letters of so many places -/
def Lt (n : Nat) (ws : List Int) : Prop := ∀ l ∈ ws, 0 ≤ l ∧ l < (n : Nat) - 1
theorem fold_row : ∀ {ws : List Int} {r : List Int}, IsRow r → Lt r.length ws → IsRow (ws.foldl sw r) ∧ (ws.foldl sw r).length = r.length
  | [], _, h, _ => ⟨h, rfl⟩
  | l :: ws, r, h, hl => by
    have b := hl l (by simp)
    have := fold_row (ws := ws) (sw_row h b.1 b.2) (fun x hx => by rw [sw_length]; exact hl x (by simp [hx]))
    rw [sw_length] at this
    exact this
theorem Rw_row {n : Nat} (h0 : 2 ≤ n) (h1 : n ≤ 5) {ws : List Int} (hl : Lt n ws) : IsRow (Rw n ws) ∧ (Rw n ws).length = n := by
  have := fold_row (up_row h0 h1) (ws := ws) (by rw [up_length]; exact hl)
  rw [up_length] at this
  exact this
theorem fold_diffs : ∀ {ws : List Int} {r : List Int}, IsRow r → Lt r.length ws → ws.foldl (putA (rlk ((r.length : Nat) - 1))) (diffs r) = diffs (ws.foldl sw r)
  | [], _, _, _ => rfl
  | l :: ws, r, h, hl => by
    have b := hl l (by simp)
    rw [List.foldl_cons, List.foldl_cons, put_diffs h b.1 b.2]
    have := fold_diffs (ws := ws) (sw_row h b.1 b.2) (fun x hx => by rw [sw_length]; exact hl x (by simp [hx]))
    rw [sw_length] at this
    exact this
theorem first_diffs {n : Nat} (h0 : 2 ≤ n) (h1 : n ≤ 5) : first (n - 1) = diffs (up n) := by
  have : n = 2 ∨ n = 3 ∨ n = 4 ∨ n = 5 := by omega
  rcases this with rfl | rfl | rfl | rfl <;> decide +kernel
theorem st_rows {n : Nat} (h0 : 2 ≤ n) (h1 : n ≤ 5) {ws : List Int} (hl : Lt n ws) : stOf (nb 0 ((n : Int) - 1)) ((n : Int) - 1) ws = diffs (Rw n ws.reverse) := by
  unfold stOf aheadW
  rw [show ((n : Int) - 1).toNat = n - 1 by omega, first_diffs h0 h1]
  have hl' : Lt n ws.reverse := fun l h => hl l (List.mem_reverse.mp h)
  have := fold_diffs (up_row h0 h1) (ws := ws.reverse) (by rw [up_length]; exact hl')
  rw [up_length] at this
  exact this
/-- letters ahead and behind go past one another -/
theorem ahl_sw (l m : Int) (r : List Int) (h0 : 0 ≤ m) (h1 : m < (r.length : Nat) - 1) : ahl l (sw r m) = sw (ahl l r) m := by
  unfold ahl sw
  rw [List.map_set, List.map_set]
  have g : ∀ {i : Nat}, i < r.length → (r.map fun e => if e = l + 1 then l + 2 else if e = l + 2 then l + 1 else e).getD i 0 = (if r.getD i 0 = l + 1 then l + 2 else if r.getD i 0 = l + 2 then l + 1 else r.getD i 0) := fun {i} hi => by
    simp [List.getD_eq_getElem?_getD, List.getElem?_eq_getElem hi]
  rw [g (by omega), g (by omega)]
theorem ahl_up {n : Nat} (h0 : 2 ≤ n) (h1 : n ≤ 5) {l : Int} (l0 : 0 ≤ l) (l1 : l < (n : Nat) - 1) : ahl l (up n) = sw (up n) l := by
  have := rows_let (p := fun r l => ahl l (up r.length) == sw (up r.length) l) (by decide +kernel) (up_row h0 h1) l0 (by rw [up_length]; exact l1)
  rw [up_length] at this
  exact eq_of_beq this
theorem fold_ahl (l : Int) : ∀ {ws : List Int} {r : List Int}, Lt r.length ws → ahl l (ws.foldl sw r) = ws.foldl sw (ahl l r)
  | [], _, _ => rfl
  | m :: ws, r, hl => by
    have b := hl m (by simp)
    rw [List.foldl_cons, List.foldl_cons, fold_ahl l (ws := ws) (r := sw r m) (fun x hx => by rw [sw_length]; exact hl x (by simp [hx])), ahl_sw l m r b.1 b.2]
theorem Rw_cons {n : Nat} (h0 : 2 ≤ n) (h1 : n ≤ 5) {l : Int} {ws : List Int} (l0 : 0 ≤ l) (l1 : l < (n : Nat) - 1) (hl : Lt n ws) : Rw n (l :: ws) = ahl l (Rw n ws) := by
  unfold Rw
  rw [List.foldl_cons, fold_ahl l (by rw [up_length]; exact hl), ahl_up h0 h1 l0 l1]
theorem Rw_snoc (n : Nat) (ws : List Int) (l : Int) : Rw n (ws ++ [l]) = sw (Rw n ws) l := by unfold Rw; rw [List.foldl_append]; rfl
theorem list_snoc {P : List Int → Prop} (h0 : P []) (hs : ∀ ws l, P ws → P (ws ++ [l])) (ws : List Int) : P ws := by
  have : ∀ us : List Int, P us.reverse := fun us => by
    induction us with
    | nil => exact h0
    | cons a us ih => rw [List.reverse_cons]; exact hs _ _ ih
  have := this ws.reverse
  rw [List.reverse_reverse] at this
  exact this
theorem inv_Rw {n : Nat} (h0 : 2 ≤ n) (h1 : n ≤ 5) (ws : List Int) : Lt n ws → inv (Rw n ws) = Rw n ws.reverse := by
  refine list_snoc (P := fun ws => Lt n ws → inv (Rw n ws) = Rw n ws.reverse) ?_ ?_ ws
  · intro _
    have : n = 2 ∨ n = 3 ∨ n = 4 ∨ n = 5 := by omega
    rcases this with rfl | rfl | rfl | rfl <;> decide +kernel
  · intro ws l ih hl
    have hw : Lt n ws := fun x hx => hl x (by simp [hx])
    have b := hl l (by simp)
    have hr := Rw_row h0 h1 hw
    rw [Rw_snoc, inv_sw hr.1 b.1 (by rw [hr.2]; exact b.2), ih hw, List.reverse_append, List.reverse_cons, List.reverse_nil, List.nil_append, List.singleton_append]
    exact (Rw_cons h0 h1 b.1 b.2 fun x hx => hw x (List.mem_reverse.mp hx)).symm
/-- a row behind another one -/
def comp (a b : List Int) : List Int := b.map fun e => a.getD (e - 1).toNat 0
theorem comp_sw (a b : List Int) {m : Int} (h0 : 0 ≤ m) (h1 : m < (b.length : Nat) - 1) : comp a (sw b m) = sw (comp a b) m := by
  unfold comp sw
  rw [List.map_set, List.map_set]
  have g : ∀ {i : Nat}, i < b.length → (b.map fun e => a.getD (e - 1).toNat 0).getD i 0 = a.getD (b.getD i 0 - 1).toNat 0 := fun {i} hi => by
    rw [List.getD_eq_getElem?_getD, List.getElem?_map, List.getElem?_eq_getElem hi]
    show a.getD (b[i] - 1).toNat 0 = _
    rw [show b.getD i 0 = b[i] by rw [List.getD_eq_getElem?_getD, List.getElem?_eq_getElem hi]; rfl]
  rw [g (by omega), g (by omega)]
theorem comp_up {r : List Int} (h : IsRow r) : comp r (up r.length) = r := eq_of_beq (rows_all (p := fun r => comp r (up r.length) == r) (by decide +kernel) h)
theorem Rw_append {n : Nat} (h0 : 2 ≤ n) (h1 : n ≤ 5) {ws : List Int} (hw : Lt n ws) (zs : List Int) : Lt n zs → Rw n (ws ++ zs) = comp (Rw n ws) (Rw n zs) := by
  refine list_snoc (P := fun zs => Lt n zs → Rw n (ws ++ zs) = comp (Rw n ws) (Rw n zs)) ?_ ?_ zs
  · intro _
    have hr := Rw_row h0 h1 hw
    have := comp_up hr.1
    rw [hr.2] at this
    rw [List.append_nil]
    exact this.symm
  · intro zs l ih hl
    have hz : Lt n zs := fun x hx => hl x (by simp [hx])
    have b := hl l (by simp)
    have hr := Rw_row h0 h1 hz
    rw [← List.append_assoc, Rw_snoc, Rw_snoc, ih hz, comp_sw _ _ b.1 (by rw [hr.2]; exact b.2)]
/-- the normal word of a word of letters of rows -/
theorem nw_rows {n : Nat} (h0 : 2 ≤ n) (h1 : n ≤ 5) {ws : List Int} (hl : Lt n ws) : Nw (nb 0 ((n : Int) - 1)) ((n : Int) - 1) ws (W (Rw n ws)) := by
  unfold Nw
  rw [st_rows h0 h1 hl, ← inv_Rw h0 h1 ws hl]
  have hr := Rw_row h0 h1 hl
  have hi := inv_row hr.1
  have := runs_fr hi (fr_row hi)
  rw [inv_length, hr.2] at this
  exact this
theorem invs_inv {r : List Int} (h : IsRow r) : invs (inv r) = invs r := by
  have := rows_all (p := fun r => decide (invs (inv r) = invs r)) (by decide +kernel) h
  exact of_decide_eq_true this
end Sk

namespace Sk
open PySem L2 Ow
def spRowOf (K : PySem.W.Frag) : Sp := fun vs H Q _ => ∃ (wv : V) (n : Nat) (ws : List Int), vs = [wv, .int n] ∧ TI K H wv ws ∧ Lt n ws ∧ ws.length ≤ 40 ∧ 2 ≤ n ∧ n ≤ 5 ∧ ∀ v H', Same H H' → RT H' v (Rw n ws) → Q v H'
def spFalls (K : PySem.W.Frag) : Sp := fun vs H Q _ => ∃ (a : Addr) (r : List Int), vs = [.ref a] ∧ H a = some (.lst (r.map V.int)) ∧ 0 < r.length ∧ r.length ≤ 100 ∧ ∀ b H', Same H H' → H b = none → H' b = some (.lst ((falls r).map V.int)) → Q (.ref b) H'
def spWordOf (K : PySem.W.Frag) : Sp := fun vs H Q _ => ∃ (v : V) (r : List Int), vs = [v] ∧ TI K H v r ∧ IsRow r ∧ ∀ v' H', Same H H' → TI K H' v' (W r) → Q v' H'
theorem rows_valid {n : Nat} (h0 : 2 ≤ n) (h1 : n ≤ 5) : Valid ((n : Int) - 1) (nb 0 ((n : Int) - 1)) := by
  have : n = 2 ∨ n = 3 ∨ n = 4 ∨ n = 5 := by omega
  rcases this with rfl | rfl | rfl | rfl
  · exact okB_valid (d := (1, nb 0 1)) (by decide)
  · exact okB_valid (d := (2, nb 0 2)) (by decide)
  · exact okB_valid (d := (3, nb 0 3)) (by decide)
  · exact okB_valid (d := (4, nb 0 4)) (by decide)
theorem getD_map {r : List Int} {i : Nat} (h : i < r.length) : (r.map V.int)[i]? = some (.int (r.getD i 0)) := by
  rw [List.getElem?_map, List.getElem?_eq_getElem h, List.getD_eq_getElem?_getD, List.getElem?_eq_getElem h]
  rfl
theorem atL {r : List Int} {i : Int} (h0 : 0 ≤ i) (h1 : i < r.length) : atI (r.map V.int) i = some (.int (r.getD i.toNat 0)) := ixI h0 (getD_map (by omega))
theorem sw_map (r : List Int) (l : Int) : ((r.map V.int).set l.toNat (.int (r.getD (l + 1).toNat 0))).set (l + 1).toNat (.int (r.getD l.toNat 0)) = (sw r l).map V.int := by
  unfold sw
  rw [List.map_set, List.map_set]
section
variable {P : Program} {w : World} {K : PySem.W.Frag} {mg : Str → Option Value} {base : Heap} {C : Addr}
theorem cal_falls_of (T : Txt K mg C) : Cal P w K mg base "falls_of" 1 (spFalls K) := by
  refine T.d_falls_of.cal (ps := ["row"]) (fun f fd D => ?_) (fun _ _ _ _ _ _ us hl => match us, hl with | [_], _ => rfl)
  refine D.ok sc_falls_of (fun vs H Q E h => ?_) (fun cdv A outer s H vs Q E hr h => ?_)
  · obtain ⟨_, _, rfl, _⟩ := h
    rfl
  · obtain ⟨a, r, rfl, ha, h0, h1, k⟩ := h
    have ll : (r.map V.int).length = r.length := List.length_map _
    refine ⟨_, (pss_one (ps_ret (pe_lc (own := [("at", 1)]) (g := gName 1) rfl sc_falls_of.nd (pi_range1 (by rfl) T.b_range (pa_cons (pe_op op_sub (pe_callB call_len_seq (by rfl) T.b_len (by decide +kernel) (pa_cons (pv 0) pa_nil)) pe_int) pa_nil)) (blkOk_by (own := [("at", 1)]) (N := ["row", "at"]) (sc := defScope s_falls_of) (by decide +kernel)) (fun _ _ _ _ _ => (pg_name (i := 1) sc_falls_of.nd rfl (Or.inl rfl))) (fun _ _ _ _ _ => (pts_one (pt_cmpR op_gt (pe_ix (show IxR _ (rIxL K) from ix_list) (pv 0) (pv 1) (fun _ _ => rfl)) (pe_ix (show IxR _ (rIxL K) from ix_list) (pv 0) (pe_op op_add (pv 1) pe_int) (fun _ _ => rfl)) (nomark _)))) (fun _ _ _ _ _ => (pv 1))))), ?_⟩
    refine ⟨_, rfl, _, _, rfl, .inl (.of ha), _, _, rfl, rfl, _, rfl, by omega, by omega, fun D nD => lc_range (lo := 0) (n := ((((r.map V.int).length : Nat) : Int) - 1).toNat) (fun i H' => Same H H' ∧ H' D = some (.lst ((((lets r).take i).filter fun i => decide (r.getD i.toNat 0 > r.getD (i + 1).toNat 0)).map V.int))) ⟨same_new nD, upd_same⟩ ?_ ?_⟩
    · rintro i H2 hi ⟨s2, hD⟩
      rw [ll] at hi
      have hg : (lets r)[i]? = some ((0 : Int) + (i : Nat)) := upto_get hi
      have ha2 := s2 _ _ ha
      have hlen : (((lets r).take i).filter fun i => decide (r.getD i.toNat 0 > r.getD (i + 1).toNat 0)).length ≤ 100 := Nat.le_trans (List.length_filter_le _ _) (by rw [List.length_take]; omega)
      refine ⟨rfl, _, rfl, _, rfl, a, _, _, _, rfl, rfl, .of ha2, atL (by omega) (by omega), _, rfl, _, rfl, _, _, rfl, rfl, a, _, _, _, rfl, rfl, .of ha2, atL (by omega) (by omega), _, _, rfl, rfl, _, rfl, ite2 (fun c => ?_) (fun c => ?_)⟩
      · refine ⟨_, rfl, _, hD, small1000 (by rw [List.length_map]; omega), same_off nD s2 off_upd, ?_⟩
        rw [upd_same, take_snoc hg, List.filter_append, List.filter_cons_of_pos (p := fun i : Int => decide (r.getD i.toNat 0 > r.getD (i + 1).toNat 0)) c, List.filter_nil, List.map_append]
        rfl
      · refine ⟨s2, ?_⟩
        rw [take_snoc hg, List.filter_append, List.filter_cons_of_neg (p := fun i : Int => decide (r.getD i.toNat 0 > r.getD (i + 1).toNat 0)) c, List.filter_nil, List.append_nil]
        exact hD
    · rintro H2 ⟨s2, hD⟩
      rw [List.take_of_length_le (by unfold lets; rw [upto_length, ll]; exact Nat.le_refl _)] at hD
      exact k _ _ s2 nD hD
theorem cal_word_of (T : Txt K mg C) : Cal P w K mg base "word_of" 7 (spWordOf K) := by
  refine T.d_word_of.cal (ps := ["row"]) (fun f fd D => ?_) (fun _ _ _ _ _ _ us hl => match us, hl with | [_], _ => rfl)
  refine D.ok sc_word_of (fun vs H Q E h => ?_) (fun cdv A outer s H vs Q E hr h => ?_)
  · obtain ⟨_, _, rfl, _⟩ := h
    rfl
  · obtain ⟨_, r, rfl, ⟨ra, rfl, hra⟩, hR, k⟩ := h
    have r2 := hR.lo
    have r5 := hR.hi
    refine ⟨_, (pss_cons (ps_expr (pe_cal (cal_check_row T) (hr.mono (by decide)) (by rfl) (pa_cons (pv 0) pa_nil)))
      (pss_cons (ps_set (i := 1) sc_word_of.nd rfl (Or.inl rfl) (pe_callTy call_list_of (by rfl) T.b_list (by decide +kernel) (pa_cons (pv 0) pa_nil)))
      (pss_cons (ps_set (i := 2) sc_word_of.nd rfl (Or.inl rfl) (pe_lst pa_nil))
      (pss_cons (ps_set (i := 3) sc_word_of.nd rfl (Or.inl rfl) (pe_cal (cal_falls_of T) (hr.mono (by decide)) (by rfl) (pa_cons (pv 1) pa_nil)))
      (pss_cons (ps_while PassesOwn.never (pt_truth (pv 3) (by intro _; rfl)) (pss_cons (ps_set (i := 4) sc_word_of.nd rfl (Or.inl rfl) (pe_ix ix_list (pv 3) pe_int (fun _ _ => rfl)))
      (pss_cons (ps_asg (pe_tup (pa_cons (pe_ix ix_list (pv 1) (pe_op op_add (pv 4) pe_int) (fun _ _ => rfl)) (pa_cons (pe_ix ix_list (pv 1) (pv 4) (fun _ _ => rfl)) pa_nil))) (pg_tup (by rfl) (pgs_cons (pg_sub (pv 1) (pv 4) set_list) (pgs_cons (pg_sub (pv 1) (pe_op op_add (pv 4) pe_int) set_list) pgs_nil))))
      (pss_cons (ps_expr (pe_bm PySem.F.plainAttrs_list PySem.F.slot_list_append PySem.F.type_list_append mt_append (pv 2) (pa_cons (pv 4) pa_nil)))
      (pss_one (ps_set (i := 3) sc_word_of.nd rfl (Or.inl rfl) (pe_cal (cal_falls_of T) (hr.mono (by decide)) (by rfl) (pa_cons (pv 1) pa_nil))))))))
      (pss_one (ps_ret (pe_cal (cal_normal_word T) (hr.mono (by decide)) (by rfl) (pa_cons (pe_cal (cal_links_of T) (hr.mono (by decide)) (by rfl) (pa_cons (pe_cRows T (hr.mono (by decide)) (pe_glob (v := .ref C) (by rfl) T.mgSystem rfl) (pa_cons (pe_callB call_len_seq (by rfl) T.b_len (by decide +kernel) (pa_cons (pv 0) pa_nil)) pa_nil)) pa_nil)) (pa_cons (pe_callTy call_tuple_of (by rfl) T.b_tuple (by decide +kernel) (pa_cons (pe_revL (pv 2)) pa_nil)) pa_nil)))))))))), ?_⟩
    refine ⟨_, rfl, _, r, rfl, ⟨ra, rfl, hra⟩, hR, fun H1 s1 => ?_⟩
    refine ⟨_, rfl, ra, _, rfl, .inr (sqT_same s1 hra), fun L nL => ?_⟩
    have s2 := same_new (o := .lst (r.map V.int)) nL
    refine ⟨Nat.zero_le _, fun G nG => ?_⟩
    have s3 := same_new (o := .lst []) nG
    refine ⟨_, rfl, L, r, rfl, s3 _ _ upd_same, by omega, by omega, fun F H4 s4 nF hF => ?_⟩
    have nGL : G ≠ L := (ne_of_none (upd_same (H := H1) (a := L) (o := .lst (r.map V.int))) nG).symm
    have hL4 := s4 _ _ (s3 _ _ (upd_same (H := H1) (a := L) (o := .lst (r.map V.int))))
    have hG4 := s4 _ _ (upd_same (H := upd H1 L (.lst (r.map V.int))) (a := G) (o := .lst []))
    have hLn : H1 L = none := nL
    have hGn : H1 G = none := by
      rw [upd_ne nGL] at nG
      exact nG
    have sAll : Same H1 H4 := s2.trans (s3.trans s4)
    dsimp only [gName, tSeq]
    refine while_by (fun σ H' => ∃ (fa : Addr) (q us rs : List Int) (v4 : Option V), σ = [some (.ref ra), some (.ref L), some (.ref G), some (.ref fa), v4] ∧ Same H1 H' ∧ IsRow q ∧ q.length = r.length ∧ H' L = some (.lst (q.map V.int)) ∧ H' G = some (.lst (us.map V.int)) ∧ H' fa = some (.lst ((falls q).map V.int)) ∧ fa ≠ L ∧ fa ≠ G ∧ FR q rs ∧ us ++ rs = nrm 10 r) (fun _ H' => 1000 - lenAt H' G) ?_ ?_ ?_
    · exact ⟨F, r, [], nrm 10 r, none, rfl, sAll, hR, rfl, hL4, hG4, hF, (ne_of_none (s3 _ _ (upd_same (H := H1) (a := L) (o := .lst (r.map V.int)))) nF).symm, (ne_of_none (upd_same (H := upd H1 L (.lst (r.map V.int))) (a := G) (o := .lst [])) nF).symm, fr_row hR, rfl⟩
    · rintro _ H5 ⟨fa, q, us, rs, v4, rfl, s5, hq, hql, hL, hG, hf, n1, n2, hfr, hw⟩
      have hul : us.length ≤ 10 := by
        have h1 := congrArg List.length hw
        rw [List.length_append] at h1
        have h2 := fun_nrm_len 10 r
        omega
      refine ⟨_, rfl, _, .inl ⟨_, .of hf, rfl⟩, ?_⟩
      cases hfr with
      | done e =>
        rw [e] at hf ⊢
        rw [List.append_nil] at hw
        refine iteF ?_
        refine ⟨rfl, _, rfl, _, _, rfl, .inr (sqT_same (s1.trans s5) hra), ((r.length : Nat) : Int), by rw [List.length_map], ⟨by omega, by omega⟩, fun sy bv H6 s6 ns y => ?_⟩
        refine ⟨sy, _, bv, _, rfl, y, rows_valid hR.lo hR.hi, fun lv H7 s7 hlk => ?_⟩
        have hG7 := s7 _ _ (s6 _ _ hG)
        refine ⟨_, rfl, G, _, rfl, .of hG7, fun B1 nB => ?_⟩
        refine ⟨B1, _, rfl, .inl ⟨.of upd_same, fun t nt => ?_⟩⟩
        have s8 := (same_new (o := .lst (us.map V.int).reverse) nB).trans (same_new (o := .tup (us.map V.int).reverse) nt)
        have hin : Lt r.length us.reverse := fun l hl => by
          rw [hw] at hl
          exact nrm_in hR l (List.mem_reverse.mp hl)
        have hn := nw_rows hR.lo hR.hi hin
        rw [hw, Rw_back hR] at hn
        rw [← hw] at hn
        refine ⟨lv, .ref t, ((r.length : Nat) - 1 : Int).toNat, _, us.reverse, W r, rfl, hlk.same s8, ⟨t, rfl, .of (by rw [upd_same, List.map_reverse])⟩, lkOf_ok (rows_valid hR.lo hR.hi), fun x hx => ?_, by rw [List.length_reverse]; omega, hn, ?_, fun v' H9 s9 t9 => k _ _ ((((s1.trans s5).trans s6).trans s7).trans (s8.trans s9)) t9⟩
        · have := hin x hx
          omega
        · have := W_len hR
          have := (invs_le hR).2
          omega
      | @step _ l ls rs e hfr =>
        have b := invs_fall hq e
        rw [e] at hf ⊢
        refine iteT ?_
        refine ⟨_, rfl, _, _, _, _, rfl, rfl, .of hf, at_of (j := 0) rfl rfl, ?_⟩
        refine ⟨_, rfl, _, rfl, _, _, rfl, rfl, L, _, _, _, rfl, rfl, .of hL, atL (i := l + 1) (by omega) (by omega), _, rfl, _, rfl, L, _, _, _, rfl, rfl, .of hL, atL (i := l) (by omega) (by omega), show 2 ≤ sizeLine by decide, fun t nt => ?_⟩
        have st := same_new (o := .tup [.int (q.getD (l + 1).toNat 0), .int (q.getD l.toNat 0)]) nt
        refine ⟨_, _, rfl, .of upd_same, rfl, _, _, rfl, _, rfl, _, rfl, L, _, l, l.toNat, rfl, rfl, st _ _ hL, ixN_ok (by omega) (by rw [List.length_map]; omega), _, _, rfl, _, rfl, _, rfl, _, _, rfl, rfl, L, _, l + 1, (l + 1).toNat, rfl, rfl, upd_same, ixN_ok (by omega) (by rw [List.length_set, List.length_map]; omega), rfl, ?_⟩
        rw [sw_map]
        generalize hHx : upd (upd (upd H5 t (.tup [.int (q.getD (l + 1).toNat 0), .int (q.getD l.toNat 0)])) L (.lst ((q.map V.int).set l.toNat (.int (q.getD (l + 1).toNat 0))))) L (.lst ((sw q l).map V.int)) = Hx
        have sx : Same H1 Hx := by
          rw [← hHx]
          exact same_off hLn (s5.trans st) (Off.trans off_upd off_upd)
        have hLx : Hx L = some (.lst ((sw q l).map V.int)) := by rw [← hHx, upd_same]
        have hGx : Hx G = some (.lst (us.map V.int)) := by rw [← hHx, upd_ne nGL, upd_ne nGL]; exact st _ _ hG
        refine ⟨_, rfl, .inl ⟨rfl, _, .of hGx⟩, _, rfl, G, _, _, rfl, rfl, hGx, by rw [List.length_map]; exact small1000 (by omega), ?_⟩
        have sy : Same H1 (upd Hx G (.lst (us.map V.int ++ [.int l]))) := same_off hGn sx off_upd
        have hLy : (upd Hx G (.lst (us.map V.int ++ [.int l]))) L = some (.lst ((sw q l).map V.int)) := by rw [upd_ne nGL.symm]; exact hLx
        refine ⟨_, rfl, L, sw q l, rfl, hLy, by rw [sw_length]; omega, by rw [sw_length]; omega, fun f2 H8 s8 n8 h8 => ?_⟩
        have hG8 : H8 G = some (.lst ((us ++ [l]).map V.int)) := by
          rw [List.map_append]
          exact s8 _ _ upd_same
        refine ⟨⟨f2, sw q l, us ++ [l], rs, _, rfl, sy.trans s8, sw_row hq b.1 b.2.1, by rw [sw_length]; exact hql, s8 _ _ hLy, hG8, h8, (ne_of_none hLy n8).symm, (ne_of_none (upd_same (H := Hx) (a := G) (o := .lst (us.map V.int ++ [.int l]))) n8).symm, hfr, by rw [List.append_assoc]; exact hw⟩, ?_⟩
        unfold lenAt
        rw [hG8, hG]
        simp only [List.length_map, List.length_append, List.length_cons, List.length_nil]
        omega
    · rintro σ H Q Q' hq ⟨v, hv, k, h1, h2⟩
      exact ⟨v, hv, k, h1, hq _ _ h2⟩
end
end Sk

namespace Sk
open PySem PySem.Spec PyProof.Rows L2 Ow
section
variable {X : Cx}
def rLIx (K : PySem.W.Frag) : V → List V → Hp → VK → Prop := fun x xs H Q => ∃ (p : Addr) (ns : List Int) (c : Int), x = .ref p ∧ xs = [.int c] ∧ SqL K H p (ns.map V.int) ∧ c ∈ ns ∧ Q (.int (ns.idxOf c : Nat)) H
/-- where a whole number stands in a list of these -/
theorem lix_ints : MtR X "list.index" (rLIx X.K) := by
  intro pins s σ H x xs v us Q I rx rs h
  obtain ⟨p, ns, c, rfl, rfl, sq, mem, q⟩ := h
  cases rx
  obtain ⟨u, rfl, t, rfl⟩ := vals1 rs
  obtain ⟨its, rv, pl, hz⟩ := I.list sq
  exact SeqAt.list_index_ints (vs := its) pl.isList (Vals.ints rv) (by rw [List.length_map] at hz; exact hz) mem ⟨.int _, H, I.tok _, ⟨_, rfl⟩, q⟩
end
end Sk
namespace Sk
open PySem L2 Ow
/-- only what stands there may change -/
def OffS (S : List Addr) (H H' : Hp) : Prop := ∀ b o, b ∉ S → H b = some o → H' b = some o
theorem OffS.refl {S : List Addr} {H : Hp} : OffS S H H := fun _ _ _ h => h
theorem OffS.of_same {S : List Addr} {H H' : Hp} (s : Same H H') : OffS S H H' := fun b o _ h => s b o h
theorem OffS.trans {S : List Addr} {H H' H'' : Hp} (a : OffS S H H') (b : OffS S H' H'') : OffS S H H'' := fun c o n h => b c o n (a c o n h)
theorem OffS.mono {S S' : List Addr} {H H' : Hp} (a : OffS S H H') (m : ∀ b, b ∈ S → b ∈ S') : OffS S' H H' := fun c o n h => a c o (fun z => n (m c z)) h
theorem OffS.upd {S : List Addr} {H : Hp} {a : Addr} {o : HO} (m : a ∈ S) : OffS S H (upd H a o) := fun b o' n h => by
  rw [L2.upd_ne (fun e => n (by rw [e]; exact m))]
  exact h
/-- a list of lists of whole numbers, all apart -/
structure LL (H : Hp) (a : Addr) (as : List Addr) (xss : List (List Int)) : Prop where
  hd : H a = some (.lst (as.map V.ref))
  ln : as.length = xss.length
  it : ∀ i b, as[i]? = some b → H b = some (.lst ((xss.getD i []).map V.int))
  nd : (a :: as).Nodup
theorem LL.off {H H' : Hp} {a : Addr} {as S : List Addr} {xss : List (List Int)} (h : LL H a as xss) (o : OffS S H H') (n : ∀ b, b ∈ a :: as → b ∉ S) : LL H' a as xss :=
  ⟨o _ _ (n a (List.mem_cons_self ..)) h.hd, h.ln, fun i b e => o _ _ (n b (List.mem_cons_of_mem _ (List.mem_of_getElem? e))) (h.it i b e), h.nd⟩
theorem LL.same {H H' : Hp} {a : Addr} {as : List Addr} {xss : List (List Int)} (h : LL H a as xss) (s : Same H H') : LL H' a as xss := h.off (S := []) (.of_same s) (fun _ _ z => by cases z)
theorem LL.get {H : Hp} {a : Addr} {as : List Addr} {xss : List (List Int)} (h : LL H a as xss) {i : Nat} (hi : i < xss.length) : ∃ b, as[i]? = some b ∧ b ≠ a ∧ H b = some (.lst ((xss.getD i []).map V.int)) := by
  have e : as[i]? = some (as[i]'(by rw [h.ln]; exact hi)) := List.getElem?_eq_getElem _
  exact ⟨_, e, fun z => (List.nodup_cons.mp h.nd).1 (z ▸ List.mem_of_getElem? e), h.it _ _ e⟩
theorem LL.set {H : Hp} {a b : Addr} {as : List Addr} {xss : List (List Int)} (h : LL H a as xss) {i : Nat} (e : as[i]? = some b) (xs : List Int) : LL (upd H b (.lst (xs.map V.int))) a as (xss.set i xs) := by
  have hb := List.mem_of_getElem? e
  have nda := List.nodup_cons.mp h.nd
  have hi : i < as.length := (List.getElem?_eq_some_iff.mp e).1
  refine ⟨?_, by rw [List.length_set]; exact h.ln, fun j c ej => ?_, h.nd⟩
  · rw [upd_ne (fun z => nda.1 (by rw [z]; exact hb))]
    exact h.hd
  · by_cases ij : j = i
    · subst ij
      rw [e] at ej
      cases ej
      rw [upd_same, List.getD_eq_getElem?_getD, List.getElem?_set_self (by rw [← h.ln]; exact hi)]
      rfl
    · have hj : j < as.length := (List.getElem?_eq_some_iff.mp ej).1
      have ne : c ≠ b := fun z => by
        subst z
        have h1 := (List.getElem?_eq_some_iff.mp e).2
        have h2 := (List.getElem?_eq_some_iff.mp ej).2
        exact ij ((List.getElem_inj nda.2).mp (h2.trans h1.symm))
      rw [upd_ne ne, List.getD_eq_getElem?_getD, List.getElem?_set_ne (fun z => ij z.symm), ← List.getD_eq_getElem?_getD]
      exact h.it _ _ ej
theorem LL.push {H : Hp} {a b : Addr} {as : List Addr} {xss : List (List Int)} {xs : List Int} (h : LL H a as xss) (hb : H b = none) : LL (upd (upd H b (.lst (xs.map V.int))) a (.lst ((as.map V.ref) ++ [.ref b]))) a (as ++ [b]) (xss ++ [xs]) := by
  have nb : ∀ c, c ∈ a :: as → c ≠ b := fun c hc z => by
    subst z
    rcases List.mem_cons.mp hc with e | e
    · rw [e, h.hd] at hb
      cases hb
    · obtain ⟨i, hi⟩ := List.mem_iff_getElem?.mp e
      rw [h.it _ _ hi] at hb
      cases hb
  have nda := List.nodup_cons.mp h.nd
  refine ⟨?_, by simp [h.ln], fun j c ej => ?_, ?_⟩
  · rw [upd_same, List.map_append]
    rfl
  · by_cases hj : j < as.length
    · rw [List.getElem?_append_left hj] at ej
      have m := List.mem_of_getElem? ej
      rw [upd_ne (fun z => nda.1 (by rw [← z]; exact m)), upd_ne (nb c (List.mem_cons_of_mem _ m)), List.getD_eq_getElem?_getD, List.getElem?_append_left (by rw [← h.ln]; exact hj), ← List.getD_eq_getElem?_getD]
      exact h.it _ _ ej
    · have hj2 : j < (as ++ [b]).length := (List.getElem?_eq_some_iff.mp ej).1
      rw [List.length_append, List.length_singleton] at hj2
      have ejl : j = as.length := by omega
      subst ejl
      rw [List.getElem?_append_right (Nat.le_refl _), Nat.sub_self] at ej
      cases ej
      rw [upd_ne (fun z => nb a (List.mem_cons_self ..) z.symm), upd_same, List.getD_eq_getElem?_getD, h.ln, List.getElem?_append_right (Nat.le_refl _), Nat.sub_self]
      rfl
  · rw [← List.cons_append, List.nodup_append]
    exact ⟨h.nd, List.nodup_cons.mpr ⟨by simp, List.nodup_nil⟩, fun x hx y hy => by
      rw [List.mem_singleton.mp hy]
      exact nb x hx⟩
/-- an integer put into the lines -/
def putIn : List (List Int) → Int → List (List Int) × Nat
  | [], e => ([[e]], 0)
  | xs :: r, e => match xs.filter (fun t => decide (t > e)) with
    | [] => ((xs ++ [e]) :: r, 0)
    | g :: _ => (xs.set (xs.idxOf g) e :: (putIn r g).1, (putIn r g).2 + 1)
end Sk

namespace Sk
open PySem L2 Ow
def spPutIn (K : PySem.W.Frag) : Sp := fun vs H Q _ => ∃ (a : Addr) (as : List Addr) (xss : List (List Int)) (e : Int), vs = [.ref a, .int e] ∧ LL H a as xss ∧ xss.length ≤ 10 ∧ (∀ i, (xss.getD i []).length ≤ 10) ∧
  ∀ as' H', OffS (a :: as) H H' → LL H' a as' (putIn xss e).1 → (∀ b, b ∈ as' → b ∈ as ∨ H b = none) → Q (.int ((putIn xss e).2 : Nat)) H'
theorem getD_drop {xss : List (List Int)} {i : Nat} (h : i < xss.length) : xss.drop i = xss.getD i [] :: xss.drop (i + 1) := by
  rw [List.drop_eq_getElem_cons h, List.getD_eq_getElem?_getD, List.getElem?_eq_getElem h]
  rfl
theorem putIn_stay {xs : List Int} {r : List (List Int)} {e : Int} (h : xs.filter (fun t => decide (t > e)) = []) : putIn (xs :: r) e = ((xs ++ [e]) :: r, 0) := by
  show (match xs.filter (fun t => decide (t > e)) with | [] => ((xs ++ [e]) :: r, 0) | g :: _ => (xs.set (xs.idxOf g) e :: (putIn r g).1, (putIn r g).2 + 1)) = _
  rw [h]
theorem putIn_on {xs l : List Int} {r : List (List Int)} {e g : Int} (h : xs.filter (fun t => decide (t > e)) = g :: l) : putIn (xs :: r) e = (xs.set (xs.idxOf g) e :: (putIn r g).1, (putIn r g).2 + 1) := by
  show (match xs.filter (fun t => decide (t > e)) with | [] => ((xs ++ [e]) :: r, 0) | g :: _ => (xs.set (xs.idxOf g) e :: (putIn r g).1, (putIn r g).2 + 1)) = _
  rw [h]
section
variable {P : Program} {w : World} {K : PySem.W.Frag} {mg : Str → Option Value} {base : Heap} {C : Addr}
theorem cal_put_in (T : Txt K mg C) : Cal P w K mg base "put_in" 1 (spPutIn K) := by
  refine T.d_put_in.cal (ps := ["table", "entry"]) (fun f fd D => ?_) (fun _ _ _ _ _ _ us hl => match us, hl with | [_, _], _ => rfl)
  refine D.ok sc_put_in (fun vs H Q E h => ?_) (fun cdv A outer s H vs Q E hr h => ?_)
  · obtain ⟨_, _, _, _, rfl, _⟩ := h
    rfl
  · obtain ⟨a, as, xss, e0, rfl, hL, n10, l10, k⟩ := h
    refine ⟨_, (pss_cons (ps_for PassesOwn.never rfl (pi_range1 (by rfl) T.b_range (pa_cons (pe_callB call_len_seq (by rfl) T.b_len (by decide +kernel) (pa_cons (pv 0) pa_nil)) pa_nil)) (pg_name (i := 2) sc_put_in.nd rfl (Or.inl rfl)) (pss_cons (ps_setLc (i := 3) (own := [("told", 4)]) (g := gName 4) rfl sc_put_in.nd rfl rfl (sw_true rfl rfl rfl (by decide +kernel)) (pi_list (pe_ix ix_list (pv 0) (pv 2) (fun _ _ => rfl))) (blkOk_by (own := [("told", 4)]) (N := ["table", "entry", "at", "greater", "told"]) (sc := defScope s_put_in) (by decide +kernel)) (fun _ _ _ _ _ => (pg_name (i := 4) sc_put_in.nd rfl (Or.inl rfl))) (fun _ _ _ _ _ => (pts_one (pt_cmpR op_gt (pv 4) (pv 1) (nomark _)))) (fun _ _ _ _ _ => (pv 4)))
      (pss_cons (ps_if (pt_not (pt_truth (pv 3) (by intro _; rfl))) (pss_cons (ps_expr (pe_bm PySem.F.plainAttrs_list PySem.F.slot_list_append PySem.F.type_list_append mt_append (pe_ix ix_list (pv 0) (pv 2) (fun _ _ => rfl)) (pa_cons (pv 1) pa_nil)))
      (pss_one (ps_ret (pv 2)))) pss_nil)
      (pss_cons (ps_asg (pv 1) (pg_sub (pe_ix ix_list (pv 0) (pv 2) (fun _ _ => rfl)) (pe_bm PySem.F.plainAttrs_list PySem.F.slot_list_index PySem.F.type_list_index (show MtR _ _ (rLIx K) from lix_ints) (pe_ix ix_list (pv 0) (pv 2) (fun _ _ => rfl)) (pa_cons (pe_ix ix_list (pv 3) pe_int (fun _ _ => rfl)) pa_nil)) set_list))
      (pss_one (ps_set (i := 1) sc_put_in.nd rfl (Or.inr rfl) (pe_ix ix_list (pv 3) pe_int (fun _ _ => rfl))))))))
      (pss_cons (ps_expr (pe_bm PySem.F.plainAttrs_list PySem.F.slot_list_append PySem.F.type_list_append mt_append (pv 0) (pa_cons (pe_lst (pa_cons (pv 1) pa_nil)) pa_nil)))
      (pss_one (ps_ret (pe_op op_sub (pe_callB call_len_seq (by rfl) T.b_len (by decide +kernel) (pa_cons (pv 0) pa_nil)) pe_int))))), ?_⟩
    have ll : (as.map V.ref).length = xss.length := by rw [List.length_map, hL.ln]
    refine ⟨_, rfl, _, _, rfl, .inl (.of hL.hd), _, rfl, by omega, by omega, for_range (lo := 0) (n := (((as.map V.ref).length : Nat) : Int).toNat) (fun i σ H' => ∃ (ys : List (List Int)) (e : Int) (v2 v3 v4 : Option V), σ = [some (.ref a), some (.int e), v2, v3, v4] ∧ ys.length = i ∧ OffS (a :: as) H H' ∧ LL H' a as (ys ++ xss.drop i) ∧ putIn xss e0 = (ys ++ (putIn (xss.drop i) e).1, i + (putIn (xss.drop i) e).2)) ⟨[], e0, none, none, none, rfl, rfl, .refl, hL, by simp⟩ ?_ ?_⟩
    · rintro i σ H1 hi ⟨ys, e, v2, v3, v4, rfl, yl, o1, hL1, hp⟩
      rw [ll] at hi
      have hi2 : i < xss.length := by omega
      have ei : (0 + (i : Int)).toNat = i := by omega
      have gi : (ys ++ xss.drop i).getD i [] = xss.getD i [] := by
        rw [List.getD_eq_getElem?_getD, List.getElem?_append_right (by omega), yl, Nat.sub_self, getD_drop hi2]
        rfl
      obtain ⟨b, eb, nba, hb⟩ := hL1.get (i := i) (by rw [List.length_append, List.length_drop]; omega)
      rw [gi] at hb
      generalize hxs : xss.getD i [] = xs at *
      have xl : xs.length ≤ 10 := by rw [← hxs]; exact l10 i
      have ab : atI (as.map V.ref) (0 + (i : Int)) = some (.ref b) := ixI (by omega) (by rw [ei, List.getElem?_map, eb]; rfl)
      refine ⟨_, rfl, _, rfl, a, _, _, _, rfl, rfl, .of hL1.hd, ab, b, rfl, ⟨_, .of hb⟩, fun D nD => ?_⟩
      refine lc_list (K := K) (a := b) (xs := xs.map V.int) (fun j H' => Same H1 H' ∧ H' D = some (.lst (((xs.take j).filter fun t => decide (t > e)).map V.int))) ⟨same_new nD, upd_same⟩ (fun j H' _ h => .of (h.1 _ _ hb)) ?_ ?_
      · rintro j x H2 hj ⟨s2, hD⟩
        obtain ⟨c, hc, rfl⟩ := int_at hj
        have hlen : ((xs.take j).filter fun t => decide (t > e)).length ≤ 100 := Nat.le_trans (List.length_filter_le _ _) (by rw [List.length_take]; omega)
        refine ⟨rfl, _, rfl, _, rfl, _, _, rfl, rfl, _, rfl, ite2 (fun t => ?_) (fun t => ?_)⟩
        · refine ⟨_, rfl, _, hD, small1000 (by rw [List.length_map]; omega), same_off nD s2 off_upd, ?_⟩
          rw [upd_same, take_snoc hc, List.filter_append, List.filter_cons_of_pos (p := fun t : Int => decide (t > e)) t, List.filter_nil, List.map_append]
          rfl
        · refine ⟨s2, ?_⟩
          rw [take_snoc hc, List.filter_append, List.filter_cons_of_neg (p := fun t : Int => decide (t > e)) t, List.filter_nil, List.append_nil]
          exact hD
      · rintro H2 ⟨s2, hD⟩
        rw [List.length_map, List.take_length] at hD
        have hL2 := hL1.same s2
        have hb2 := s2 _ _ hb
        have o2 := o1.trans (.of_same s2)
        refine ⟨_, rfl, _, .inl ⟨_, .of hD, rfl⟩, ?_⟩
        rw [getD_drop hi2, hxs] at hp
        cases hf : xs.filter (fun t => decide (t > e)) with
        | nil =>
          rw [hf] at hD
          rw [putIn_stay hf] at hp
          refine iteT ?_
          refine ⟨_, rfl, _, rfl, a, _, _, _, rfl, rfl, .of hL2.hd, ab, .inl ⟨rfl, _, .of hb2⟩, _, rfl, b, _, _, rfl, rfl, hb2, small1000 (by rw [List.length_map]; omega), ?_⟩
          refine ⟨_, rfl, ?_⟩
          have h3 := hL2.set eb (xs ++ [e])
          rw [List.map_append] at h3
          have e1 : (ys ++ xss.drop i).set i (xs ++ [e]) = ys ++ ((xs ++ [e]) :: xss.drop (i + 1)) := by
            rw [getD_drop hi2, List.set_append_right _ _ (by omega), yl, Nat.sub_self]
            rfl
          rw [e1] at h3
          have e2 := congrArg Prod.fst hp
          have e3 := congrArg Prod.snd hp
          have := k as _ (o2.trans (OffS.upd (List.mem_cons_of_mem _ (List.mem_of_getElem? eb)))) (by rw [e2]; exact h3) (fun c hc => .inl hc)
          rw [e3] at this
          rw [show (0 + (i : Int)) = ((i + 0 : Nat) : Int) by omega]
          exact this
        | cons g l =>
          rw [hf] at hD
          rw [putIn_on hf] at hp
          have mg' : g ∈ xs := by
            have : g ∈ xs.filter (fun t => decide (t > e)) := by rw [hf]; exact List.mem_cons_self ..
            exact (List.mem_filter.mp this).1
          refine iteF ?_
          refine ⟨_, rfl, _, rfl, _, rfl, a, _, _, _, rfl, rfl, .of hL2.hd, ab, _, rfl, _, rfl, a, _, _, _, rfl, rfl, .of hL2.hd, ab, .inl ⟨rfl, _, .of hb2⟩, _, rfl, _, _, _, _, rfl, rfl, .of hD, at_of (j := 0) rfl rfl, b, xs, g, rfl, rfl, .of hb2, mg', b, _, _, xs.idxOf g, rfl, rfl, hb2, ixN_ok (by omega) (by rw [List.length_map]; exact Int.ofNat_lt.mpr (List.idxOf_lt_length_of_mem mg')), ?_⟩
          have nDb : D ≠ b := fun z => by
            rw [z, hb] at nD
            cases nD
          have h3 := hL2.set eb (xs.set (xs.idxOf g) e)
          rw [List.map_set] at h3
          refine ⟨_, rfl, _, _, _, _, rfl, rfl, .of (by rw [upd_ne nDb]; exact hD), at_of (j := 0) rfl rfl, ys ++ [xs.set (xs.idxOf g) e], g, _, _, _, rfl, by rw [List.length_append, yl]; rfl, o2.trans (OffS.upd (List.mem_cons_of_mem _ (List.mem_of_getElem? eb))), ?_, ?_⟩
          · have e1 : (ys ++ xss.drop i).set i (xs.set (xs.idxOf g) e) = (ys ++ [xs.set (xs.idxOf g) e]) ++ xss.drop (i + 1) := by
              rw [getD_drop hi2, List.set_append_right _ _ (by omega), yl, Nat.sub_self, List.append_assoc]
              rfl
            rw [e1] at h3
            exact h3
          · rw [hp, List.append_assoc]
            refine Prod.ext rfl ?_
            show i + ((putIn (xss.drop (i + 1)) g).2 + 1) = i + 1 + _
            omega
    · rintro σ H1 ⟨ys, e, v2, v3, v4, rfl, yl, o1, hL1, hp⟩
      rw [ll] at yl hL1 hp
      rw [show ((xss.length : Nat) : Int).toNat = xss.length by omega, List.drop_length] at hL1 hp
      rw [List.append_nil] at hL1
      refine ⟨_, rfl, .inl ⟨rfl, _, .of hL1.hd⟩, _, rfl, show 1 ≤ sizeLine by decide, fun b nb => ?_⟩
      have hH := same_new (o := .lst [.int e]) nb _ _ hL1.hd
      refine ⟨a, _, _, rfl, rfl, hH, small1000 (by omega), ?_⟩
      have h3 := hL1.push (xs := [e]) nb
      refine ⟨_, rfl, _, _, rfl, .inl (.of h3.hd), _, _, rfl, rfl, ?_⟩
      have e2 := congrArg Prod.fst hp
      have e3 := congrArg Prod.snd hp
      have o3 : OffS (a :: as) H (L2.upd (L2.upd H1 b (.lst [.int e])) a (.lst (as.map V.ref ++ [.ref b]))) := (o1.trans (.of_same (same_new nb))).trans (OffS.upd (List.mem_cons_self ..))
      have nbH : H b = none ∨ b ∈ as := by
        by_cases z : b ∈ a :: as
        · rcases List.mem_cons.mp z with z | z
          · rw [z, hL1.hd] at nb
            cases nb
          · exact .inr z
        · cases hh : H b with
          | none => exact .inl rfl
          | some o =>
            rw [o1 b o z hh] at nb
            cases nb
      have := k (as ++ [b]) _ o3 (by rw [e2]; exact h3) (fun c hc => by
        rcases List.mem_append.mp hc with z | z
        · exact .inl z
        · rw [List.mem_singleton.mp z]
          exact nbH.symm)
      rw [e3] at this
      show Q (.int (((((as ++ [b]).map V.ref).length : Nat) : Int) - 1)) _
      rw [show ((((as ++ [b]).map V.ref).length : Nat) : Int) - 1 = ((xss.length + (putIn [] e).2 : Nat) : Int) by rw [List.length_map, List.length_append, hL.ln]; simp [putIn]]
      exact this
end
end Sk

namespace Sk
open PySem L2 Ow
theorem slc_any {K : PySem.W.Frag} {H : Hp} {Q : VK} {a : Addr} {xs : List V} {lo hi : Option Int} (ha : SqT K H a xs) (q : ∀ v H', Same H H' → (∃ c, v = .ref c ∧ SqT K H' c (cutV xs lo hi)) → Q v H') : rSlA K (.ref a) lo hi H Q := by
  refine ⟨a, xs, rfl, ha, fun e => q _ _ (.refl _) ⟨a, rfl, ?_⟩, fun _ p np => q _ _ (same_new np) ⟨p, rfl, .of upd_same⟩⟩
  have : cutV xs lo hi = xs := by
    unfold cutV
    rw [e.1, e.2]
    simp
  rw [this]
  exact ha
theorem cut_drop (xs : List V) (k : Nat) : cutV xs (some (k : Int)) none = xs.drop k := by
  show (xs.drop (HT.sIx xs.length 0 (some ((k : Nat) : Int)))).take (xs.length - HT.sIx xs.length 0 (some ((k : Nat) : Int))) = xs.drop k
  rw [HT.sIx_nat]
  by_cases h : k ≤ xs.length
  · rw [Nat.min_eq_left h, List.take_of_length_le (by rw [List.length_drop]; omega)]
  · rw [Nat.min_eq_right (by omega), List.drop_eq_nil_of_le (Nat.le_refl _), List.drop_eq_nil_of_le (by omega)]
    simp
theorem B8 {z : Int} (h : 0 ≤ z ∧ z ≤ 1000) : B 8000 z := by
  show z.natAbs < 2 ^ 8000
  exact Nat.lt_of_le_of_lt (show z.natAbs ≤ 1000 by omega) (by decide)
theorem cut_take (xs : List V) (k : Nat) : cutV xs none (some (k : Int)) = xs.take k := by
  show (xs.drop 0).take (HT.sIx xs.length xs.length (some ((k : Nat) : Int)) - 0) = xs.take k
  rw [HT.sIx_nat, List.drop_zero, Nat.sub_zero]
  by_cases h : k ≤ xs.length
  · rw [Nat.min_eq_left h]
  · rw [Nat.min_eq_right (by omega), List.take_of_length_le (Nat.le_refl _), List.take_of_length_le (by omega)]

section
variable {K : PySem.W.Frag} {a b : Addr} {xs ys : List V}
theorem walk_zipT {n : Nat} (hn : n = min xs.length ys.length) : Walk (RZ.ItzT K a b) n (fun H => SqT K H a xs ∧ SqT K H b ys) (YPair (fun i => xs[i]?) (fun i => ys[i]?)) := by
  subst hn
  refine ⟨fun i _ hi q => ?_, fun _ q => ⟨xs, ys, q.1, q.2, by omega⟩, fun i H v H' _ q y => ?_⟩
  · have h1 : i < xs.length := by omega
    have h2 : i < ys.length := by omega
    exact ⟨xs, ys, xs[i], ys[i], q.1, q.2, by simp [h1], by simp [h2]⟩
  · obtain ⟨T, x, z, h1, h2, h3, h4, h5⟩ := y
    exact ⟨T, x, z, h1, h2, h3, h4 xs q.1, h5 ys q.2⟩
end
def rLenQ (K : PySem.W.Frag) : List V → Hp → VK → Prop := fun xs H Q => ∃ p ys, xs = [.ref p] ∧ (SqL K H p ys ∨ SqT K H p ys) ∧ Q (.int ys.length) H
def rTupQ (K : PySem.W.Frag) : List V → Hp → VK → Prop := fun xs H Q => ∃ p ys, xs = [.ref p] ∧ ((SqL K H p ys ∧ ∀ l, H l = none → Q (.ref l) (upd H l (.tup ys))) ∨ (SqT K H p ys ∧ Q (.ref p) H))
def rListQ (K : PySem.W.Frag) : List V → Hp → VK → Prop := fun xs H Q => ∃ p ys, xs = [.ref p] ∧ (SqL K H p ys ∨ SqT K H p ys) ∧ ∀ l, H l = none → Q (.ref l) (upd H l (.lst ys))
/-- a tuple of tuples -/
def VtAt (K : PySem.W.Frag) (H : Hp) (v : V) (vss : List (List V)) : Prop := ∃ a xs, v = .ref a ∧ SqT K H a xs ∧ A2 (fun x vs => ∃ b, x = .ref b ∧ SqT K H b vs) xs vss
theorem VtAt.same {K : PySem.W.Frag} {H H' : Hp} {v : V} {vss : List (List V)} (h : VtAt K H v vss) (s : Same H H') : VtAt K H' v vss := by
  obtain ⟨a, xs, e, q, t⟩ := h
  exact ⟨a, xs, e, sqT_same s q, t.same fun x vs ⟨b, e, z⟩ => ⟨b, e, sqT_same s z⟩⟩
theorem A2.map_of {α β : Type} {R : V → α → Prop} {S : V → β → Prop} {f : α → β} (h : ∀ x a, R x a → S x (f a)) : ∀ {xs : List V} {as : List α}, A2 R xs as → A2 S xs (as.map f)
  | [], [], _ => trivial
  | _ :: _, _ :: _, z => ⟨h _ _ z.1, A2.map_of h z.2⟩
theorem BsAt.vt {K : PySem.W.Frag} {H : Hp} {v : V} {bs : List (List Int)} (h : BsAt K H v bs) : VtAt K H v (bs.map fun l => l.map V.int) := by
  obtain ⟨a, xs, e, q, t⟩ := h
  exact ⟨a, xs, e, q, (A2.of_tis t).map_of (f := fun l : List Int => l.map V.int) fun x l z => z⟩
def ascB (xs : List Int) : Bool := (List.range (xs.length - 1)).all fun i => decide (xs.getD i 0 < xs.getD (i + 1) 0)
def spTups (K : PySem.W.Frag) : Sp := fun vs H Q _ => ∃ (a : Addr) (as : List Addr) (xss : List (List Int)), vs = [.ref a] ∧ LL H a as xss ∧ xss.length ≤ 100 ∧ ∀ v H', Same H H' → BsAt K H' v xss → Q v H'
def spShape (K : PySem.W.Frag) : Sp := fun vs H Q _ => ∃ (v : V) (vss : List (List V)), vs = [v] ∧ VtAt K H v vss ∧ vss.length ≤ 100 ∧ ∀ D H', Same H H' → H D = none → H' D = some (.lst ((vss.map fun l => ((l.length : Nat) : Int)).map V.int)) → Q (.ref D) H'
def spSize (K : PySem.W.Frag) : Sp := fun vs H Q _ => ∃ (v : V) (vss : List (List V)), vs = [v] ∧ VtAt K H v vss ∧ vss.length ≤ 100 ∧ ∀ H', Same H H' → Q (.int (vss.map fun l => ((l.length : Nat) : Int)).sum) H'
def spAsc (K : PySem.W.Frag) : Sp := fun vs H Q _ => ∃ (v : V) (xs : List Int), vs = [v] ∧ TI K H v xs ∧ xs.length ≤ 100 ∧ ascB xs = true ∧ ∀ H', Same H H' → Q (.bl true) H'
section
variable {P : Program} {w : World} {K : PySem.W.Frag} {mg : Str → Option Value} {base : Heap} {C : Addr}
theorem cal_as_tuples (T : Txt K mg C) : Cal P w K mg base "as_tuples" 1 (spTups K) := by
  refine T.d_as_tuples.cal (ps := ["rows"]) (fun f fd D => ?_) (fun _ _ _ _ _ _ us hl => match us, hl with | [_], _ => rfl)
  refine D.ok sc_as_tuples (fun vs H Q E h => ?_) (fun cdv A outer s H vs Q E hr h => ?_)
  · obtain ⟨_, _, _, rfl, _⟩ := h
    rfl
  · obtain ⟨a, as, xss, rfl, hL, n10, k⟩ := h
    refine ⟨_, (pss_one (ps_ret (pe_callTy call_tuple_of (by rfl) T.b_tuple (by decide +kernel) (pa_cons (pe_lc (own := [("entries", 1)]) (g := gName 1) (tt := tYes) rfl sc_as_tuples.nd (pi_list (pv 0)) (blkOk_by (own := [("entries", 1)]) (N := ["rows", "entries"]) (sc := defScope s_as_tuples) (by decide +kernel)) (fun _ _ _ _ _ => (pg_name (i := 1) sc_as_tuples.nd rfl (Or.inl rfl))) (fun _ _ _ _ _ => pts_nil) (fun _ _ _ _ _ => (pe_callTy (show CallR _ (.type "tuple") (rTupQ K) from call_tuple_of) (by rfl) T.b_tuple (by decide +kernel) (pa_cons (pv 1) pa_nil)))) pa_nil)))), ?_⟩
    have ll : (as.map V.ref).length = xss.length := by rw [List.length_map, hL.ln]
    refine ⟨_, rfl, a, rfl, ⟨_, .of hL.hd⟩, fun D nD => lc_list (K := K) (a := a) (xs := as.map V.ref) (fun i H' => Same H H' ∧ ∃ ys, H' D = some (.lst ys) ∧ A2 (TI K H') ys (xss.take i)) ⟨same_new nD, [], upd_same, by simp [A2]⟩ (fun i H' _ h => .of (h.1 _ _ hL.hd)) ?_ ?_⟩
    · rintro i x H2 hi ⟨s2, ys, hD, hy⟩
      rw [List.getElem?_map] at hi
      obtain ⟨b, eb, rfl⟩ := Option.map_eq_some_iff.mp hi
      have ib : i < xss.length := by rw [← hL.ln]; exact (List.getElem?_eq_some_iff.mp eb).1
      have hb := s2 _ _ (hL.it _ _ eb)
      refine ⟨rfl, _, rfl, b, _, rfl, .inl ⟨.of hb, fun t nt => ?_⟩⟩
      have st := same_new (o := .tup ((xss.getD i []).map V.int)) nt
      have hD2 := st _ _ hD
      have nDt : ∀ x l, TI K H2 x l → TI K (upd (upd H2 t (.tup ((xss.getD i []).map V.int))) D (.lst (ys ++ [.ref t]))) x l := fun x l h => off_upd.ti hD2 (h.same st)
      refine ⟨_, hD2, ?_, same_off nD (s2.trans st) off_upd, _, upd_same, ?_⟩
      · have := hy.len
        rw [List.length_take] at this
        exact small1000 (by omega)
      · have ht : xss[i]? = some (xss.getD i []) := by rw [List.getD_eq_getElem?_getD, List.getElem?_eq_getElem ib]; rfl
        rw [take_snoc ht]
        exact (hy.same nDt).snoc (off_upd.ti hD2 ⟨t, rfl, .of upd_same⟩)
    · rintro H2 ⟨s2, ys, hD, hy⟩
      rw [ll, List.take_length] at hy
      refine ⟨D, _, rfl, .inl ⟨.of hD, fun t nt => ?_⟩⟩
      have st := same_new (o := .tup ys) nt
      exact k _ _ (s2.trans st) ⟨t, ys, rfl, .of upd_same, (hy.same fun x l h => h.same st).tis⟩
theorem cal_shape_of (T : Txt K mg C) : Cal P w K mg base "shape_of" 1 (spShape K) := by
  refine T.d_shape_of.cal (ps := ["table"]) (fun f fd D => ?_) (fun _ _ _ _ _ _ us hl => match us, hl with | [_], _ => rfl)
  refine D.ok sc_shape_of (fun vs H Q E h => ?_) (fun cdv A outer s H vs Q E hr h => ?_)
  · obtain ⟨_, _, rfl, _⟩ := h
    rfl
  · obtain ⟨_, vss, rfl, ⟨a, xs, rfl, ha, hx⟩, n10, k⟩ := h
    refine ⟨_, (pss_one (ps_ret (pe_lc (own := [("entries", 1)]) (g := gName 1) (tt := tYes) rfl sc_shape_of.nd (pi_tup (pv 0)) (blkOk_by (own := [("entries", 1)]) (N := ["table", "entries"]) (sc := defScope s_shape_of) (by decide +kernel)) (fun _ _ _ _ _ => (pg_name (i := 1) sc_shape_of.nd rfl (Or.inl rfl))) (fun _ _ _ _ _ => pts_nil) (fun _ _ _ _ _ => (pe_callB (show CallR _ (.builtin "len") (rLenQ K) from call_len_seq) (by rfl) T.b_len (by decide +kernel) (pa_cons (pv 1) pa_nil)))))), ?_⟩
    have ll := hx.len
    refine ⟨_, rfl, a, rfl, ⟨_, ha⟩, fun D nD => lc_tup (K := K) (a := a) (xs := xs) (fun i H' => Same H H' ∧ H' D = some (.lst (((vss.take i).map fun l => ((l.length : Nat) : Int)).map V.int))) ⟨same_new nD, upd_same⟩ (fun i H' _ h => sqT_same h.1 ha) ?_ ?_⟩
    · rintro i x H2 hi ⟨s2, hD⟩
      obtain ⟨l, hl, b, rfl, hb⟩ := hx.get hi
      refine ⟨rfl, _, rfl, b, _, rfl, .inr (sqT_same s2 hb), _, hD, ?_, same_off nD s2 off_upd, ?_⟩
      · rw [List.length_map, List.length_map, List.length_take]
        exact small1000 (by omega)
      · rw [upd_same, take_snoc hl, List.map_append, List.map_append]
        rfl
    · rintro H2 ⟨s2, hD⟩
      rw [ll, List.take_length] at hD
      exact k _ _ s2 nD hD
theorem cal_size_of (T : Txt K mg C) : Cal P w K mg base "size_of" 2 (spSize K) := by
  refine T.d_size_of.cal (ps := ["table"]) (fun f fd D => ?_) (fun _ _ _ _ _ _ us hl => match us, hl with | [_], _ => rfl)
  refine D.ok sc_size_of (fun vs H Q E h => ?_) (fun cdv A outer s H vs Q E hr h => ?_)
  · obtain ⟨_, _, rfl, _⟩ := h
    rfl
  · obtain ⟨v, vss, rfl, hv, n10, k⟩ := h
    refine ⟨_, (pss_one (ps_ret (pe_callB (cr_sum rfl) (by rfl) T.b_sum (by decide +kernel) (pa_cons (pe_cal (cal_shape_of T) (hr.mono (by decide)) (by rfl) (pa_cons (pv 0) pa_nil)) pa_nil)))), ?_⟩
    exact ⟨_, rfl, v, vss, rfl, hv, n10, fun D H1 s1 nD hD => ⟨D, _, rfl, .of hD, k _ s1⟩⟩
theorem cal_is_ascending (T : Txt K mg C) : Cal P w K mg base "is_ascending" 1 (spAsc K) := by
  refine T.d_is_ascending.cal (ps := ["entries"]) (fun f fd D => ?_) (fun _ _ _ _ _ _ us hl => match us, hl with | [_], _ => rfl)
  refine D.ok sc_is_ascending (fun vs H Q E h => ?_) (fun cdv A outer s H vs Q E hr h => ?_)
  · obtain ⟨_, _, rfl, _⟩ := h
    rfl
  · obtain ⟨_, xs, rfl, ⟨a, rfl, ha⟩, n10, hasc, k⟩ := h
    refine ⟨_, (pss_one (ps_ret (pe_callB (cr_all rfl) (by rfl) T.b_all (by decide +kernel) (pa_cons (pe_lc (own := [("one", 1), ("other", 2)]) (g := gTup K 2 (gCons (gName 1) (gCons (gName 2) (gNil)))) (tt := tYes) rfl sc_is_ascending.nd (RZ.pi_zipA (by rfl) T.b_zip (pa_cons (pv 0) (pa_cons (pe_slice sl_tupA (pv 0) (po_some pe_int) po_none) pa_nil))) (blkOk_by (own := [("one", 1), ("other", 2)]) (N := ["entries", "one", "other"]) (sc := defScope s_is_ascending) (by decide +kernel)) (fun _ _ _ _ _ => (pg_tup (by rfl) (pgs_cons (pg_name (i := 1) sc_is_ascending.nd rfl (Or.inl rfl)) (pgs_cons (pg_name (i := 2) sc_is_ascending.nd rfl (Or.inl rfl)) pgs_nil)))) (fun _ _ _ _ _ => pts_nil) (fun _ _ _ _ _ => (pe_cmpR op_lt (pv 1) (pv 2) (nomark _)))) pa_nil)))), ?_⟩
    refine ⟨_, rfl, _, rfl, _, rfl, ?_⟩
    dsimp only [tNoPart]
    refine slc_any ha fun v1 H1 s1 ⟨c, ev, hc⟩ => ?_
    subst ev
    rw [show cutV (xs.map V.int) (some 1) none = (xs.drop 1).map V.int by rw [show ((1 : Int)) = ((1 : Nat) : Int) from rfl, cut_drop, List.map_drop]] at hc
    have ha1 := sqT_same s1 ha
    have hz := walk_zipT (K := K) (a := a) (b := c) (xs := xs.map V.int) (ys := (xs.drop 1).map V.int) (n := xs.length - 1) (by rw [List.length_map, List.length_map, List.length_drop]; omega)
    refine ⟨_, _, _, _, rfl, .inr ⟨ha1, hc, fun D nD => lc_it hz (fun i H' => Same H1 H' ∧ H' D = some (.lst ((List.replicate i true).map V.bl))) ⟨same_new nD, upd_same⟩ (fun i H' _ h => ⟨sqT_same h.1 ha1, sqT_same h.1 hc⟩) ?_ ?_⟩⟩
    · rintro i x H4 H5 hi ⟨s4, hD⟩ ⟨q, x1, x2, rfl, nq, rfl, e1, e2⟩
      obtain ⟨c1, h1, rfl⟩ := int_at e1
      obtain ⟨c2, h2, rfl⟩ := int_at e2
      rw [List.getElem?_drop] at h2
      have lt : decide (c1 < c2) = true := by
        have := List.all_eq_true.mp hasc i (List.mem_range.mpr hi)
        rw [List.getD_eq_getElem?_getD, h1, List.getD_eq_getElem?_getD, Nat.add_comm i 1, h2] at this
        exact this
      refine ⟨_, _, rfl, .of upd_same, rfl, _, _, rfl, _, _, rfl, rfl, rfl, _, rfl, _, rfl, _, _, rfl, rfl, ?_⟩
      dsimp only
      rw [lt]
      have hD6 := same_new (o := .tup [.int c1, .int c2]) nq _ _ hD
      refine ⟨_, hD6, ?_, same_off nD (s4.trans (same_new nq)) off_upd, ?_⟩
      · rw [List.length_map, List.length_replicate]
        exact small1000 (by omega)
      · rw [upd_same, List.replicate_succ', List.map_append]
        rfl
    · rintro H4 ⟨s4, hD⟩
      refine ⟨_, _, rfl, .of hD, ?_⟩
      have e : (List.replicate (xs.length - 1) true).all id = true := by simp
      rw [e]
      exact k _ (s1.trans s4)
end
end Sk

namespace Sk
open PySem L2 Ow
/-- one entry of a row, into both tables -/
def bmS (s : List (List Int) × List (List Int)) (i : Nat) (e : Int) : List (List Int) × List (List Int) :=
  ((putIn s.1 e).1, if (putIn s.1 e).2 = s.2.length then s.2 ++ [[(i : Int) + 1]] else s.2.set (putIn s.1 e).2 (s.2.getD (putIn s.1 e).2 [] ++ [(i : Int) + 1]))
def bm (r : List Int) : Nat → List (List Int) × List (List Int)
  | 0 => ([], [])
  | i + 1 => bmS (bm r i) i (r.getD i 0)
def bF (r : List Int) : List (List Int) := (bm r r.length).1
def bS (r : List Int) : List (List Int) := (bm r r.length).2
def okS (r : List Int) : Bool := (List.range (r.length + 1)).all fun i => decide ((bm r i).1.length ≤ 10) && (bm r i).1.all (fun l => decide (l.length ≤ 10)) && decide ((putIn (bm r i).1 (r.getD i 0)).2 ≤ (bm r i).2.length) && decide ((bm r i).2.length ≤ 10) && (bm r i).2.all (fun l => decide (l.length ≤ 10))
theorem okb_rows {r : List Int} (h : IsRow r) : okS r = true := rows_all (p := okS) (by decide +kernel) h
theorem small_at {xss : List (List Int)} (h : xss.all (fun l => decide (l.length ≤ 10)) = true) (i : Nat) : (xss.getD i []).length ≤ 10 := by
  rw [List.getD_eq_getElem?_getD]
  cases e : xss[i]? with
  | none => exact Nat.zero_le _
  | some l => exact of_decide_eq_true (List.all_eq_true.mp h l (List.mem_of_getElem? e))
theorem ok_at {r : List Int} (h : IsRow r) {i : Nat} (hi : i ≤ r.length) : (bm r i).1.length ≤ 10 ∧ (∀ j, ((bm r i).1.getD j []).length ≤ 10) ∧ (putIn (bm r i).1 (r.getD i 0)).2 ≤ (bm r i).2.length ∧ (bm r i).2.length ≤ 10 ∧ ∀ j, ((bm r i).2.getD j []).length ≤ 10 := by
  have := List.all_eq_true.mp (okb_rows h) i (List.mem_range.mpr (by omega))
  simp only [Bool.and_eq_true, decide_eq_true_eq] at this
  exact ⟨this.1.1.1.1, small_at this.1.1.1.2, this.1.1.2, this.1.2, small_at this.2⟩
theorem same_offS {S : List Addr} {H H1 H2 : Hp} (s : Same H H1) (n : ∀ b, b ∈ S → H b = none) (o : OffS S H1 H2) : Same H H2 := fun b x e => o b x (fun m => by rw [n b m] at e; cases e) (s b x e)
/-- a pair of tables -/
def PrT (K : PySem.W.Frag) (H : Hp) (v : V) (F S : List (List Int)) : Prop := ∃ t u1 u2, v = .ref t ∧ SqT K H t [u1, u2] ∧ BsAt K H u1 F ∧ BsAt K H u2 S
def spBumped (K : PySem.W.Frag) : Sp := fun vs H Q _ => ∃ (v : V) (r : List Int), vs = [v] ∧ TI K H v r ∧ IsRow r ∧ ∀ v' H', Same H H' → PrT K H' v' (bF r) (bS r) → Q v' H'
/-- both tables under way -/
structure Two (H0 H : Hp) (A : Addr) (as : List Addr) (B : Addr) (bs : List Addr) (F S : List (List Int)) : Prop where
  s : Same H0 H
  f : LL H A as F
  g : LL H B bs S
  n1 : ∀ c, c ∈ A :: as → H0 c = none
  n2 : ∀ c, c ∈ B :: bs → H0 c = none
  ap : ∀ c, c ∈ A :: as → c ∉ B :: bs
theorem LL.there {H : Hp} {a : Addr} {as : List Addr} {xss : List (List Int)} (h : LL H a as xss) {c : Addr} (m : c ∈ a :: as) : H c ≠ none := fun z => by
  rcases List.mem_cons.mp m with e | e
  · rw [e, h.hd] at z
    cases z
  · obtain ⟨i, hi⟩ := List.mem_iff_getElem?.mp e
    rw [h.it _ _ hi] at z
    cases z
theorem Two.same {H0 H H' : Hp} {A B : Addr} {as bs : List Addr} {F S : List (List Int)} (h : Two H0 H A as B bs F S) (s : Same H H') : Two H0 H' A as B bs F S :=
  ⟨h.s.trans s, h.f.same s, h.g.same s, h.n1, h.n2, h.ap⟩
/-- the first one changed -/
theorem Two.fst {H0 H H' : Hp} {A B : Addr} {as as' bs : List Addr} {F F' S : List (List Int)} (h : Two H0 H A as B bs F S) (o : OffS (A :: as) H H') (l : LL H' A as' F') (m : ∀ c, c ∈ as' → c ∈ as ∨ H c = none) : Two H0 H' A as' B bs F' S := by
  have cut : ∀ c, c ∈ A :: as' → c ∈ A :: as ∨ H c = none := fun c hc => by
    rcases List.mem_cons.mp hc with e | e
    · exact .inl (e ▸ List.mem_cons_self ..)
    · exact (m c e).imp (List.mem_cons_of_mem _) id
  have h0 : ∀ c, H c = none → H0 c = none := fun c hc => by
    cases e : H0 c with
    | none => rfl
    | some x => rw [h.s _ _ e] at hc; cases hc
  refine ⟨same_offS h.s h.n1 o, l, h.g.off o fun b hb ha => h.ap b ha hb, fun c hc => (cut c hc).elim (h.n1 c) (h0 c), h.n2, fun c hc hb => ?_⟩
  rcases cut c hc with e | e
  · exact h.ap c e hb
  · exact h.g.there hb e
/-- the second one changed -/
theorem Two.snd {H0 H H' : Hp} {A B : Addr} {as bs bs' : List Addr} {F S S' : List (List Int)} (h : Two H0 H A as B bs F S) (o : OffS (B :: bs) H H') (l : LL H' B bs' S') (m : ∀ c, c ∈ bs' → c ∈ bs ∨ H c = none) : Two H0 H' A as B bs' F S' := by
  have hs : Two H0 H B bs A as S F := ⟨h.s, h.g, h.f, h.n2, h.n1, fun c hc ha => h.ap c ha hc⟩
  have := hs.fst o l m
  exact ⟨this.s, this.g, this.f, this.n2, this.n1, fun c hc ha => this.ap c ha hc⟩
section
variable {P : Program} {w : World} {K : PySem.W.Frag} {mg : Str → Option Value} {base : Heap} {C : Addr}
theorem cal_bumped (T : Txt K mg C) : Cal P w K mg base "bumped" 5 (spBumped K) := by
  refine T.d_bumped.cal (ps := ["row"]) (fun f fd D => ?_) (fun _ _ _ _ _ _ us hl => match us, hl with | [_], _ => rfl)
  refine D.ok sc_bumped (fun vs H Q E h => ?_) (fun cdv A outer s H vs Q E hr h => ?_)
  · obtain ⟨_, _, rfl, _⟩ := h
    rfl
  · obtain ⟨_, r, rfl, ⟨ra, rfl, hra⟩, hR, k⟩ := h
    have r2 := hR.lo
    have r5 := hR.hi
    have ll : (r.map V.int).length = r.length := List.length_map _
    refine ⟨_, (pss_cons (ps_expr (pe_cal (cal_check_row T) (hr.mono (by decide)) (by rfl) (pa_cons (pv 0) pa_nil)))
      (pss_cons (ps_par (i := 1) (j := 2) rfl sc_bumped.nd rfl rfl (by decide) rfl rfl (pa_cons (pe_lst pa_nil) (pa_cons (pe_lst pa_nil) pa_nil)) rfl)
      (pss_cons (ps_for PassesOwn.never rfl (pi_enumT (by rfl) T.b_enumerate (pa_cons (pv 0) pa_nil)) (pg_tup (by rfl) (pgs_cons (pg_name (i := 3) sc_bumped.nd rfl (Or.inl rfl)) (pgs_cons (pg_name (i := 4) sc_bumped.nd rfl (Or.inl rfl)) pgs_nil))) (pss_cons (ps_set (i := 5) sc_bumped.nd rfl (Or.inl rfl) (pe_cal (cal_put_in T) (hr.mono (by decide)) (by rfl) (pa_cons (pv 1) (pa_cons (pv 4) pa_nil))))
      (pss_cons (ps_if (pt_cmpR op_eq (pv 5) (pe_callB call_len_seq (by rfl) T.b_len (by decide +kernel) (pa_cons (pv 2) pa_nil)) (nomark _)) (pss_one (ps_expr (pe_bm PySem.F.plainAttrs_list PySem.F.slot_list_append PySem.F.type_list_append mt_append (pv 2) (pa_cons (pe_lst pa_nil) pa_nil)))) pss_nil)
      (pss_one (ps_expr (pe_bm PySem.F.plainAttrs_list PySem.F.slot_list_append PySem.F.type_list_append mt_append (pe_ix ix_list (pv 2) (pv 5) (fun _ _ => rfl)) (pa_cons (pe_op op_add (pv 3) pe_int) pa_nil)))))))
      (pss_one (ps_ret (pe_tup (pa_cons (pe_cal (cal_as_tuples T) (hr.mono (by decide)) (by rfl) (pa_cons (pv 1) pa_nil)) (pa_cons (pe_cal (cal_as_tuples T) (hr.mono (by decide)) (by rfl) (pa_cons (pv 2) pa_nil)) pa_nil)))))))), ?_⟩
    refine ⟨_, rfl, _, r, rfl, ⟨ra, rfl, hra⟩, hR, fun H1 s1 => ?_⟩
    refine ⟨Nat.zero_le _, fun A1 nA => ⟨Nat.zero_le _, fun B1 nB => ⟨_, _, rfl, ?_⟩⟩⟩
    have sA := same_new (o := .lst []) nA
    have sB := same_new (o := .lst []) nB
    have hra1 := sqT_same ((s1.trans sA).trans sB) hra
    have nAB : B1 ≠ A1 := (ne_of_none (upd_same (H := H1) (a := A1) (o := .lst [])) nB).symm
    have nB1 : H1 B1 = none := by
      rw [upd_ne nAB] at nB
      exact nB
    have two : Two H1 (upd (upd H1 A1 (.lst [])) B1 (.lst [])) A1 [] B1 [] [] [] := by
      refine ⟨sA.trans sB, ⟨sB _ _ upd_same, rfl, fun i b e => by simp at e, by simp⟩, ⟨upd_same, rfl, fun i b e => by simp at e, by simp⟩, fun c hc => ?_, fun c hc => ?_, fun c hc hb => ?_⟩
      · rw [List.mem_singleton.mp hc]
        exact nA
      · rw [List.mem_singleton.mp hc]
        exact nB1
      · rw [List.mem_singleton.mp hc] at hb
        exact nAB (List.mem_singleton.mp hb).symm
    refine ⟨_, rfl, ra, _, rfl, hra1, for_it (walk_enumT (K := K) (a := ra) (xs := r.map V.int)) (fun i σ H' => ∃ (as bs : List Addr) (v3 v4 v5 : Option V), σ = [some (.ref ra), some (.ref A1), some (.ref B1), v3, v4, v5] ∧ Two H1 H' A1 as B1 bs (bm r i).1 (bm r i).2) ⟨[], [], none, none, none, rfl, two⟩ (fun i σ H' _ h => by obtain ⟨_, _, _, _, _, _, h⟩ := h; exact sqT_same h.s (sqT_same s1 hra)) ?_ ?_⟩
    · rintro i x σ H4 H5 hi ⟨as, bs, v3, v4, v5, rfl, two⟩ ⟨q, x1, x2, rfl, nq, rfl, e1, e2⟩
      obtain rfl : x1 = .int (i : Nat) := (Option.some.inj e1).symm
      obtain ⟨c, hc, rfl⟩ := int_at e2
      have cv : r.getD i 0 = c := by rw [List.getD_eq_getElem?_getD, hc]; rfl
      obtain ⟨k1, k2, k3, k4, k5⟩ := ok_at hR (i := i) (by omega)
      have stp : bm r (i + 1) = bmS (bm r i) i c := by rw [← cv]; rfl
      rw [cv] at k3
      generalize bm r i = st at *
      obtain ⟨F, S⟩ := st
      dsimp only at *
      have two1 := two.same (same_new (o := .tup [.int (i : Nat), .int c]) nq)
      refine ⟨_, _, rfl, .of upd_same, rfl, _, _, rfl, _, _, rfl, rfl, ?_⟩
      refine ⟨_, rfl, _, rfl, A1, as, F, c, rfl, two1.f, k1, k2, fun as' H6 o6 l6 m6 => ?_⟩
      have two2 := two1.fst o6 l6 m6
      rw [stp]
      unfold bmS
      generalize (putIn F c).2 = at_ at *
      generalize (putIn F c).1 = F2 at *
      dsimp only
      refine ⟨_, rfl, _, rfl, _, _, rfl, .inl (.of two2.g.hd), rfl, _, rfl, ite2 (fun t => ?_) (fun t => ?_)⟩
      · have ea : at_ = S.length := by
          have := V.int.inj (of_decide_eq_true t)
          rw [List.length_map, two2.g.ln] at this
          omega
        rw [if_pos ea]
        refine ⟨_, rfl, .inl ⟨rfl, _, .of two2.g.hd⟩, Nat.zero_le _, fun b nb => ?_⟩
        refine ⟨B1, _, _, rfl, rfl, same_new nb _ _ two2.g.hd, small1000 (by rw [List.length_map, two2.g.ln]; omega), ?_⟩
        have l7 := two2.g.push (xs := []) nb
        have two3 := two2.snd ((OffS.of_same (same_new nb)).trans (OffS.upd (List.mem_cons_self ..))) l7 (fun c hc => by
          rcases List.mem_append.mp hc with z | z
          · exact .inl z
          · rw [List.mem_singleton.mp z]
            exact .inr nb)
        obtain ⟨b2, eb, _, hb⟩ := two3.g.get (i := at_) (by rw [List.length_append, ea]; simp)
        have ab : atI ((bs ++ [b]).map V.ref) (at_ : Nat) = some (.ref b2) := ixI (by omega) (by rw [show ((at_ : Nat) : Int).toNat = at_ by omega, List.getElem?_map, eb]; rfl)
        refine ⟨_, rfl, _, rfl, B1, _, _, _, rfl, rfl, .of two3.g.hd, ab, .inl ⟨rfl, _, .of hb⟩, _, rfl, _, _, rfl, rfl, b2, _, _, rfl, rfl, hb, ?_, as', bs ++ [b], _, _, _, rfl, ?_⟩
        · rw [List.length_map]
          rw [List.getD_eq_getElem?_getD, ea, List.getElem?_append_right (Nat.le_refl _), Nat.sub_self]
          decide
        · have l8 := two3.g.set eb [(i : Int) + 1]
          have e8 : (S ++ [[]]).getD at_ [] = ([] : List Int) := by
            rw [List.getD_eq_getElem?_getD, ea, List.getElem?_append_right (Nat.le_refl _), Nat.sub_self]
            rfl
          rw [e8]
          have e9 : (S ++ [[]]).set at_ [(i : Int) + 1] = S ++ [[(i : Int) + 1]] := by
            rw [ea, List.set_append_right _ _ (Nat.le_refl _), Nat.sub_self]
            rfl
          rw [e9] at l8
          exact two3.snd (OffS.upd (List.mem_cons_of_mem _ (List.mem_of_getElem? eb))) l8 (fun c hc => .inl hc)
      · have ea : ¬ at_ = S.length := fun z => t (by
          rw [List.length_map, two2.g.ln, z]
          exact decide_eq_true rfl)
        rw [if_neg ea]
        obtain ⟨b2, eb, _, hb⟩ := two2.g.get (i := at_) (by omega)
        have ab : atI (bs.map V.ref) (at_ : Nat) = some (.ref b2) := ixI (by omega) (by rw [show ((at_ : Nat) : Int).toNat = at_ by omega, List.getElem?_map, eb]; rfl)
        refine ⟨_, rfl, _, rfl, B1, _, _, _, rfl, rfl, .of two2.g.hd, ab, .inl ⟨rfl, _, .of hb⟩, _, rfl, _, _, rfl, rfl, b2, _, _, rfl, rfl, hb, ?_, as', bs, _, _, _, rfl, ?_⟩
        · rw [List.length_map]
          exact small1000 (by have := k5 at_; omega)
        · have l8 := two2.g.set eb (S.getD at_ [] ++ [(i : Int) + 1])
          rw [List.map_append] at l8
          exact two2.snd (OffS.upd (List.mem_cons_of_mem _ (List.mem_of_getElem? eb))) l8 (fun c hc => .inl hc)
    · rintro σ H4 ⟨as, bs, v3, v4, v5, rfl, two⟩
      rw [ll] at two
      have kk := ok_at hR (i := r.length) (Nat.le_refl _)
      refine ⟨_, rfl, A1, as, _, rfl, two.f, by omega, fun u1 H5 s5 t5 => ⟨_, rfl, B1, bs, _, rfl, two.g.same s5, by omega, fun u2 H6 s6 t6 => ⟨show 2 ≤ sizeLine by decide, fun t nt => ?_⟩⟩⟩
      have st := same_new (o := .tup [u1, u2]) nt
      exact k _ _ (s1.trans (two.s.trans ((s5.trans s6).trans st))) ⟨t, u1, u2, rfl, .of upd_same, t5.same (s6.trans st), t6.same st⟩
end
end Sk

namespace Sk
open PySem L2 Ow
/-- the inner walk of two -/
theorem lc2_in {J : It} {n : Nat} {G : Hp → Prop} {Y : Nat → Hp → V → Hp → Prop} (w : Walk J n G Y) {g : TG} {tt : TT} {te : TE} {vs : List Nat} {σ : L2.St} {H1 : Hp} {D : Addr} {Nx : Hp → Prop} (Pv : Nat → Hp → Prop) (h0 : Pv 0 H1) (hG : ∀ i H, i ≤ n → Pv i H → G H)
    (hs : ∀ i x H H', i < n → Pv i H → Y i H x H' → g x (wipe σ vs) H' fun σ2 H2 => wipe σ2 vs = wipe σ vs ∧ tt σ2 H2 fun b H3 =>
      if b = true then te σ2 H3 fun y H4 => ∃ acc, H4 D = some (.lst acc) ∧ acc.length < sizeLine ∧ Pv (i + 1) (upd H4 D (.lst (acc ++ [y]))) else Pv (i + 1) H3) (hd : ∀ H, Pv n H → Nx H) :
    ∃ W : Nat → Nat → Hp → Prop, (∃ m, W 0 m H1) ∧ ∀ i m H, W i m H →
      (J.stop i H ∧ Nx H) ∨ (J.go i H ∧ ∃ Nx1 : Hp → Prop, (∀ H', Nx1 H' → ∃ m', m' < m ∧ W (i + 1) m' H') ∧ ∀ x H', J.yld i H x H' → g x (wipe σ vs) H' fun σ2 H2 => wipe σ2 vs = wipe σ vs ∧ tt σ2 H2 fun b H3 =>
        if b = true then te σ2 H3 fun y H4 => ∃ acc, H4 D = some (.lst acc) ∧ acc.length < sizeLine ∧ Nx1 (upd H4 D (.lst (acc ++ [y]))) else Nx1 H3) := by
  refine ⟨fun i m H => m = n - i ∧ i ≤ n ∧ Pv i H, ⟨n, by simp, Nat.zero_le _, h0⟩, ?_⟩
  rintro i m H ⟨rfl, hi, p⟩
  have q := hG i H hi p
  by_cases hlt : i < n
  · refine .inr ⟨w.goes i H hlt q, Pv (i + 1), fun H' p' => ⟨n - (i + 1), by omega, rfl, hlt, p'⟩, fun x H' y => hs i x H H' hlt p (w.yields i H x H' hlt q y)⟩
  · have e : i = n := by omega
    subst e
    exact .inl ⟨w.stops H q, hd H p⟩
/-- the outer walk of two -/
theorem lc2_out {J : It} {n : Nat} {G : Hp → Prop} {Y : Nat → Hp → V → Hp → Prop} (w : Walk J n G Y) {g : TG} {tt : TT} {R : L2.St → Hp → (Hp → Prop) → Prop} {vs : List Nat} {σ : L2.St} {H1 : Hp} {Qd : Hp → Prop} (Pv : Nat → Hp → Prop) (h0 : Pv 0 H1) (hG : ∀ i H, i ≤ n → Pv i H → G H)
    (hs : ∀ i x H H', i < n → Pv i H → Y i H x H' → g x (wipe σ vs) H' fun σ2 H2 => wipe σ2 vs = wipe σ vs ∧ tt σ2 H2 fun b H3 => if b = true then R σ2 H3 (Pv (i + 1)) else Pv (i + 1) H3) (hd : ∀ H, Pv n H → Qd H) :
    ∃ W : Nat → Nat → Hp → Prop, (∃ m, W 0 m H1) ∧ ∀ i m H, W i m H →
      (J.stop i H ∧ Qd H) ∨ (J.go i H ∧ ∃ Nx : Hp → Prop, (∀ H', Nx H' → ∃ m', m' < m ∧ W (i + 1) m' H') ∧ ∀ x H', J.yld i H x H' → g x (wipe σ vs) H' fun σ2 H2 => wipe σ2 vs = wipe σ vs ∧ tt σ2 H2 fun b H3 =>
        if b = true then R σ2 H3 Nx else Nx H3) := by
  refine ⟨fun i m H => m = n - i ∧ i ≤ n ∧ Pv i H, ⟨n, by simp, Nat.zero_le _, h0⟩, ?_⟩
  rintro i m H ⟨rfl, hi, p⟩
  have q := hG i H hi p
  by_cases hlt : i < n
  · refine .inr ⟨w.goes i H hlt q, Pv (i + 1), fun H' p' => ⟨n - (i + 1), by omega, rfl, hlt, p'⟩, fun x H' y => hs i x H H' hlt p (w.yields i H x H' hlt q y)⟩
  · have e : i = n := by omega
    subst e
    exact .inl ⟨w.stops H q, hd H p⟩
/-- a whole number or a truth value -/
def IB (x : V) : Prop := (∃ i, x = .int i) ∨ ∃ b, x = .bl b
def dv : V → PyData
  | .int i => .int i
  | .bl b => .bool b
  | _ => .none
section
variable {X : Cx}
def rAllD (K : PySem.W.Frag) : List V → Hp → VK → Prop := fun vs H Q => ∃ (a : Addr) (xs : List V) (ds : List PyData), vs = [.ref a] ∧ SqL K H a xs ∧ DpAll K H xs ds ∧ PyData.plainAll ds = true ∧ (∀ x ∈ ds, x.fits63) ∧ Q (.bl (ds.all PyData.truthy)) H
theorem cr_allD (hc : X.calm = true) : CallR X (.builtin "all") (rAllD X.K) := by
  intro pins s σ H vs us Q I r h
  obtain ⟨a, xs, ds, rfl, hs, hd, hp, hf, q⟩ := h
  obtain ⟨its, rv, hl, _⟩ := I.list hs
  rw [Vals.ref1 r]
  obtain ⟨as, hr⟩ := Dp.readsAll I ds _ its hd rv
  exact PySem.W.all_list_data (I.ok.hd hc) hl.isList hr hp hf fun h' tk hk => ⟨.bl _, H, I.kept fun b o eo => hk b o eo, rfl, q⟩
end
def lens (vss : List (List V)) : List Int := vss.map fun l => ((l.length : Nat) : Int)
def descB (ns : List Int) : Bool := (List.range (ns.length - 1)).all fun i => decide (ns.getD (i + 1) 0 ≤ ns.getD i 0)
def colB (xs ys : List Int) : Bool := (List.range (min xs.length ys.length)).all fun i => decide (xs.getD i 0 < ys.getD i 0)
def goodT (bs : List (List Int)) : Bool := bs.flatten.isPerm (up bs.flatten.length) && bs.all ascB && (List.range (bs.length - 1)).all fun i => colB (bs.getD i []) (bs.getD (i + 1) [])
inductive Tab : List (List V) → Bool → Prop
  | size {vss : List (List V)} : ¬ (2 ≤ (lens vss).sum ∧ (lens vss).sum ≤ 5) → Tab vss false
  | bool {vss : List (List V)} {b : Bool} : 2 ≤ (lens vss).sum → (lens vss).sum ≤ 5 → descB (lens vss) = true → .bl b ∈ vss.flatten → Tab vss false
  | yes {bs : List (List Int)} : 2 ≤ (lens (bs.map fun l => l.map V.int)).sum → (lens (bs.map fun l => l.map V.int)).sum ≤ 5 → descB (lens (bs.map fun l => l.map V.int)) = true → goodT bs = true → Tab (bs.map fun l => l.map V.int) true
def spIsT (K : PySem.W.Frag) : Sp := fun vs H Q _ => ∃ (v : V) (vss : List (List V)) (res : Bool), vs = [v] ∧ VtAt K H v vss ∧ vss.length ≤ 10 ∧ (∀ l ∈ vss, l ≠ [] ∧ l.length ≤ 10 ∧ ∀ x ∈ l, IB x) ∧ Tab vss res ∧ ∀ H', Same H H' → Q (.bl res) H'
def wB (lo hi : Int) : V → Bool
  | .int i => decide (lo ≤ i) && decide (i ≤ hi)
  | _ => false
def spWithin2 : Sp := fun vs H Q _ => ∃ (x : V) (lo hi : Int), vs = [x, .int lo, .int hi] ∧ IB x ∧ Q (.bl (wB lo hi x)) H
theorem dp_ib {K : PySem.W.Frag} {H : Hp} : ∀ {l : List V}, (∀ x ∈ l, IB x) → DpAll K H l (l.map dv)
  | [], _ => .nil
  | x :: l, h => by
    refine .cons ?_ (dp_ib fun y hy => h y (List.mem_cons_of_mem _ hy))
    rcases h x (List.mem_cons_self ..) with ⟨i, rfl⟩ | ⟨b, rfl⟩
    · exact .int i
    · exact .bl b
theorem plain_ib : ∀ {l : List V}, (∀ x ∈ l, IB x) → PyData.plainAll (l.map dv) = true
  | [], _ => rfl
  | x :: l, h => by
    show PyData.plainAll (dv x :: l.map dv) = true
    rw [PyData.plainAll, plain_ib fun y hy => h y (List.mem_cons_of_mem _ hy), Bool.and_true]
    rcases h x (List.mem_cons_self ..) with ⟨i, rfl⟩ | ⟨b, rfl⟩ <;> rfl
theorem plain_lines : ∀ {vss : List (List V)}, (∀ l ∈ vss, ∀ x ∈ l, IB x) → PyData.plainAll (vss.map fun l => PyData.tuple (l.map dv)) = true
  | [], _ => rfl
  | l :: r, h => by
    show PyData.plainAll (PyData.tuple (l.map dv) :: r.map fun l => PyData.tuple (l.map dv)) = true
    rw [PyData.plainAll, plain_lines fun y hy => h y (List.mem_cons_of_mem _ hy), Bool.and_true, PyData.plain]
    exact plain_ib (h l (List.mem_cons_self ..))
theorem dp_lines {K : PySem.W.Frag} {H : Hp} : ∀ {xs : List V} {vss : List (List V)}, A2 (fun x vs => ∃ b, x = .ref b ∧ SqT K H b vs) xs vss → (∀ l ∈ vss, ∀ x ∈ l, IB x) → DpAll K H xs (vss.map fun l => PyData.tuple (l.map dv))
  | [], [], _, _ => .nil
  | _ :: _, l :: _, h, g => by
    obtain ⟨⟨b, rfl, hb⟩, t⟩ := h
    exact .cons (.tup hb (dp_ib (g l (List.mem_cons_self ..)))) (dp_lines t fun y hy => g y (List.mem_cons_of_mem _ hy))
theorem truthy_lines {vss : List (List V)} (h : ∀ l ∈ vss, l ≠ []) : (vss.map fun l => PyData.tuple (l.map dv)).all PyData.truthy = true := by
  rw [List.all_map, List.all_eq_true]
  intro l hl
  show (!(l.map dv).isEmpty) = true
  cases l with
  | nil => exact absurd rfl (h _ hl)
  | cons => rfl
section
variable {P : Program} {w : World} {K : PySem.W.Frag} {mg : Str → Option Value} {base : Heap} {C : Addr}
theorem cal_is_within2 (T : Txt K mg C) : Cal P w K mg base "is_within" 1 spWithin2 := by
  refine T.d_is_within.cal (ps := ["value", "least", "most"]) (fun f fd D => ?_) (fun _ _ _ _ _ _ us hl => match us, hl with | [_, _, _], _ => rfl)
  refine D.ok sc_is_within (fun vs H Q E h => ?_) (fun cdv A outer s H vs Q E hr h => ?_)
  · obtain ⟨i, lo, hi, rfl, _⟩ := h
    rfl
  · obtain ⟨x, lo, hi, rfl, ib, q⟩ := h
    refine ⟨_, (pss_one (ps_ret (pe_and (pe_callB call_isi (by rfl) T.b_isinstance (by decide +kernel) (pa_cons (pv 0) (pa_cons (pe_bltn (v := .ty "int") (by rfl) T.b_int (by decide +kernel) rfl) pa_nil))) (pe_and (pe_not (pe_callB call_isi (by rfl) T.b_isinstance (by decide +kernel) (pa_cons (pv 0) (pa_cons (pe_bltn (v := .ty "bool") (by rfl) T.b_bool (by decide +kernel) rfl) pa_nil)))) (pe_one (pe_chain op_le op_le (pv 1) (pv 0) (pv 2))))))), ?_⟩
    rcases ib with ⟨i, rfl⟩ | ⟨b, rfl⟩
    · refine ⟨_, rfl, _, _, _, _, true, rfl, .ty "int", .base (.int i), kit_ty (by decide +kernel), _, rfl, iteT ?_⟩
      refine ⟨_, rfl, _, _, _, _, false, rfl, .ty "bool", .base (.int i), kit_ty (by decide +kernel), _, rfl, _, rfl, iteT ?_⟩
      refine ⟨_, rfl, _, rfl, _, _, rfl, rfl, _, rfl, ?_⟩
      have q' : Q (.bl (decide (lo ≤ i) && decide (i ≤ hi))) H := q
      by_cases h1 : lo ≤ i
      · rw [decide_eq_true h1] at *
        refine iteT ?_
        exact ⟨_, rfl, _, _, rfl, rfl, q'⟩
      · rw [decide_eq_false h1] at *
        exact iteF q'
    · refine ⟨_, rfl, _, _, _, _, true, rfl, .ty "int", .base (.bl b), kit_ty (by decide +kernel), _, rfl, iteT ?_⟩
      exact ⟨_, rfl, _, _, _, _, true, rfl, .ty "bool", .base (.bl b), kit_ty (by decide +kernel), _, rfl, _, rfl, iteF q⟩
end
end Sk

namespace Sk
open PySem L2 Ow
theorem flat_small {α : Type} {vss : List (List α)} (n : Nat) (h : ∀ l ∈ vss, l.length ≤ n) : vss.flatten.length ≤ vss.length * n := by
  induction vss with
  | nil => simp
  | cons l r ih =>
    rw [List.flatten_cons, List.length_append, List.length_cons, Nat.succ_mul]
    have := ih fun y hy => h y (List.mem_cons_of_mem _ hy)
    have := h l (List.mem_cons_self ..)
    omega
theorem take_flat_snoc {α : Type} {vss : List (List α)} {i : Nat} {l : List α} (h : vss[i]? = some l) : (vss.take (i + 1)).flatten = (vss.take i).flatten ++ l := by
  rw [take_snoc h, List.flatten_append]
  simp
theorem flat_take_le {α : Type} (vss : List (List α)) (i : Nat) : (vss.take i).flatten.length ≤ vss.flatten.length := by
  have : vss.flatten = (vss.take i).flatten ++ (vss.drop i).flatten := by rw [← List.flatten_append, List.take_append_drop]
  rw [this, List.length_append]
  omega
theorem lens_sum : ∀ vss : List (List V), (lens vss).sum = ((vss.flatten.length : Nat) : Int)
  | [] => rfl
  | l :: r => by
    show (((l.length : Nat) : Int) :: lens r).sum = _
    rw [List.sum_cons, lens_sum r, List.flatten_cons, List.length_append]
    omega
section
variable {P : Program} {w : World} {K : PySem.W.Frag} {mg : Str → Option Value} {base : Heap} {C : Addr}
theorem cal_is_table (T : Txt K mg C) : Cal P w K mg base "is_table" 3 (spIsT K) := by
  refine T.d_is_table.cal (ps := ["value"]) (fun f fd D => ?_) (fun _ _ _ _ _ _ us hl => match us, hl with | [_], _ => rfl)
  refine D.ok sc_is_table (fun vs H Q E h => ?_) (fun cdv A outer s H vs Q E hr h => ?_)
  · obtain ⟨_, _, _, rfl, _⟩ := h
    rfl
  · obtain ⟨_, vss, res, rfl, ⟨a, xs, rfl, ha, hx⟩, n10, hl, tab, k⟩ := h
    refine ⟨_, (pss_cons (ps_if (PW.pt (pw_or (pt_not (pt_val (pe_callB call_isi (by rfl) T.b_isinstance (by decide +kernel) (pa_cons (pv 0) (pa_cons (pe_bltn (v := .ty "tuple") (by rfl) T.b_tuple (by decide +kernel) rfl) pa_nil))))) (pw_or1 (pt_not (pt_val (pe_callB (cr_allD rfl) (by rfl) T.b_all (by decide +kernel) (pa_cons (pe_lc (own := [("entries", 1)]) (g := gName 1) (tt := tYes) rfl sc_is_table.nd (pi_tup (pv 0)) (blkOk_by (own := [("entries", 1)]) (N := ["value", "entries", "sizes", "high", "low", "told", "entry", "upper", "lower"]) (sc := defScope s_is_table) (by decide +kernel)) (fun _ _ _ _ _ => (pg_name (i := 1) sc_is_table.nd rfl (Or.inl rfl))) (fun _ _ _ _ _ => pts_nil) (fun _ _ _ _ _ => (show PE _ _ (tAndV (tCB (rIsi K) (tCons (tVar 1) (tCons (tC (.ty "tuple")) tNil))) (tVar 1)) from pe_and (pe_callB (show CallR _ (.builtin "isinstance") (rIsi K) from call_isi) (by rfl) T.b_isinstance (by decide +kernel) (pa_cons (pv 1) (pa_cons (pe_bltn (v := .ty "tuple") (by rfl) T.b_tuple (by decide +kernel) rfl) pa_nil))) (pe_one (pv 1))))) pa_nil))))))) (pss_one (ps_ret pe_bl)) pss_nil)
      (pss_cons (ps_set (i := 2) sc_is_table.nd rfl (Or.inl rfl) (pe_cal (cal_shape_of T) (hr.mono (by decide)) (by rfl) (pa_cons (pv 0) pa_nil)))
      (pss_cons (ps_if (PW.pt (pw_or (pt_not (pt_chain op_le op_le pe_int (pe_callB (cr_sum rfl) (by rfl) T.b_sum (by decide +kernel) (pa_cons (pv 2) pa_nil)) (C8.pe_gc (v := .int 5) (by rfl) T.g_MOST_PLACES))) (pw_or1 (pt_not (pt_val (pe_callB (cr_all rfl) (by rfl) T.b_all (by decide +kernel) (pa_cons (pe_lc (own := [("high", 3), ("low", 4)]) (g := gTup K 2 (gCons (gName 3) (gCons (gName 4) (gNil)))) (tt := tYes) rfl sc_is_table.nd (RZ.pi_zipA (by rfl) T.b_zip (pa_cons (pv 2) (pa_cons (pe_slice sl_list (pv 2) (po_some pe_int) po_none) pa_nil))) (blkOk_by (own := [("high", 3), ("low", 4)]) (N := ["value", "entries", "sizes", "high", "low", "told", "entry", "upper", "lower"]) (sc := defScope s_is_table) (by decide +kernel)) (fun _ _ _ _ _ => (pg_tup (by rfl) (pgs_cons (pg_name (i := 3) sc_is_table.nd rfl (Or.inl rfl)) (pgs_cons (pg_name (i := 4) sc_is_table.nd rfl (Or.inl rfl)) pgs_nil)))) (fun _ _ _ _ _ => pts_nil) (fun _ _ _ _ _ => (pe_cmpR op_le (pv 4) (pv 3) (nomark _)))) pa_nil))))))) (pss_one (ps_ret pe_bl)) pss_nil)
      (pss_cons (ps_set (i := 5) sc_is_table.nd rfl (Or.inr rfl) (pe_lc2 (own := [("entries", 1), ("entry", 6)]) (vs1 := [6]) (g := gName 1) (g1 := gName 6) (tt := tYes) (tt1 := tYes) rfl sc_is_table.nd (pi_tup (pv 0)) (blkOk_by (own := [("entries", 1), ("entry", 6)]) (N := ["value", "entries", "sizes", "high", "low", "told", "entry", "upper", "lower"]) (sc := defScope s_is_table) (by decide +kernel)) (by decide) (fun _ _ _ _ _ => (pg_name (i := 1) sc_is_table.nd rfl (Or.inl rfl))) (fun _ _ _ _ _ => pts_nil) (fun _ _ _ _ _ => (show PI _ _ _ (iTup K (tVar 1)) from pi_tup (pv 1))) (fun _ _ _ _ _ => (pg_name (i := 6) sc_is_table.nd rfl (Or.inl rfl))) (fun _ _ _ _ _ => pts_nil) (fun _ _ _ _ _ => (pv 6))))
      (pss_cons (ps_if (PW.pt (pw_or (pt_not (pt_val (pe_callB (cr_all rfl) (by rfl) T.b_all (by decide +kernel) (pa_cons (pe_lc (own := [("entry", 6)]) (g := gName 6) (tt := tYes) rfl sc_is_table.nd (pi_list (pv 5)) (blkOk_by (own := [("entry", 6)]) (N := ["value", "entries", "sizes", "high", "low", "told", "entry", "upper", "lower"]) (sc := defScope s_is_table) (by decide +kernel)) (fun _ _ _ _ _ => (pg_name (i := 6) sc_is_table.nd rfl (Or.inl rfl))) (fun _ _ _ _ _ => pts_nil) (fun _ _ _ _ _ => (pe_cal (cal_is_within2 T) (hr.mono (by decide)) (by rfl) (pa_cons (pv 6) (pa_cons pe_int (pa_cons (pe_callB (show CallR _ (.builtin "len") (rLenQ K) from call_len_seq) (by rfl) T.b_len (by decide +kernel) (pa_cons (pv 5) pa_nil)) pa_nil)))))) pa_nil)))) (pw_or1 (pt_cmpR (op_neD hr.units) (pe_callB cr_sorted (by rfl) T.b_sorted (by decide +kernel) (pa_cons (pv 5) pa_nil)) (pe_listRg rfl (by rfl) T.b_list (prg_2 (by rfl) T.b_range pe_int (pe_op op_add (pe_callB call_len_seq (by rfl) T.b_len (by decide +kernel) (pa_cons (pv 5) pa_nil)) pe_int))) (nomark _))))) (pss_one (ps_ret pe_bl)) pss_nil)
      (pss_one (ps_ret (pe_and (pe_callB (cr_all rfl) (by rfl) T.b_all (by decide +kernel) (pa_cons (pe_lc (own := [("entries", 1)]) (g := gName 1) (tt := tYes) rfl sc_is_table.nd (pi_tup (pv 0)) (blkOk_by (own := [("entries", 1)]) (N := ["value", "entries", "sizes", "high", "low", "told", "entry", "upper", "lower"]) (sc := defScope s_is_table) (by decide +kernel)) (fun _ _ _ _ _ => (pg_name (i := 1) sc_is_table.nd rfl (Or.inl rfl))) (fun _ _ _ _ _ => pts_nil) (fun _ _ _ _ _ => (pe_cal (cal_is_ascending T) (hr.mono (by decide)) (by rfl) (pa_cons (pv 1) pa_nil)))) pa_nil)) (pe_one (pe_callB (cr_all rfl) (by rfl) T.b_all (by decide +kernel) (pa_cons (pe_lc2 (own := [("upper", 7), ("lower", 8), ("high", 3), ("low", 4)]) (vs1 := [3, 4]) (g := gTup K 2 (gCons (gName 7) (gCons (gName 8) (gNil)))) (g1 := gTup K 2 (gCons (gName 3) (gCons (gName 4) (gNil)))) (tt := tYes) (tt1 := tYes) rfl sc_is_table.nd (RZ.pi_zipA (by rfl) T.b_zip (pa_cons (pv 0) (pa_cons (pe_slice sl_tupA (pv 0) (po_some pe_int) po_none) pa_nil))) (blkOk_by (own := [("upper", 7), ("lower", 8), ("high", 3), ("low", 4)]) (N := ["value", "entries", "sizes", "high", "low", "told", "entry", "upper", "lower"]) (sc := defScope s_is_table) (by decide +kernel)) (by decide) (fun _ _ _ _ _ => (pg_tup (by rfl) (pgs_cons (pg_name (i := 7) sc_is_table.nd rfl (Or.inl rfl)) (pgs_cons (pg_name (i := 8) sc_is_table.nd rfl (Or.inl rfl)) pgs_nil)))) (fun _ _ _ _ _ => pts_nil) (fun _ _ _ _ _ => (show PI _ _ _ (RZ.iZipA K (tCons (tVar 7) (tCons (tVar 8) tNil))) from RZ.pi_zipA (by rfl) T.b_zip (pa_cons (pv 7) (pa_cons (pv 8) pa_nil)))) (fun _ _ _ _ _ => (pg_tup (by rfl) (pgs_cons (pg_name (i := 3) sc_is_table.nd rfl (Or.inl rfl)) (pgs_cons (pg_name (i := 4) sc_is_table.nd rfl (Or.inl rfl)) pgs_nil)))) (fun _ _ _ _ _ => pts_nil) (fun _ _ _ _ _ => (pe_cmpR op_lt (pv 3) (pv 4) (nomark _)))) pa_nil))))))))))), ?_⟩
    have lx := hx.len
    have hib : ∀ l ∈ vss, ∀ x ∈ l, IB x := fun l m => (hl l m).2.2
    refine ⟨_, rfl, _, _, .type "tuple", _, true, rfl, .ty "tuple", tup_ty ha, kit_ty (by decide +kernel), _, rfl, iteF ?_⟩
    -- all lines are tuples with entries
    refine ⟨_, rfl, a, rfl, ⟨_, ha⟩, fun D nD => lc_tup (K := K) (a := a) (xs := xs) (fun i H' => Same H H' ∧ H' D = some (.lst (xs.take i))) ⟨same_new nD, by rw [upd_same]; rfl⟩ (fun i H' _ h => sqT_same h.1 ha) ?_ ?_⟩
    · rintro i x H2 hi ⟨s2, hD⟩
      obtain ⟨l, hl1, b, rfl, hb⟩ := hx.get hi
      have hb2 := sqT_same s2 hb
      refine ⟨rfl, _, rfl, _, _, .type "tuple", _, true, rfl, .ty "tuple", tup_ty hb2, kit_ty (by decide +kernel), _, rfl, iteT ?_⟩
      refine ⟨_, rfl, _, hD, ?_, same_off nD s2 off_upd, ?_⟩
      · rw [List.length_take]
        exact small1000 (by omega)
      · rw [upd_same, take_snoc hi]
    · rintro H2 ⟨s2, hD⟩
      rw [List.take_length] at hD
      refine ⟨D, xs, _, rfl, .of hD, dp_lines (hx.same fun x l ⟨b, e, z⟩ => ⟨b, e, sqT_same s2 z⟩) hib, plain_lines hib, fun x hx2 => ?_, ?_⟩
      · obtain ⟨l, m, rfl⟩ := List.mem_map.mp hx2
        show (((l.map dv).length : Nat) : Int) < 2 ^ 63
        rw [List.length_map]
        have := (hl l m).2.1
        omega
      rw [truthy_lines fun l m => (hl l m).1]
      refine ⟨_, rfl, iteF ?_⟩
      -- sizes
      refine ⟨_, rfl, .ref a, vss, rfl, ⟨a, xs, rfl, sqT_same s2 ha, hx.same fun x l ⟨b, e, z⟩ => ⟨b, e, sqT_same s2 z⟩⟩, by omega, fun D1 H3 s3 nD1 hD1 => ?_⟩
      have sH3 := s2.trans s3
      have lns : (vss.map fun l => ((l.length : Nat) : Int)) = lens vss := rfl
      rw [lns] at hD1
      have ln10 : (lens vss).length = vss.length := List.length_map _
      refine ⟨_, rfl, D1, _, rfl, .of hD1, _, _, rfl, rfl, _, rfl, ?_⟩
      by_cases z2 : 2 ≤ (lens vss).sum
      rotate_left
      · rw [decide_eq_false z2]
        have er : res = false := by
          cases tab with
          | size => rfl
          | bool a1 => exact absurd a1 z2
          | yes a1 => exact absurd a1 z2
        subst er
        refine iteF ⟨_, rfl, iteT ?_⟩
        exact k _ sH3
      rw [decide_eq_true z2]
      refine iteT ⟨_, _, rfl, rfl, _, rfl, ?_⟩
      by_cases z5 : (lens vss).sum ≤ 5
      rotate_left
      · rw [decide_eq_false z5]
        have er : res = false := by
          cases tab with
          | size => rfl
          | bool _ a1 => exact absurd a1 z5
          | yes _ a1 => exact absurd a1 z5
        subst er
        refine iteT ?_
        exact k _ sH3
      rw [decide_eq_true z5]
      refine iteF ?_
      have hdesc : descB (lens vss) = true := by
        cases tab with
        | size h => exact absurd ⟨z2, z5⟩ h
        | bool _ _ h => exact h
        | yes _ _ h => exact h
      -- descending
      generalize hns : lens vss = ns at *
      refine ⟨_, rfl, _, rfl, _, rfl, _, _, rfl, .of hD1, fun p np => ?_⟩
      have cut : cutV (ns.map V.int) (some 1) none = (ns.drop 1).map V.int := by
        rw [show ((1 : Int)) = ((1 : Nat) : Int) from rfl, cut_drop, List.map_drop]
      rw [cut]
      have hD2 : (upd H3 p (.lst ((ns.drop 1).map V.int))) D1 = some (.lst (ns.map V.int)) := same_new np _ _ hD1
      have hz := walk_zip (K := K) (a := D1) (b := p) (xs := ns.map V.int) (ys := (ns.drop 1).map V.int) (n := ns.length - 1) (by rw [List.length_map, List.length_map, List.length_drop]; omega)
      refine ⟨_, _, _, _, rfl, .inl ⟨.of hD2, .of upd_same, fun D3 nD3 => lc_it hz (fun i H' => Same (upd H3 p (.lst ((ns.drop 1).map V.int))) H' ∧ H' D3 = some (.lst ((List.replicate i true).map V.bl))) ⟨same_new nD3, upd_same⟩ (fun i H' _ h => ⟨.of (h.1 _ _ hD2), .of (h.1 _ _ upd_same)⟩) ?_ ?_⟩⟩
      · rintro i x H4 H5 hi ⟨s4, hD5⟩ ⟨q, x1, x2, rfl, nq, rfl, e1, e2⟩
        obtain ⟨c1, h1, rfl⟩ := int_at e1
        obtain ⟨c2, h2, rfl⟩ := int_at e2
        rw [List.getElem?_drop] at h2
        have lt : decide (c2 ≤ c1) = true := by
          have := List.all_eq_true.mp hdesc i (List.mem_range.mpr hi)
          rw [List.getD_eq_getElem?_getD, Nat.add_comm i 1, h2, List.getD_eq_getElem?_getD, h1] at this
          exact this
        refine ⟨_, _, rfl, .of upd_same, rfl, _, _, rfl, _, _, rfl, rfl, rfl, _, rfl, _, rfl, _, _, rfl, rfl, ?_⟩
        dsimp only
        rw [lt]
        have hD6 := same_new (o := .tup [.int c1, .int c2]) nq _ _ hD5
        refine ⟨_, hD6, ?_, same_off nD3 (s4.trans (same_new nq)) off_upd, ?_⟩
        · rw [List.length_map, List.length_replicate]
          exact small1000 (by omega)
        · rw [upd_same, List.replicate_succ', List.map_append]
          rfl
      · rintro H4 ⟨s4, hD5⟩
        refine ⟨_, _, rfl, .of hD5, ?_⟩
        rw [show (List.replicate (ns.length - 1) true).all id = true by simp]
        refine ⟨_, rfl, iteF ?_⟩
        have sH4 := sH3.trans ((same_new np).trans s4)
        have ha4 := sqT_same sH4 ha
        -- all entries in one list
        have fl := flat_small (vss := vss) 10 fun l m => (hl l m).2.1
        have fl2 : vss.flatten.length ≤ 100 := by omega
        refine ⟨_, rfl, a, rfl, ⟨_, ha4⟩, fun D5 nD5 => lc2_out (walk_tup (K := K) (a := a) (xs := xs)) (fun i H' => Same H4 H' ∧ H' D5 = some (.lst (vss.take i).flatten)) ⟨same_new nD5, by rw [upd_same]; rfl⟩ (fun i H' _ h => sqT_same h.1 ha4) ?_ ?_⟩
        · rintro i x H5 _ hi ⟨s5, hD6⟩ ⟨rfl, hxi⟩
          obtain ⟨l, hl1, b, rfl, hb⟩ := hx.get hxi
          have hb5 := sqT_same (sH4.trans s5) hb
          refine ⟨rfl, ?_⟩
          refine ⟨_, rfl, b, rfl, ⟨_, hb5⟩, lc2_in (walk_tup (K := K) (a := b) (xs := l)) (fun j H' => Same H4 H' ∧ H' D5 = some (.lst ((vss.take i).flatten ++ l.take j))) ⟨s5, by rw [hD6]; simp⟩ (fun j H' _ h => sqT_same (sH4.trans h.1) hb) ?_ ?_⟩
          · rintro j y H6 _ hj ⟨s6, hD7⟩ ⟨rfl, hy⟩
            refine ⟨rfl, _, rfl, _, hD7, ?_, same_off nD5 s6 off_upd, ?_⟩
            · have h7 := flat_take_le vss i
              have h8 := (hl l (List.mem_of_getElem? hl1)).2.1
              rw [List.length_append, List.length_take]
              exact small1000 (by omega)
            · rw [upd_same, take_snoc hy, List.append_assoc]
          · rintro H6 ⟨s6, hD7⟩
            rw [List.take_length] at hD7
            refine ⟨s6, ?_⟩
            rw [take_flat_snoc hl1]
            exact hD7
        · rintro H5 ⟨s5, hD6⟩
          rw [lx, List.take_length] at hD6
          have sH5 := sH4.trans s5
          have hfib : ∀ x ∈ vss.flatten, IB x := fun x m => by
            obtain ⟨l, m1, m2⟩ := List.mem_flatten.mp m
            exact hib l m1 x m2
          generalize hfl : vss.flatten = fs at *
          -- all within
          refine ⟨_, rfl, D5, rfl, ⟨_, .of hD6⟩, fun D7 nD7 => lc_list (K := K) (a := D5) (xs := fs) (fun i H' => Same H5 H' ∧ H' D7 = some (.lst (((fs.take i).map (wB 1 (fs.length : Nat))).map V.bl))) ⟨same_new nD7, upd_same⟩ (fun i H' _ h => .of (h.1 _ _ hD6)) ?_ ?_⟩
          · rintro i x H6 hi ⟨s6, hD8⟩
            refine ⟨rfl, _, rfl, _, rfl, _, _, rfl, .inl (.of (s6 _ _ hD6)), x, 1, _, rfl, hfib x (List.mem_of_getElem? hi), ?_⟩
            refine ⟨_, hD8, ?_, same_off nD7 s6 off_upd, ?_⟩
            · rw [List.length_map, List.length_map, List.length_take]
              exact small1000 (by omega)
            · rw [upd_same, take_snoc hi, List.map_append, List.map_append]
              rfl
          · rintro H6 ⟨s6, hD8⟩
            rw [List.take_length] at hD8
            refine ⟨_, _, rfl, .of hD8, ?_⟩
            have sH6 := sH5.trans s6
            cases tab with
            | size h =>
              rw [hns] at h
              exact absurd ⟨z2, z5⟩ h
            | bool a1 a2 a3 a4 =>
              rw [hfl] at a4
              have : ((fs.map (wB 1 (fs.length : Nat))).all id) = false := by
                rw [List.all_eq_false]
                exact ⟨_, List.mem_map.mpr ⟨_, a4, rfl⟩, by simp [wB]⟩
              rw [this]
              refine ⟨_, rfl, iteT ?_⟩
              exact k _ sH6
            | @yes bs a1 a2 a3 good =>
              unfold goodT at good
              rw [Bool.and_eq_true, Bool.and_eq_true, List.isPerm_iff] at good
              obtain ⟨⟨gp, ga⟩, gc⟩ := good
              have efs : fs = (bs.flatten).map V.int := by rw [← hfl, List.map_flatten]
              subst efs
              have mem : ∀ x ∈ bs.flatten, 1 ≤ x ∧ x ≤ (bs.flatten.length : Nat) := fun x m => mem_up.mp (gp.mem_iff.mp m)
              have : ((((bs.flatten).map V.int).map (wB 1 (((bs.flatten).map V.int).length : Nat))).all id) = true := by
                rw [List.all_eq_true]
                intro b hb
                obtain ⟨v, hv, rfl⟩ := List.mem_map.mp hb
                obtain ⟨x, hx1, rfl⟩ := List.mem_map.mp hv
                have := mem x hx1
                show (decide (1 ≤ x) && decide (x ≤ _)) = true
                rw [List.length_map, decide_eq_true this.1, decide_eq_true this.2]
                rfl
              rw [this]
              have fl3 : bs.flatten.length ≤ 100 := by rw [List.length_map] at fl2; exact fl2
              have fl5 : bs.flatten.length < 64 := by
                have h9 := lens_sum (bs.map fun l => l.map V.int)
                rw [hns, hfl, List.length_map] at h9
                omega
              refine ⟨_, rfl, iteF ?_⟩
              refine ⟨_, rfl, D5, bs.flatten, rfl, .of (s6 _ _ hD6), fl5, fun ns' p2 hp2 hs2 np2 => ?_⟩
              have e : ns' = up bs.flatten.length := (hp2.trans gp).eq_of_pairwise (fun a b _ _ h h2 => Int.le_antisymm h h2) hs2 (up_sorted _)
              subst e
              have s7 := same_new (o := .lst ((up bs.flatten.length).map V.int)) np2
              refine ⟨_, rfl, _, _, rfl, .inl (.of (s7 _ _ (s6 _ _ hD6))), _, _, rfl, rfl, _, _, rfl, rfl, .of_le (by decide) (by rw [List.length_map]; omega) (by decide) (by rw [List.length_map]; omega), fun q2 nq2 => ?_⟩
              refine ⟨.list ((up bs.flatten.length).map PyData.int), .list ((up bs.flatten.length).map PyData.int), .lst (.of (same_new nq2 _ _ upd_same)) (dInts _), .lst (.of (by rw [List.length_map, rgV_up]; exact upd_same)) (dInts _), sh_L _, sh_L _, ?_⟩
              rw [eqv_L, decide_eq_true rfl]
              refine ⟨_, rfl, iteF ?_⟩
              have s8 := same_new nq2 (o := .lst (rgV 1 (((List.map V.int bs.flatten).length : Nat) + 1)))
              have sH8 := sH6.trans (s7.trans s8)
              have ha8 := sqT_same sH8 ha
              have hx8 := hx.same fun x l ⟨b, e, z⟩ => (⟨b, e, sqT_same sH8 z⟩ : ∃ b, x = V.ref b ∧ SqT K _ b l)
              have line : ∀ {i : Nat} {x : V}, xs[i]? = some x → ∃ l, bs[i]? = some l ∧ ∃ b, x = .ref b ∧ SqT K _ b (l.map V.int) := fun {i x} h => by
                obtain ⟨l, h1, h2⟩ := hx8.get h
                rw [List.getElem?_map] at h1
                obtain ⟨l', h3, rfl⟩ := Option.map_eq_some_iff.mp h1
                exact ⟨l', h3, h2⟩
              have l10 : ∀ l ∈ bs, l.length ≤ 10 := fun l m => by
                have := (hl _ (List.mem_map.mpr ⟨l, m, rfl⟩)).2.1
                rw [List.length_map] at this
                exact this
              generalize upd (upd H6 p2 (.lst ((up bs.flatten.length).map V.int))) q2 (.lst (rgV 1 (((List.map V.int bs.flatten).length : Nat) + 1))) = H8 at *
              refine ⟨_, rfl, a, rfl, ⟨_, ha8⟩, fun E1 nE1 => lc_tup (K := K) (a := a) (xs := xs) (fun i H' => Same H8 H' ∧ H' E1 = some (.lst ((List.replicate i true).map V.bl))) ⟨same_new nE1, upd_same⟩ (fun i H' _ h => sqT_same h.1 ha8) ?_ ?_⟩
              · rintro i x H9 hi ⟨s9, hE⟩
                obtain ⟨l, hl1, b, rfl, hb⟩ := line hi
                have ilt := (List.getElem?_eq_some_iff.mp hi).1
                refine ⟨rfl, _, rfl, .ref b, l, rfl, ⟨b, rfl, sqT_same s9 hb⟩, by have := l10 l (List.mem_of_getElem? hl1); omega, List.all_eq_true.mp ga l (List.mem_of_getElem? hl1), fun H10 s10 => ?_⟩
                refine ⟨_, s10 _ _ hE, ?_, same_off nE1 (s9.trans s10) off_upd, ?_⟩
                · rw [List.length_map, List.length_replicate]
                  exact small1000 (by omega)
                · rw [upd_same, List.replicate_succ', List.map_append]
                  rfl
              · rintro H9 ⟨s9, hE⟩
                refine ⟨_, _, rfl, .of hE, ?_⟩
                rw [show ((List.replicate xs.length true).all id) = true by simp]
                refine ⟨_, rfl, iteT ?_⟩
                refine ⟨_, rfl, _, rfl, _, rfl, ?_⟩
                dsimp only [tNoPart]
                refine slc_any (sqT_same s9 ha8) fun v10 H10 s10 ⟨c, ev, hc⟩ => ?_
                subst ev
                rw [show cutV xs (some 1) none = xs.drop 1 by rw [show ((1 : Int)) = ((1 : Nat) : Int) from rfl, cut_drop]] at hc
                have ha10 := sqT_same (s9.trans s10) ha8
                refine ⟨_, _, _, _, rfl, .inr ⟨ha10, hc, fun E2 nE2 => lc2_out (walk_zipT (K := K) (a := a) (b := c) (xs := xs) (ys := xs.drop 1) (n := xs.length - 1) (by rw [List.length_drop]; omega)) (fun i H' => Same H10 H' ∧ ∃ m, m ≤ 10 * i ∧ H' E2 = some (.lst ((List.replicate m true).map V.bl))) ⟨same_new nE2, 0, Nat.zero_le _, upd_same⟩ (fun i H' _ h => ⟨sqT_same h.1 ha10, sqT_same h.1 hc⟩) ?_ ?_⟩⟩
                · rintro i x H11 _ hi ⟨s11, m, hm, hE2⟩ ⟨q, x1, x2, rfl, nq, rfl, e1, e2⟩
                  have e2 : (List.drop 1 xs)[i]? = some x2 := e2
                  rw [List.getElem?_drop] at e2
                  obtain ⟨u, hu, ua, rfl, hua⟩ := line e1
                  obtain ⟨v, hv, va, rfl, hva⟩ := line e2
                  have snq := same_new (o := .tup [.ref ua, .ref va]) nq
                  refine ⟨_, _, rfl, .of upd_same, rfl, _, _, rfl, _, _, rfl, rfl, rfl, ?_⟩
                  have col : colB u v = true := by
                    have := List.all_eq_true.mp gc i (List.mem_range.mpr (by rw [lx, List.length_map] at hi; exact hi))
                    rw [List.getD_eq_getElem?_getD, hu, List.getD_eq_getElem?_getD, Nat.add_comm i 1, hv] at this
                    exact this
                  have sx := (s9.trans s10).trans (s11.trans snq)
                  have hu1 := sqT_same sx hua
                  have hv1 := sqT_same sx hva
                  have hu10 := l10 u (List.mem_of_getElem? hu)
                  have s11b := s11.trans snq
                  have hE2b := snq _ _ hE2
                  refine ⟨_, rfl, _, rfl, _, _, _, _, rfl, .inr ⟨hu1, hv1, lc2_in (walk_zipT (K := K) (a := ua) (b := va) (xs := u.map V.int) (ys := v.map V.int) (n := min u.length v.length) (by rw [List.length_map, List.length_map])) (fun j H' => Same H10 H' ∧ ∃ m', m' ≤ m + j ∧ H' E2 = some (.lst ((List.replicate m' true).map V.bl))) ⟨s11b, m, Nat.le_refl _, hE2b⟩ (fun j H' _ h => ⟨sqT_same ((s9.trans s10).trans h.1) hua, sqT_same ((s9.trans s10).trans h.1) hva⟩) ?_ ?_⟩⟩
                  · rintro j y H12 _ hj ⟨s12, m', hm', hE3⟩ ⟨q3, y1, y2, rfl, nq3, rfl, f1, f2⟩
                    obtain ⟨c1, g1, rfl⟩ := int_at f1
                    obtain ⟨c2, g2, rfl⟩ := int_at f2
                    have lt : decide (c1 < c2) = true := by
                      have := List.all_eq_true.mp col j (List.mem_range.mpr hj)
                      rw [List.getD_eq_getElem?_getD, g1, List.getD_eq_getElem?_getD, g2] at this
                      exact this
                    refine ⟨_, _, rfl, .of upd_same, rfl, _, _, rfl, _, _, rfl, rfl, rfl, _, rfl, _, rfl, _, _, rfl, rfl, ?_⟩
                    dsimp only
                    rw [lt]
                    refine ⟨_, same_new nq3 _ _ hE3, ?_, same_off nE2 (s12.trans (same_new nq3)) off_upd, m' + 1, by omega, ?_⟩
                    · rw [List.length_map, List.length_replicate]
                      have := (show xs.length ≤ 10 by omega)
                      exact small1000 (by omega)
                    · rw [upd_same, List.replicate_succ', List.map_append]
                      rfl
                  · rintro H12 ⟨s12, m', hm', hE3⟩
                    exact ⟨s12, m', by omega, hE3⟩
                · rintro H11 ⟨s11, m, hm, hE2⟩
                  refine ⟨_, _, rfl, .of hE2, ?_⟩
                  rw [show ((List.replicate m true).all id) = true by simp]
                  exact k _ (sH8.trans ((s9.trans s10).trans s11))
end
end Sk

namespace Sk
open PySem L2 Ow
/-- one line up, put back -/
def tkL (s : List (List Int) × Int) (p : Nat) : List Int := (s.1.getD p []).filter fun t => decide (t < s.2)
def tkS (s : List (List Int) × Int) (p : Nat) : List (List Int) × Int := (s.1.set p ((s.1.getD p []).set ((tkL s p).length - 1) s.2), (tkL s p).getLastD 0)
def tk0 (xss : List (List Int)) (l : Nat) : List (List Int) × Int := (xss.set l (xss.getD l []).dropLast, (xss.getD l []).getLastD 0)
def tkI (xss : List (List Int)) (l : Nat) : Nat → List (List Int) × Int
  | 0 => tk0 xss l
  | i + 1 => tkS (tkI xss l i) (l - 1 - i)
def tk (xss : List (List Int)) (l : Nat) : List (List Int) × Int := tkI xss l l
def tkOk (xss : List (List Int)) (l : Nat) : Bool := decide (l < xss.length) && decide (xss.length ≤ 10) && decide ((xss.getD l []) ≠ []) && xss.all (fun l => decide (l.length ≤ 10)) && (List.range l).all fun i => decide (tkL (tkI xss l i) (l - 1 - i) ≠ [])
theorem tkS_len (s : List (List Int) × Int) (p : Nat) : (tkS s p).1.length = s.1.length := List.length_set ..
theorem tkI_len (xss : List (List Int)) (l : Nat) : ∀ i, (tkI xss l i).1.length = xss.length
  | 0 => List.length_set ..
  | i + 1 => (tkS_len _ _).trans (tkI_len xss l i)
theorem set_small {xss : List (List Int)} {p : Nat} {xs : List Int} (h : ∀ i, (xss.getD i []).length ≤ 10) (hx : xs.length ≤ 10) (i : Nat) : ((xss.set p xs).getD i []).length ≤ 10 := by
  rw [List.getD_eq_getElem?_getD, List.getElem?_set]
  split
  · split
    · exact hx
    · exact Nat.zero_le _
  · rw [← List.getD_eq_getElem?_getD]
    exact h i
theorem tkI_small {xss : List (List Int)} {l : Nat} (h : ∀ i, (xss.getD i []).length ≤ 10) : ∀ k i, ((tkI xss l k).1.getD i []).length ≤ 10
  | 0, i => set_small h (by rw [List.length_dropLast]; have := h l; omega) i
  | k + 1, i => set_small (tkI_small h k) (by rw [List.length_set]; exact tkI_small h k _) i
theorem last_split {xs : List Int} (h : xs ≠ []) : xs = xs.dropLast ++ [xs.getLastD 0] := by
  have := (List.dropLast_concat_getLast h).symm
  rw [List.getLastD_eq_getLast?, List.getLast?_eq_some_getLast h]
  exact this
def spTaken (K : PySem.W.Frag) : Sp := fun vs H Q _ => ∃ (a : Addr) (as : List Addr) (xss : List (List Int)) (l : Nat), vs = [.ref a, .int (l : Nat)] ∧ LL H a as xss ∧ tkOk xss l = true ∧
  ∀ H', OffS (a :: as) H H' → LL H' a as (tk xss l).1 → Q (.int (tk xss l).2) H'
section
variable {P : Program} {w : World} {K : PySem.W.Frag} {mg : Str → Option Value} {base : Heap} {C : Addr}
theorem cal_taken_out (T : Txt K mg C) : Cal P w K mg base "taken_out" 1 (spTaken K) := by
  refine T.d_taken_out.cal (ps := ["table", "last"]) (fun f fd D => ?_) (fun _ _ _ _ _ _ us hl => match us, hl with | [_, _], _ => rfl)
  refine D.ok sc_taken_out (fun vs H Q E h => ?_) (fun cdv A outer s H vs Q E hr h => ?_)
  · obtain ⟨_, _, _, _, rfl, _⟩ := h
    rfl
  · obtain ⟨a, as, xss, l, rfl, hL, ok, k⟩ := h
    unfold tkOk at ok
    simp only [Bool.and_eq_true, decide_eq_true_eq] at ok
    obtain ⟨⟨⟨⟨k1, k2⟩, k3⟩, k4⟩, k5⟩ := ok
    have k6 := small_at k4
    refine ⟨_, (pss_cons (ps_set (i := 2) sc_taken_out.nd rfl (Or.inr rfl) (pe_bm0 PySem.F.plainAttrs_list PySem.F.slot_list_pop PySem.F.type_list_pop mt_pop (pe_ix ix_list (pv 0) (pv 1) (fun _ _ => rfl))))
      (pss_cons (ps_for PassesOwn.never rfl (pi_range3 (by rfl) T.b_range (pa_cons (pe_op op_sub (pv 1) pe_int) (pa_cons (pe_un un_neg pe_int) (pa_cons (pe_un un_neg pe_int) pa_nil)))) (pg_name (i := 3) sc_taken_out.nd rfl (Or.inl rfl)) (pss_cons (ps_setLc (i := 4) (own := [("told", 5)]) (g := gName 5) rfl sc_taken_out.nd rfl rfl (sw_true rfl rfl rfl (by decide +kernel)) (pi_list (pe_ix ix_list (pv 0) (pv 3) (fun _ _ => rfl))) (blkOk_by (own := [("told", 5)]) (N := ["table", "last", "entry", "at", "less", "told"]) (sc := defScope s_taken_out) (by decide +kernel)) (fun _ _ _ _ _ => (pg_name (i := 5) sc_taken_out.nd rfl (Or.inl rfl))) (fun _ _ _ _ _ => (pts_one (pt_cmpR op_lt (pv 5) (pv 2) (nomark _)))) (fun _ _ _ _ _ => (pv 5)))
      (pss_cons (ps_asg (pv 2) (pg_sub (pe_ix ix_list (pv 0) (pv 3) (fun _ _ => rfl)) (pe_op op_sub (pe_callB call_len_seq (by rfl) T.b_len (by decide +kernel) (pa_cons (pv 4) pa_nil)) pe_int) set_list))
      (pss_one (ps_set (i := 2) sc_taken_out.nd rfl (Or.inr rfl) (pe_ix ix_list (pv 4) (pe_un un_neg pe_int) (fun _ _ => rfl)))))))
      (pss_one (ps_ret (pv 2))))), ?_⟩
    obtain ⟨b, eb, nba, hb⟩ := hL.get k1
    have ab : atI (as.map V.ref) (l : Nat) = some (.ref b) := ixI (by omega) (by rw [show ((l : Nat) : Int).toNat = l by omega, List.getElem?_map, eb]; rfl)
    have sp := last_split k3
    refine ⟨_, rfl, _, rfl, a, _, _, _, rfl, rfl, .of hL.hd, ab, .inl ⟨rfl, _, .of hb⟩, b, _, .int ((xss.getD l []).getLastD 0), rfl, rfl, hb, ?_, ?_⟩
    · rw [List.length_map, List.getElem?_map]
      have : (xss.getD l [])[(xss.getD l []).length - 1]? = some ((xss.getD l []).getLastD 0) := by
        rw [List.getLastD_eq_getLast?, List.getLast?_eq_getElem?]
        cases e : (xss.getD l [])[(xss.getD l []).length - 1]? with
        | none =>
          rw [List.getElem?_eq_none_iff] at e
          exact absurd (List.eq_nil_of_length_eq_zero (by omega)) k3
        | some => rfl
      rw [this]
      rfl
    have h0 := hL.set eb (xss.getD l []).dropLast
    rw [List.map_dropLast] at h0
    refine ⟨_, rfl, _, _, rfl, rfl, _, rfl, _, rfl, (l : Int) - 1, -1, -1, _, rfl, RgC.neg (by omega) (by omega) (by decide) (by decide), for_rangeC (lo := (l : Int) - 1) (c := -1) (n := ((l : Int) - 1 - -1).toNat) (fun i σ H' => ∃ (v3 v4 v5 : Option V), σ = [some (.ref a), some (.int (l : Nat)), some (.int (tkI xss l i).2), v3, v4, v5] ∧ OffS (a :: as) H H' ∧ LL H' a as (tkI xss l i).1) ⟨none, none, none, rfl, OffS.upd (List.mem_cons_of_mem _ (List.mem_of_getElem? eb)), h0⟩ ?_ ?_⟩
    · rintro i σ H1 hi ⟨v3, v4, v5, rfl, o1, hL1⟩
      have hi2 : i < l := by omega
      have stp : tkI xss l (i + 1) = tkS (tkI xss l i) (l - 1 - i) := rfl
      have ne : tkL (tkI xss l i) (l - 1 - i) ≠ [] := of_decide_eq_true (List.all_eq_true.mp k5 i (List.mem_range.mpr hi2))
      have ln := tkI_len xss l i
      have sm := tkI_small (l := l) k6 i
      rw [stp]
      generalize tkI xss l i = st at *
      obtain ⟨F, e⟩ := st
      unfold tkS
      dsimp only at *
      have eat : (l : Int) - 1 + (i : Nat) * -1 = ((l - 1 - i : Nat) : Int) := by omega
      rw [eat]
      generalize l - 1 - i = p at *
      have hp : p < F.length := by omega
      obtain ⟨b2, eb2, nba2, hb2⟩ := hL1.get hp
      have ab2 : atI (as.map V.ref) (p : Nat) = some (.ref b2) := ixI (by omega) (by rw [show ((p : Nat) : Int).toNat = p by omega, List.getElem?_map, eb2]; rfl)
      have smp := sm p
      have eL : tkL (F, e) p = (F.getD p []).filter fun t => decide (t < e) := rfl
      generalize hxs : F.getD p [] = xs at *
      refine ⟨_, rfl, _, rfl, a, _, _, _, rfl, rfl, .of hL1.hd, ab2, b2, rfl, ⟨_, .of hb2⟩, fun D nD => ?_⟩
      refine lc_list (K := K) (a := b2) (xs := xs.map V.int) (fun j H' => Same H1 H' ∧ H' D = some (.lst (((xs.take j).filter fun t => decide (t < e)).map V.int))) ⟨same_new nD, upd_same⟩ (fun j H' _ h => .of (h.1 _ _ hb2)) ?_ ?_
      · rintro j x H2 hj ⟨s2, hD⟩
        obtain ⟨c, hc, rfl⟩ := int_at hj
        have hlen : ((xs.take j).filter fun t => decide (t < e)).length ≤ 100 := Nat.le_trans (List.length_filter_le _ _) (by rw [List.length_take]; omega)
        refine ⟨rfl, _, rfl, _, rfl, _, _, rfl, rfl, _, rfl, ite2 (fun t => ?_) (fun t => ?_)⟩
        · refine ⟨_, rfl, _, hD, small1000 (by rw [List.length_map]; omega), same_off nD s2 off_upd, ?_⟩
          rw [upd_same, take_snoc hc, List.filter_append, List.filter_cons_of_pos (p := fun t : Int => decide (t < e)) t, List.filter_nil, List.map_append]
          rfl
        · refine ⟨s2, ?_⟩
          rw [take_snoc hc, List.filter_append, List.filter_cons_of_neg (p := fun t : Int => decide (t < e)) t, List.filter_nil, List.append_nil]
          exact hD
      · rintro H2 ⟨s2, hD⟩
        rw [List.length_map, List.take_length, ← eL] at hD
        have lq : (tkL (F, e) p).length ≤ xs.length := by rw [eL]; exact List.length_filter_le _ _
        generalize tkL (F, e) p = q at *
        have hL2 := hL1.same s2
        have hb3 := s2 _ _ hb2
        have q0 : 0 < q.length := List.length_pos_iff.mpr ne
        refine ⟨_, rfl, _, rfl, _, rfl, a, _, _, _, rfl, rfl, .of hL2.hd, ab2, _, rfl, _, _, rfl, .inl (.of hD), _, _, rfl, rfl, b2, _, ((q.length : Nat) : Int) - 1, q.length - 1, rfl, by rw [List.length_map], hb3, ?_, ?_⟩
        · have := ixN_ok (n := (xs.map V.int).length) (l := ((q.length : Nat) : Int) - 1) (by omega) (by rw [List.length_map]; omega)
          rw [this]
          congr 1
          omega
        have h3 := hL2.set eb2 (xs.set (q.length - 1) e)
        rw [List.map_set] at h3
        have nDb : D ≠ b2 := fun z => by
          rw [z, hb2] at nD
          cases nD
        have ea : atI (q.map V.int) (-1) = some (.int (q.getLastD 0)) := by
          have h := atI_last (q.dropLast.map V.int) (V.int (q.getLastD 0))
          rw [show q.dropLast.map V.int ++ [V.int (q.getLastD 0)] = q.map V.int by rw [show [V.int (q.getLastD 0)] = [q.getLastD 0].map V.int from rfl, ← List.map_append, ← last_split ne]] at h
          exact h
        refine ⟨_, rfl, _, rfl, D, _, _, _, rfl, rfl, .of (by rw [upd_ne nDb]; exact hD), ea, _, _, _, rfl, (o1.trans (.of_same s2)).trans (OffS.upd (List.mem_cons_of_mem _ (List.mem_of_getElem? eb2))), h3⟩
    · rintro σ H1 ⟨v3, v4, v5, rfl, o1, hL1⟩
      rw [show ((l : Int) - 1 - -1).toNat = l by omega] at hL1 ⊢
      exact ⟨_, rfl, k _ o1 hL1⟩
end
end Sk

namespace Sk
open PySem L2 Ow
def vl (bs : List (List Int)) : List (List V) := bs.map fun l => l.map V.int
def yesB (bs : List (List Int)) : Bool := decide (bs.length ≤ 10) && bs.all (fun l => !l.isEmpty && decide (l.length ≤ 10)) && decide (2 ≤ (lens (vl bs)).sum) && decide ((lens (vl bs)).sum ≤ 5) && descB (lens (vl bs)) && goodT bs
structure YesT (bs : List (List Int)) : Prop where
  n10 : bs.length ≤ 10
  ne : ∀ l ∈ bs, l ≠ [] ∧ l.length ≤ 10
  t : Tab (vl bs) true
theorem yes_of {bs : List (List Int)} (h : yesB bs = true) : YesT bs := by
  unfold yesB at h
  simp only [Bool.and_eq_true, decide_eq_true_eq] at h
  obtain ⟨⟨⟨⟨⟨h1, h2⟩, h3⟩, h4⟩, h5⟩, h6⟩ := h
  refine ⟨h1, fun l m => ?_, .yes h3 h4 h5 h6⟩
  have := List.all_eq_true.mp h2 l m
  rw [Bool.and_eq_true, decide_eq_true_eq] at this
  exact ⟨fun e => by rw [e] at this; exact absurd this.1 (by decide), this.2⟩
theorem YesT.ib {bs : List (List Int)} (h : YesT bs) : ∀ l ∈ vl bs, l ≠ [] ∧ l.length ≤ 10 ∧ ∀ x ∈ l, IB x := fun l m => by
  obtain ⟨l', m', rfl⟩ := List.mem_map.mp m
  refine ⟨fun e => (h.ne l' m').1 (List.map_eq_nil_iff.mp e), by rw [List.length_map]; exact (h.ne l' m').2, fun x hx => ?_⟩
  obtain ⟨i, _, rfl⟩ := List.mem_map.mp hx
  exact .inl ⟨i, rfl⟩
theorem isT_yes {K : PySem.W.Frag} {H : Hp} {Q : VK} {E : XK} {v : V} {bs : List (List Int)} (y : YesT bs) (h : BsAt K H v bs) (q : ∀ H', Same H H' → Q (.bl true) H') : spIsT K [v] H Q E :=
  ⟨v, vl bs, true, rfl, h.vt, by unfold vl; rw [List.length_map]; exact y.n10, y.ib, y.t, q⟩
/-- the lines in which an entry stands -/
def endsL (S : List (List Int)) (t : Int) : List Nat := (List.range S.length).filter fun i => inV (.int t) ((S.getD i []).map V.int)
def lineOf (S : List (List Int)) (t : Int) : Nat := (endsL S t).headD 0
def rtF (r : List Int) : Nat → List (List Int)
  | 0 => bF r
  | k + 1 => (tk (rtF r k) (lineOf (bS r) ((r.length : Nat) - k : Int))).1
def rtV (r : List Int) (k : Nat) : Int := (tk (rtF r k) (lineOf (bS r) ((r.length : Nat) - k : Int))).2
def rtB (r : List Int) : Bool := yesB (bF r) && yesB (bS r) && decide ((lens (vl (bF r))) = lens (vl (bS r))) && decide ((lens (vl (bF r))).sum = (r.length : Nat)) &&
  ((List.range r.length).all fun k => tkOk (rtF r k) (lineOf (bS r) ((r.length : Nat) - k : Int)) && decide (endsL (bS r) ((r.length : Nat) - k : Int) ≠ [])) && decide (((List.range r.length).map (rtV r)).reverse = r)
theorem rt_rows {r : List Int} (h : IsRow r) : rtB r = true := rows_all (p := rtB) (by decide +kernel) h
theorem flat_ints (ns : List Int) : (ns.map V.int).all flatV = true := by
  rw [List.all_eq_true]
  intro x hx
  obtain ⟨i, _, rfl⟩ := List.mem_map.mp hx
  rfl
def spRowT (K : PySem.W.Frag) : Sp := fun vs H Q _ => ∃ (v1 v2 : V) (r : List Int), vs = [v1, v2] ∧ BsAt K H v1 (bF r) ∧ BsAt K H v2 (bS r) ∧ IsRow r ∧ ∀ v' H', Same H H' → TI K H' v' r → Q v' H'
theorem dp_len (K : PySem.W.Frag) (H : Hp) (ns : List Int) (D : Addr) (h : H D = some (.lst (ns.map V.int))) : Dp K H (.ref D) (.list (ns.map PyData.int)) := .lst (.of h) (dInts _)
section
variable {P : Program} {w : World} {K : PySem.W.Frag} {mg : Str → Option Value} {base : Heap} {C : Addr}
theorem cal_row_of_tables (T : Txt K mg C) : Cal P w K mg base "row_of_tables" 4 (spRowT K) := by
  refine T.d_row_of_tables.cal (ps := ["one", "other"]) (fun f fd D => ?_) (fun _ _ _ _ _ _ us hl => match us, hl with | [_, _], _ => rfl)
  refine D.ok sc_row_of_tables (fun vs H Q E h => ?_) (fun cdv A outer s H vs Q E hr h => ?_)
  · obtain ⟨_, _, _, rfl, _⟩ := h
    rfl
  · obtain ⟨v1, v2, r, rfl, h1, h2, hR, k⟩ := h
    have rt := rt_rows hR
    unfold rtB at rt
    simp only [Bool.and_eq_true, decide_eq_true_eq] at rt
    obtain ⟨⟨⟨⟨⟨y1, y2⟩, e1⟩, e2⟩, e3⟩, e4⟩ := rt
    have y1 := yes_of y1
    have y2 := yes_of y2
    have r5 := hR.hi
    have m1 : (vl (bF r)).length ≤ 10 := by unfold vl; rw [List.length_map]; exact y1.n10
    have m2 : (vl (bS r)).length ≤ 10 := by unfold vl; rw [List.length_map]; exact y2.n10
    have l1 : (vl (bF r)).length ≤ 100 := by omega
    have l2 : (vl (bS r)).length ≤ 100 := by omega
    refine ⟨_, (pss_cons (ps_if (PW.pt (pw_or (pt_not (pt_val (pe_cal (cal_is_table T) (hr.mono (by decide)) (by rfl) (pa_cons (pv 0) pa_nil)))) (pw_or (pt_not (pt_val (pe_cal (cal_is_table T) (hr.mono (by decide)) (by rfl) (pa_cons (pv 1) pa_nil)))) (pw_or1 (pt_cmpR op_ne (pe_cal (cal_size_of T) (hr.mono (by decide)) (by rfl) (pa_cons (pv 0) pa_nil)) (pe_cal (cal_size_of T) (hr.mono (by decide)) (by rfl) (pa_cons (pv 1) pa_nil)) (nomark _)))))) (pss_one ps_never) pss_nil)
      (pss_cons (ps_if (pt_cmpR (op_neD hr.units) (pe_cal (cal_shape_of T) (hr.mono (by decide)) (by rfl) (pa_cons (pv 0) pa_nil)) (pe_cal (cal_shape_of T) (hr.mono (by decide)) (by rfl) (pa_cons (pv 1) pa_nil)) (nomark _)) (pss_one ps_never) pss_nil)
      (pss_cons (ps_setLc (i := 2) (own := [("entries", 3)]) (g := gName 3) (tt := tYes) rfl sc_row_of_tables.nd rfl rfl (sw_true rfl rfl rfl (by decide +kernel)) (pi_tup (pv 0)) (blkOk_by (own := [("entries", 3)]) (N := ["one", "other", "first", "entries", "taken", "time", "ends", "at"]) (sc := defScope s_row_of_tables) (by decide +kernel)) (fun _ _ _ _ _ => (pg_name (i := 3) sc_row_of_tables.nd rfl (Or.inl rfl))) (fun _ _ _ _ _ => pts_nil) (fun _ _ _ _ _ => (pe_callTy (show CallR _ (.type "list") (rListQ K) from call_list_of) (by rfl) T.b_list (by decide +kernel) (pa_cons (pv 3) pa_nil))))
      (pss_cons (ps_set (i := 4) sc_row_of_tables.nd rfl (Or.inl rfl) (pe_lst pa_nil))
      (pss_cons (ps_for PassesOwn.never rfl (pi_range3 (by rfl) T.b_range (pa_cons (pe_cal (cal_size_of T) (hr.mono (by decide)) (by rfl) (pa_cons (pv 0) pa_nil)) (pa_cons pe_int (pa_cons (pe_un un_neg pe_int) pa_nil)))) (pg_name (i := 5) sc_row_of_tables.nd rfl (Or.inr rfl)) (pss_cons (ps_setLc (i := 6) (own := [("at", 7), ("entries", 3)]) (g := gTup K 2 (gCons (gName 7) (gCons (gName 3) (gNil)))) rfl sc_row_of_tables.nd rfl rfl (sw_true rfl rfl rfl (by decide +kernel)) (pi_enumT (by rfl) T.b_enumerate (pa_cons (pv 1) pa_nil)) (blkOk_by (own := [("at", 7), ("entries", 3)]) (N := ["one", "other", "first", "entries", "taken", "time", "ends", "at"]) (sc := defScope s_row_of_tables) (by decide +kernel)) (fun _ _ _ _ _ => (pg_tup (by rfl) (pgs_cons (pg_name (i := 7) sc_row_of_tables.nd rfl (Or.inl rfl)) (pgs_cons (pg_name (i := 3) sc_row_of_tables.nd rfl (Or.inl rfl)) pgs_nil)))) (fun _ _ _ _ _ => (pts_one (pt_cmpR (show OpR _ _ (rIn K false) from op_in_seq) (pv 5) (pv 3) (by rfl)))) (fun _ _ _ _ _ => (pv 7)))
      (pss_one (ps_expr (pe_bm PySem.F.plainAttrs_list PySem.F.slot_list_append PySem.F.type_list_append mt_append (pv 4) (pa_cons (pe_cal (cal_taken_out T) (hr.mono (by decide)) (by rfl) (pa_cons (pv 2) (pa_cons (pe_ix ix_list (pv 6) pe_int (fun _ _ => rfl)) pa_nil))) pa_nil))))))
      (pss_one (ps_ret (pe_callTy call_tuple_of (by rfl) T.b_tuple (by decide +kernel) (pa_cons (pe_revL (pv 4)) pa_nil))))))))), ?_⟩
    refine ⟨_, rfl, v1, vl (bF r), true, rfl, h1.vt, m1, y1.ib, y1.t, fun H1 s1 => ⟨_, rfl, iteF ?_⟩⟩
    refine ⟨_, rfl, v2, vl (bS r), true, rfl, (h2.same s1).vt, m2, y2.ib, y2.t, fun H2 s2 => ⟨_, rfl, iteF ?_⟩⟩
    have s12 := s1.trans s2
    refine ⟨_, rfl, v1, _, rfl, (h1.same s12).vt, l1, fun H3 s3 => ?_⟩
    refine ⟨_, rfl, v2, _, rfl, ((h2.same s12).same s3).vt, l2, fun H4 s4 => ?_⟩
    have es : (lens (vl (bF r))).sum = (lens (vl (bS r))).sum := by rw [e1]
    refine ⟨rfl, _, rfl, ?_⟩
    have es2 : (List.map (fun l : List V => ((l.length : Nat) : Int)) (List.map (fun l => List.map V.int l) (bF r))).sum = (List.map (fun l : List V => ((l.length : Nat) : Int)) (List.map (fun l => List.map V.int l) (bS r))).sum := es
    rw [es2, show (!decide (V.int (List.map (fun l : List V => ((l.length : Nat) : Int)) (List.map (fun l => List.map V.int l) (bS r))).sum = V.int (List.map (fun l : List V => ((l.length : Nat) : Int)) (List.map (fun l => List.map V.int l) (bS r))).sum)) = false by simp]
    refine iteF ?_
    have s14 := s12.trans (s3.trans s4)
    refine ⟨_, rfl, v1, _, rfl, (h1.same s14).vt, l1, fun D1 H5 s5 nD1 hD1 => ?_⟩
    refine ⟨_, rfl, v2, _, rfl, ((h2.same s14).same s5).vt, l2, fun D2 H6 s6 nD2 hD2 => ?_⟩
    refine ⟨_, _, dp_len K H6 _ D1 (s6 _ _ hD1), dp_len K H6 _ D2 hD2, sh_L _, sh_L _, ?_⟩
    have es3 : List.map (fun l : List V => ((l.length : Nat) : Int)) (List.map (fun l => List.map V.int l) (bF r)) = List.map (fun l : List V => ((l.length : Nat) : Int)) (List.map (fun l => List.map V.int l) (bS r)) := e1
    rw [eqv_L, decide_eq_true es3]
    refine ⟨_, rfl, iteF ?_⟩
    have s16 := s14.trans (s5.trans s6)
    obtain ⟨a, xs, rfl, ha, hx⟩ := h1.same s16
    have hx := A2.of_tis hx
    have lx := hx.len
    obtain ⟨oa, os, rfl, ho, hos⟩ := h2.same s16
    have hos := A2.of_tis hos
    have los := hos.len
    -- the lists
    refine ⟨_, rfl, a, rfl, ⟨_, ha⟩, fun D nD => ?_⟩
    refine lc_tup (K := K) (a := a) (xs := xs) (fun i H' => Same H6 H' ∧ ∃ as, LL H' D as ((bF r).take i) ∧ ∀ c, c ∈ D :: as → H6 c = none) ⟨same_new nD, [], ⟨upd_same, rfl, fun i b e => by simp at e, by simp⟩, fun c hc => by rw [List.mem_singleton.mp hc]; exact nD⟩ (fun i H' _ h => sqT_same h.1 ha) ?_ ?_
    · rintro i x H7 hi ⟨s7, as, hL, hn⟩
      obtain ⟨l, hl, b, rfl, hb⟩ := hx.get hi
      have ib := (List.getElem?_eq_some_iff.mp hl).1
      refine ⟨rfl, _, rfl, b, _, rfl, .inr (sqT_same s7 hb), fun t nt => ?_⟩
      have lp := hL.push (xs := l) nt
      have nt6 : H6 t = none := by
        cases e : H6 t with
        | none => rfl
        | some o => rw [s7 _ _ e] at nt; cases nt
      refine ⟨_, same_new nt _ _ hL.hd, ?_, same_off nD (s7.trans (same_new nt)) off_upd, as ++ [t], ?_, ?_⟩
      · have := y1.n10
        rw [List.length_map, hL.ln, List.length_take]
        exact small1000 (by omega)
      · rw [take_snoc hl]
        exact lp
      · intro c hc
        rw [← List.cons_append] at hc
        rcases List.mem_append.mp hc with z | z
        · exact hn c z
        · rw [List.mem_singleton.mp z]
          exact nt6
    · rintro H7 ⟨s7, as, hL, hn⟩
      rw [lx, List.take_length] at hL
      refine ⟨Nat.zero_le _, fun Tk nT => ?_⟩
      have sT := same_new (o := .lst []) nT
      have nT6 : H6 Tk = none := by
        cases e : H6 Tk with
        | none => rfl
        | some o => rw [s7 _ _ e] at nT; cases nT
      have nTD : Tk ∉ D :: as := fun m => hL.there m nT
      have h1b : BsAt K H6 (.ref a) (bF r) := ⟨a, xs, rfl, ha, hx.tis⟩
      have s77 := s7.trans sT
      refine ⟨_, rfl, .ref a, _, rfl, (h1b.same s77).vt, l1, fun H8 s8 => ?_⟩
      have e2' : (List.map (fun l : List V => ((l.length : Nat) : Int)) (List.map (fun l => List.map V.int l) (bF r))).sum = (r.length : Nat) := e2
      have s78 := s77.trans s8
      rw [e2']
      refine ⟨_, rfl, _, _, _, _, rfl, RgC.neg (by omega) (by omega) (by decide) (by decide), for_rangeC (lo := ((r.length : Nat) : Int)) (c := -1) (n := (((r.length : Nat) : Int) - 0).toNat) (fun i σ H' => ∃ (v3 v5 v6 v7 : Option V), σ = [some (.ref a), some (.ref oa), some (.ref D), v3, some (.ref Tk), v5, v6, v7] ∧ Same H6 H' ∧ LL H' D as (rtF r i) ∧ H' Tk = some (.lst (((List.range i).map (rtV r)).map V.int))) ⟨_, _, _, _, rfl, s78, hL.same (sT.trans s8), s8 _ _ upd_same⟩ ?_ ?_⟩
      · rintro i σ H9 hi ⟨v3, v5, v6, v7, rfl, s9, hL9, hT9⟩
        have hi2 : i < r.length := by omega
        have ok3 := List.all_eq_true.mp e3 i (List.mem_range.mpr hi2)
        rw [Bool.and_eq_true, decide_eq_true_eq] at ok3
        obtain ⟨ok, ne⟩ := ok3
        have et : ((r.length : Nat) : Int) + (i : Nat) * -1 = (r.length : Nat) - (i : Nat) := by omega
        rw [et]
        have stp : rtF r (i + 1) = (tk (rtF r i) (lineOf (bS r) ((r.length : Nat) - i : Int))).1 := rfl
        have stv : rtV r i = (tk (rtF r i) (lineOf (bS r) ((r.length : Nat) - i : Int))).2 := rfl
        rw [stp, List.range_succ, List.map_append, List.map_append]
        have hsq : ∀ H', Same H6 H' → SqT K H' oa os := fun H' s => sqT_same s ho
        generalize hz : ((r.length : Nat) : Int) - (i : Nat) = z at *
        refine ⟨_, rfl, oa, _, rfl, hsq _ s9, fun E1 nE => ?_⟩
        refine lc_it (walk_enumT (K := K) (a := oa) (xs := os)) (fun j H' => Same H9 H' ∧ H' E1 = some (.lst ((((List.range (bS r).length).take j).filter fun i => inV (.int z) (((bS r).getD i []).map V.int)).map fun i : Nat => V.int (i : Nat)))) ⟨same_new nE, upd_same⟩ (fun j H' _ h => hsq _ (s9.trans h.1)) ?_ ?_
        · rintro j x H10 H11 hj ⟨s10, hE⟩ ⟨q, x1, x2, rfl, nq, rfl, f1, f2⟩
          obtain rfl : x1 = .int (j : Nat) := (Option.some.inj f1).symm
          obtain ⟨l, hl, b, rfl, hb⟩ := hos.get f2
          have snq := same_new (o := .tup [.int (j : Nat), .ref b]) nq
          have hE2 := snq _ _ hE
          have jl := (List.getElem?_eq_some_iff.mp hl).1
          have hg : (List.range (bS r).length)[j]? = some j := by rw [List.getElem?_range jl]
          have gd : (bS r).getD j [] = l := by rw [List.getD_eq_getElem?_getD, hl]; rfl
          have hlen : (((List.range (bS r).length).take j).filter fun i => inV (.int z) (((bS r).getD i []).map V.int)).length ≤ 100 := Nat.le_trans (List.length_filter_le _ _) (by have := y2.n10; rw [List.length_take, List.length_range]; omega)
          refine ⟨_, _, rfl, .of upd_same, rfl, _, _, rfl, _, _, rfl, rfl, rfl, ?_⟩
          refine ⟨_, rfl, _, rfl, b, _, rfl, .inr (sqT_same ((s9.trans s10).trans snq) hb), rfl, flat_ints l, _, rfl, ite2 (fun c => ?_) (fun c => ?_)⟩
          · refine ⟨_, rfl, _, hE2, small1000 (by rw [List.length_map]; omega), same_off nE (s10.trans snq) off_upd, ?_⟩
            rw [upd_same, take_snoc hg, List.filter_append, List.filter_cons_of_pos (p := fun i : Nat => inV (.int z) (((bS r).getD i []).map V.int)) (by rw [gd]; exact c), List.filter_nil, List.map_append]
            rfl
          · refine ⟨s10.trans snq, ?_⟩
            rw [take_snoc hg, List.filter_append, List.filter_cons_of_neg (p := fun i : Nat => inV (.int z) (((bS r).getD i []).map V.int)) (by rw [gd]; exact c), List.filter_nil, List.append_nil]
            exact hE2
        · rintro H10 ⟨s10, hE⟩
          rw [List.take_of_length_le (by rw [List.length_range]; omega)] at hE
          have hE : H10 E1 = some (.lst ((endsL (bS r) z).map fun i : Nat => V.int (i : Nat))) := hE
          have hh : (endsL (bS r) z)[0]? = some (lineOf (bS r) z) := by
            unfold lineOf
            cases ee : endsL (bS r) z with
            | nil => exact absurd ee ne
            | cons x l => rfl
          have hL10 := hL9.same s10
          have hT10 := s10 _ _ hT9
          refine ⟨_, rfl, .inl ⟨rfl, _, .of hT10⟩, _, rfl, _, rfl, E1, _, _, _, rfl, rfl, .of hE, at_of (j := 0) rfl (by rw [List.getElem?_map, hh]; rfl), D, as, rtF r i, lineOf (bS r) z, rfl, hL10, ok, fun H11 o11 l11 => ?_⟩
          have hT11 := o11 _ _ nTD hT10
          refine ⟨Tk, _, _, rfl, rfl, hT11, small1000 (by rw [List.length_map, List.length_map, List.length_range]; omega), ?_⟩
          have s11 : Same H6 H11 := same_offS (s9.trans s10) hn o11
          refine ⟨_, _, _, _, rfl, same_off nT6 s11 off_upd, ?_, by rw [upd_same, ← stv]; rfl⟩
          exact l11.off (S := [Tk]) (OffS.upd (List.mem_singleton.mpr rfl)) (fun b hb hb2 => nTD (by rw [← List.mem_singleton.mp hb2]; exact hb))
      · rintro σ H9 ⟨v3, v5, v6, v7, rfl, s9, hL9, hT9⟩
        rw [show (((r.length : Nat) : Int) - 0).toNat = r.length by omega] at hT9
        refine ⟨_, rfl, Tk, _, rfl, .of hT9, fun B1 nB => ?_⟩
        refine ⟨B1, _, rfl, .inl ⟨.of upd_same, fun t nt => ?_⟩⟩
        refine k _ _ (s16.trans (s9.trans ((same_new nB).trans (same_new nt)))) ⟨t, rfl, .of ?_⟩
        rw [upd_same, ← List.map_reverse, e4]
end
end Sk

namespace Sk
open PySem L2 Ow
def srtB (r : List Int) : Bool := (List.range (r.length + 1)).all fun i => (bm r i).1.all (fun l => decide (l.Pairwise (· < ·))) && decide ((bm r i).1.length = (bm r i).2.length)
theorem srt_rows {r : List Int} (h : IsRow r) : srtB r = true := rows_all (p := srtB) (by decide +kernel) h
theorem srt_at {r : List Int} (h : IsRow r) {i : Nat} (hi : i ≤ r.length) : (∀ l ∈ (bm r i).1, l.Pairwise (· < ·)) ∧ (bm r i).1.length = (bm r i).2.length := by
  have := List.all_eq_true.mp (srt_rows h) i (List.mem_range.mpr (by omega))
  rw [Bool.and_eq_true, decide_eq_true_eq] at this
  exact ⟨fun l m => of_decide_eq_true (List.all_eq_true.mp this.1 l m), this.2⟩
theorem head_min {xs l : List Int} {e g m : Int} (hp : xs.Pairwise (· < ·)) (hf : xs.filter (fun t => decide (t > e)) = g :: l) (h1 : m ∈ g :: l) (h2 : ∀ y, y ∈ g :: l → m ≤ y) : m = g := by
  have hq : (g :: l).Pairwise (· < ·) := by rw [← hf]; exact hp.filter _
  have h3 := h2 g (List.mem_cons_self ..)
  rcases List.mem_cons.mp h1 with e | e
  · exact e
  · have := (List.pairwise_cons.mp hq).1 m e
    omega
def spLBumped (K : PySem.W.Frag) : Sp := fun vs H Q _ => ∃ (v : V) (r : List Int), vs = [v] ∧ TI K H v r ∧ IsRow r ∧ ∀ v' H', Same H H' → PrT K H' v' (bF r) (bS r) → Q v' H'
section
variable {P : Program} {w : World} {K : PySem.W.Frag} {mg : Str → Option Value} {base : Heap} {C : Addr}
theorem cal_l_bumped (T : Txt K mg C) : Cal P w K mg base "_law_bumped" 1 (spLBumped K) := by
  refine T.d_l_bumped.cal (ps := ["_law_row"]) (fun f fd D => ?_) (fun _ _ _ _ _ _ us hl => match us, hl with | [_], _ => rfl)
  refine D.ok sc_l_bumped (fun vs H Q E h => ?_) (fun cdv A outer s H vs Q E hr h => ?_)
  · obtain ⟨_, _, rfl, _⟩ := h
    rfl
  · obtain ⟨_, r, rfl, ⟨ra, rfl, hra⟩, hR, k⟩ := h
    have r2 := hR.lo
    have r5 := hR.hi
    have ll : (r.map V.int).length = r.length := List.length_map _
    refine ⟨_, (pss_cons (ps_par (i := 1) (j := 2) rfl sc_l_bumped.nd rfl rfl (by decide) rfl rfl (pa_cons (pe_lst pa_nil) (pa_cons (pe_lst pa_nil) pa_nil)) rfl)
      (pss_cons (ps_for PassesOwn.never rfl (pi_enumT (by rfl) T.b_enumerate (pa_cons (pv 0) pa_nil)) (pg_tup (by rfl) (pgs_cons (pg_name (i := 3) sc_l_bumped.nd rfl (Or.inl rfl)) (pgs_cons (pg_name (i := 4) sc_l_bumped.nd rfl (Or.inl rfl)) pgs_nil))) (pss_cons (ps_asg (pe_tup (pa_cons (pv 4) (pa_cons pe_int pa_nil))) (pg_tup (by rfl) (pgs_cons (pg_name (i := 5) sc_l_bumped.nd rfl (Or.inr rfl)) (pgs_cons (pg_name (i := 6) sc_l_bumped.nd rfl (Or.inl rfl)) pgs_nil))))
      (pss_one (ps_while PassesOwn.never (pt_cmpR op_gt (pv 5) pe_int (nomark _)) (pss_cons (ps_if (pt_cmpR op_eq (pv 6) (pe_callB call_len_seq (by rfl) T.b_len (by decide +kernel) (pa_cons (pv 1) pa_nil)) (nomark _)) (pss_cons (ps_expr (pe_bm PySem.F.plainAttrs_list PySem.F.slot_list_append PySem.F.type_list_append mt_append (pv 1) (pa_cons (pe_lst pa_nil) pa_nil)))
      (pss_one (ps_expr (pe_bm PySem.F.plainAttrs_list PySem.F.slot_list_append PySem.F.type_list_append mt_append (pv 2) (pa_cons (pe_lst pa_nil) pa_nil))))) pss_nil)
      (pss_cons (ps_setLc (i := 7) (own := [("_law_other", 8)]) (g := gName 8) rfl sc_l_bumped.nd rfl rfl (sw_true rfl rfl rfl (by decide +kernel)) (pi_list (pe_ix ix_list (pv 1) (pv 6) (fun _ _ => rfl))) (blkOk_by (own := [("_law_other", 8)]) (N := ["_law_row", "_law_first", "_law_last", "_law_at", "_law_entry", "_law_here", "_law_spot", "_law_greater", "_law_other", "_law_place", "_law_line_here"]) (sc := defScope s_l_bumped) (by decide +kernel)) (fun _ _ _ _ _ => (pg_name (i := 8) sc_l_bumped.nd rfl (Or.inl rfl))) (fun _ _ _ _ _ => (pts_one (pt_cmpR op_gt (pv 8) (pv 5) (nomark _)))) (fun _ _ _ _ _ => (pv 8)))
      (pss_one (ps_if (pt_cmpR (op_eqD hr.units) (pv 7) (pe_lst pa_nil) (nomark _)) (pss_cons (ps_expr (pe_bm PySem.F.plainAttrs_list PySem.F.slot_list_append PySem.F.type_list_append mt_append (pe_ix ix_list (pv 1) (pv 6) (fun _ _ => rfl)) (pa_cons (pv 5) pa_nil)))
      (pss_cons (ps_expr (pe_bm PySem.F.plainAttrs_list PySem.F.slot_list_append PySem.F.type_list_append mt_append (pe_ix ix_list (pv 2) (pv 6) (fun _ _ => rfl)) (pa_cons (pe_op op_add (pv 3) pe_int) pa_nil)))
      (pss_one (ps_set (i := 5) sc_l_bumped.nd rfl (Or.inr rfl) pe_int)))) (pss_cons (ps_set (i := 9) sc_l_bumped.nd rfl (Or.inl rfl) (pe_bm PySem.F.plainAttrs_list PySem.F.slot_list_index PySem.F.type_list_index (show MtR _ _ (rLIx K) from lix_ints) (pe_ix ix_list (pv 1) (pv 6) (fun _ _ => rfl)) (pa_cons (pe_callB (cr_min rfl) (by rfl) T.b_min (by decide +kernel) (pa_cons (pv 7) pa_nil)) pa_nil)))
      (pss_cons (ps_asg (pe_tup (pa_cons (pv 5) (pa_cons (pe_callB (cr_min rfl) (by rfl) T.b_min (by decide +kernel) (pa_cons (pv 7) pa_nil)) pa_nil))) (pg_tup (by rfl) (pgs_cons (pg_sub (pe_ix ix_list (pv 1) (pv 6) (fun _ _ => rfl)) (pv 9) set_list) (pgs_cons (pg_name (i := 5) sc_l_bumped.nd rfl (Or.inr rfl)) pgs_nil))))
      (pss_one (ps_set (i := 6) sc_l_bumped.nd rfl (Or.inl rfl) (pe_op op_add (pv 6) pe_int)))))))))))))
      (pss_one (ps_ret (pe_tup (pa_cons (pe_callTy call_tuple_of (by rfl) T.b_tuple (by decide +kernel) (pa_cons (pe_lc (own := [("_law_line_here", 10)]) (g := gName 10) (tt := tYes) rfl sc_l_bumped.nd (pi_list (pv 1)) (blkOk_by (own := [("_law_line_here", 10)]) (N := ["_law_row", "_law_first", "_law_last", "_law_at", "_law_entry", "_law_here", "_law_spot", "_law_greater", "_law_other", "_law_place", "_law_line_here"]) (sc := defScope s_l_bumped) (by decide +kernel)) (fun _ _ _ _ _ => (pg_name (i := 10) sc_l_bumped.nd rfl (Or.inl rfl))) (fun _ _ _ _ _ => pts_nil) (fun _ _ _ _ _ => (pe_callTy (show CallR _ (.type "tuple") (rTupQ K) from call_tuple_of) (by rfl) T.b_tuple (by decide +kernel) (pa_cons (pv 10) pa_nil)))) pa_nil)) (pa_cons (pe_callTy call_tuple_of (by rfl) T.b_tuple (by decide +kernel) (pa_cons (pe_lc (own := [("_law_line_here", 10)]) (g := gName 10) (tt := tYes) rfl sc_l_bumped.nd (pi_list (pv 2)) (blkOk_by (own := [("_law_line_here", 10)]) (N := ["_law_row", "_law_first", "_law_last", "_law_at", "_law_entry", "_law_here", "_law_spot", "_law_greater", "_law_other", "_law_place", "_law_line_here"]) (sc := defScope s_l_bumped) (by decide +kernel)) (fun _ _ _ _ _ => (pg_name (i := 10) sc_l_bumped.nd rfl (Or.inl rfl))) (fun _ _ _ _ _ => pts_nil) (fun _ _ _ _ _ => (pe_callTy (show CallR _ (.type "tuple") (rTupQ K) from call_tuple_of) (by rfl) T.b_tuple (by decide +kernel) (pa_cons (pv 10) pa_nil)))) pa_nil)) pa_nil))))))), ?_⟩
    refine ⟨Nat.zero_le _, fun A1 nA => ⟨Nat.zero_le _, fun B1 nB => ⟨_, _, rfl, ?_⟩⟩⟩
    have sA := same_new (o := .lst []) nA
    have sB := same_new (o := .lst []) nB
    have hra1 := sqT_same (sA.trans sB) hra
    have nAB : B1 ≠ A1 := (ne_of_none (upd_same (H := H) (a := A1) (o := .lst [])) nB).symm
    have nB1 : H B1 = none := by
      rw [upd_ne nAB] at nB
      exact nB
    have two : Two H (upd (upd H A1 (.lst [])) B1 (.lst [])) A1 [] B1 [] [] [] := by
      refine ⟨sA.trans sB, ⟨sB _ _ upd_same, rfl, fun i b e => by simp at e, by simp⟩, ⟨upd_same, rfl, fun i b e => by simp at e, by simp⟩, fun c hc => ?_, fun c hc => ?_, fun c hc hb => ?_⟩
      · rw [List.mem_singleton.mp hc]
        exact nA
      · rw [List.mem_singleton.mp hc]
        exact nB1
      · rw [List.mem_singleton.mp hc] at hb
        exact nAB (List.mem_singleton.mp hb).symm
    refine ⟨_, rfl, ra, _, rfl, hra1, for_it (walk_enumT (K := K) (a := ra) (xs := r.map V.int)) (fun i σ H' => ∃ (as bs : List Addr) (v3 v4 v5 v6 v7 v8 v9 : Option V), σ = [some (.ref ra), some (.ref A1), some (.ref B1), v3, v4, v5, v6, v7, v8, v9, none] ∧ Two H H' A1 as B1 bs (bm r i).1 (bm r i).2) ⟨[], [], none, none, none, none, none, none, none, rfl, two⟩ (fun i σ H' _ h => by obtain ⟨_, _, _, _, _, _, _, _, _, _, h⟩ := h; exact sqT_same h.s hra) ?_ ?_⟩
    · rintro i x σ H4 H5 hi ⟨as, bs, v3, v4, v5, v6, v7, v8, v9, rfl, two⟩ ⟨q, x1, x2, rfl, nq, rfl, e1, e2⟩
      obtain rfl : x1 = .int (i : Nat) := (Option.some.inj e1).symm
      obtain ⟨c, hc, rfl⟩ := int_at e2
      have cv : r.getD i 0 = c := by rw [List.getD_eq_getElem?_getD, hc]; rfl
      have c1 : 1 ≤ c := (hR.mem.mp (List.mem_of_getElem? hc)).1
      obtain ⟨k1, k2, k3, k4, k5⟩ := ok_at hR (i := i) (by omega)
      obtain ⟨k6, k7⟩ := srt_at hR (i := i) (by omega)
      have stp : bm r (i + 1) = bmS (bm r i) i c := by rw [← cv]; rfl
      rw [cv] at k3
      rw [stp]
      generalize bm r i = st at *
      obtain ⟨F, S⟩ := st
      dsimp only at *
      refine ⟨_, _, rfl, .of upd_same, rfl, _, _, rfl, _, _, rfl, rfl, ?_⟩
      have two1 := two.same (same_new (o := .tup [.int (i : Nat), .int c]) nq)
      refine ⟨_, rfl, show 2 ≤ sizeLine by decide, fun t nt => ?_⟩
      refine ⟨_, _, rfl, .of upd_same, rfl, _, _, rfl, _, _, rfl, rfl, ?_⟩
      have two2 := two1.same (same_new (o := .tup [.int c, .int 0]) nt)
      let Pv : Nat → L2.St → Hp → Prop := fun m σ H' => ∃ (as bs : List Addr) (v7 v8 v9 : Option V) (e : Int) (j : Nat), σ = [some (.ref ra), some (.ref A1), some (.ref B1), some (.int (i : Nat)), some (.int c), some (.int e), some (.int (j : Nat)), v7, v8, v9, none] ∧
        ((m = F.length + 1 - j ∧ 0 < e ∧ ∃ ys, ys.length = j ∧ j ≤ F.length ∧ Two H H' A1 as B1 bs (ys ++ F.drop j) S ∧ putIn F c = (ys ++ (putIn (F.drop j) e).1, j + (putIn (F.drop j) e).2)) ∨
         (m = 0 ∧ e = 0 ∧ Two H H' A1 as B1 bs (bmS (F, S) i c).1 (bmS (F, S) i c).2))
      refine ⟨Pv, ⟨_, as, bs, _, _, _, c, 0, rfl, .inl ⟨rfl, by omega, [], rfl, Nat.zero_le _, two2, by simp⟩⟩, ?_⟩
      rintro m _ H6 ⟨as, bs, v7, v8, v9, e, j, rfl, hh⟩
      rcases hh with ⟨rfl, e0, ys, yl, jl, two, hp⟩ | ⟨rfl, rfl, two⟩
      rotate_left
      · refine ⟨_, rfl, _, _, rfl, rfl, _, rfl, iteF ?_⟩
        exact ⟨as, bs, _, _, _, _, _, _, _, rfl, two⟩
      refine ⟨_, rfl, _, _, rfl, rfl, _, rfl, ?_⟩
      rw [decide_eq_true (show e > 0 from e0)]
      refine iteT ⟨fun σ' H' => ∃ m', m' < F.length + 1 - j ∧ Pv m' σ' H', fun _ _ h => h, ?_⟩
      refine ⟨_, rfl, _, rfl, _, _, rfl, .inl (.of two.f.hd), rfl, _, rfl, ite2 (fun t => ?_) (fun t => ?_)⟩
      · have ej : j = F.length := by
          have := V.int.inj (of_decide_eq_true t)
          rw [List.length_map, two.f.ln, List.length_append, List.length_drop, yl] at this
          omega
        rw [ej, List.drop_length] at hp
        have two' := two
        rw [ej, List.drop_length, List.append_nil] at two'
        rw [← ej] at hp
        have pe : (putIn [] e) = ([[e]], 0) := rfl
        rw [pe] at hp
        refine ⟨_, rfl, .inl ⟨rfl, _, .of two'.f.hd⟩, Nat.zero_le _, fun b nb => ?_⟩
        refine ⟨A1, _, _, rfl, rfl, same_new nb _ _ two'.f.hd, small1000 (by rw [List.length_map, two'.f.ln]; omega), ?_⟩
        have two3 : Two H (upd (upd H6 b (.lst [])) A1 (.lst (as.map V.ref ++ [.ref b]))) A1 (as ++ [b]) B1 bs (ys ++ [[]]) S := two'.fst ((OffS.of_same (same_new nb)).trans (OffS.upd (List.mem_cons_self ..))) (two'.f.push (xs := []) nb) (fun c hc => by
          rcases List.mem_append.mp hc with z | z
          · exact .inl z
          · rw [List.mem_singleton.mp z]
            exact .inr nb)
        refine ⟨_, rfl, .inl ⟨rfl, _, .of two3.g.hd⟩, Nat.zero_le _, fun b' nb' => ?_⟩
        refine ⟨B1, _, _, rfl, rfl, same_new nb' _ _ two3.g.hd, small1000 (by rw [List.length_map, two3.g.ln]; omega), ?_⟩
        have two7 : Two H (upd (upd (upd (upd H6 b (.lst [])) A1 (.lst (as.map V.ref ++ [.ref b]))) b' (.lst [])) B1 (.lst (bs.map V.ref ++ [.ref b']))) A1 (as ++ [b]) B1 (bs ++ [b']) (ys ++ [[]]) (S ++ [[]]) := two3.snd ((OffS.of_same (same_new nb')).trans (OffS.upd (List.mem_cons_self ..))) (two3.g.push (xs := []) nb') (fun c hc => by
          rcases List.mem_append.mp hc with z | z
          · exact .inl z
          · rw [List.mem_singleton.mp z]
            exact .inr nb')
        generalize as ++ [b] = as7 at *
        generalize bs ++ [b'] = bs7 at *
        generalize upd (upd (upd (upd H6 b (.lst [])) A1 (.lst (as.map V.ref ++ [.ref b]))) b' (.lst [])) B1 (.lst (bs.map V.ref ++ [.ref b'])) = H7 at *
        have jl' : j = ys.length := yl.symm
        have jF : j < (ys ++ [[]]).length := by rw [List.length_append]; simp; omega
        have jS : j < (S ++ [[]]).length := by rw [List.length_append]; simp; omega
        obtain ⟨xs, hxs⟩ : ∃ xs : List Int, xs = [] := ⟨_, rfl⟩
        have gF : (ys ++ [[]]).getD j [] = xs := by rw [hxs, List.getD_eq_getElem?_getD, jl', List.getElem?_append_right (Nat.le_refl _), Nat.sub_self]; rfl
        have gS : (S ++ [[]]).getD j [] = ([] : List Int) := by rw [List.getD_eq_getElem?_getD, show j = S.length by omega, List.getElem?_append_right (Nat.le_refl _), Nat.sub_self]; rfl
        have xl : xs.length ≤ 10 := by rw [hxs]; exact Nat.zero_le _
        have hf : xs.filter (fun t => decide (t > e)) = [] := by rw [hxs]; rfl
        obtain ⟨bb, ebb, nbb, hbb⟩ := two7.f.get (i := j) jF
        obtain ⟨b2, eb2, nb2, hb2⟩ := two7.g.get (i := j) jS
        have ab : atI (as7.map V.ref) (j : Nat) = some (.ref bb) := ixI (by omega) (by rw [show ((j : Nat) : Int).toNat = j by omega, List.getElem?_map, ebb]; rfl)
        have ab2 : atI (bs7.map V.ref) (j : Nat) = some (.ref b2) := ixI (by omega) (by rw [show ((j : Nat) : Int).toNat = j by omega, List.getElem?_map, eb2]; rfl)
        rw [gF] at hbb
        refine ⟨_, rfl, _, rfl, A1, _, _, _, rfl, rfl, .of two7.f.hd, ab, bb, rfl, ⟨_, .of hbb⟩, fun D nD => ?_⟩
        refine lc_list (K := K) (a := bb) (xs := xs.map V.int) (fun j H' => Same H7 H' ∧ H' D = some (.lst (((xs.take j).filter fun t => decide (t > e)).map V.int))) ⟨same_new nD, upd_same⟩ (fun j H' _ h => .of (h.1 _ _ hbb)) ?_ ?_
        · rintro l x H2 hj ⟨s2, hD⟩
          obtain ⟨z, hz, rfl⟩ := int_at hj
          have hlen : ((xs.take l).filter fun t => decide (t > e)).length ≤ 100 := Nat.le_trans (List.length_filter_le _ _) (by rw [List.length_take]; omega)
          refine ⟨rfl, _, rfl, _, rfl, _, _, rfl, rfl, _, rfl, ite2 (fun t => ?_) (fun t => ?_)⟩
          · refine ⟨_, rfl, _, hD, small1000 (by rw [List.length_map]; omega), same_off nD s2 off_upd, ?_⟩
            rw [upd_same, take_snoc hz, List.filter_append, List.filter_cons_of_pos (p := fun t : Int => decide (t > e)) t, List.filter_nil, List.map_append]
            rfl
          · refine ⟨s2, ?_⟩
            rw [take_snoc hz, List.filter_append, List.filter_cons_of_neg (p := fun t : Int => decide (t > e)) t, List.filter_nil, List.append_nil]
            exact hD
        · rintro H8 ⟨s8, hD⟩
          rw [List.length_map, List.take_length] at hD
          have two8 := two7.same s8
          have hbb8 := s8 _ _ hbb
          refine ⟨_, rfl, Nat.zero_le _, fun D2 nD2 => ?_⟩
          have sD2 := same_new (o := .lst []) nD2
          refine ⟨_, _, dp_len K _ _ D (sD2 _ _ hD), dp_len K _ [] D2 upd_same, sh_L _, sh_L _, _, rfl, ?_⟩
          rw [eqv_L]
          have two9 := two8.same sD2
          have hbb9 := sD2 _ _ hbb8
          rw [hf, decide_eq_true rfl]
          refine iteT ?_
          refine ⟨_, rfl, _, rfl, A1, _, _, _, rfl, rfl, .of two9.f.hd, ab, .inl ⟨rfl, _, .of hbb9⟩, _, rfl, bb, _, _, rfl, rfl, hbb9, small1000 (by rw [List.length_map]; omega), ?_⟩
          have la := two9.f.set ebb (xs ++ [e])
          rw [List.map_append] at la
          have two10 := two9.fst (OffS.upd (List.mem_cons_of_mem _ (List.mem_of_getElem? ebb))) la (fun c hc => .inl hc)
          have hb10 := two10.g.it _ _ eb2
          refine ⟨_, rfl, _, rfl, B1, _, _, _, rfl, rfl, .of two10.g.hd, ab2, .inl ⟨rfl, _, .of hb10⟩, _, rfl, _, _, rfl, rfl, b2, _, _, rfl, rfl, hb10, by rw [gS]; decide, ?_⟩
          have lb := two10.g.set eb2 ((S ++ [[]]).getD j [] ++ [(i : Int) + 1])
          rw [List.map_append] at lb
          have two11 := two10.snd (OffS.upd (List.mem_cons_of_mem _ (List.mem_of_getElem? eb2))) lb (fun c hc => .inl hc)
          refine ⟨0, by omega, as7, bs7, _, _, _, 0, j, rfl, .inr ⟨rfl, rfl, ?_⟩⟩
          have q1 : (bmS (F, S) i c).1 = (ys ++ [[]]).set j (xs ++ [e]) := by
            show (putIn F c).1 = _
            rw [hp, hxs, jl', List.set_append_right _ _ (Nat.le_refl _), Nat.sub_self]
            rfl
          have q2 : (bmS (F, S) i c).2 = (S ++ [[]]).set j ((S ++ [[]]).getD j [] ++ [(i : Int) + 1]) := by
            show (if (putIn F c).2 = S.length then S ++ [[(i : Int) + 1]] else _) = _
            rw [hp, if_pos (show j + 0 = S.length by omega), gS, show j = S.length by omega, List.set_append_right _ _ (Nat.le_refl _), Nat.sub_self]
            rfl
          rw [q1, q2]
          exact two11
      · skip
        have jlt : j < F.length := by
          rcases Nat.lt_or_ge j F.length with z | z
          · exact z
          · exact absurd (decide_eq_true (show V.int (j : Nat) = V.int (((as.map V.ref).length : Nat)) by rw [List.length_map, two.f.ln, List.length_append, List.length_drop, yl]; congr 2; omega)) t
        have jF : j < (ys ++ F.drop j).length := by rw [List.length_append, List.length_drop]; omega
        have jS : j < S.length := by omega
        obtain ⟨xs, hxs⟩ : ∃ xs : List Int, F.getD j [] = xs := ⟨_, rfl⟩
        have dj : F.drop j = xs :: F.drop (j + 1) := by rw [getD_drop jlt, hxs]
        have gF : (ys ++ F.drop j).getD j [] = xs := by rw [dj, List.getD_eq_getElem?_getD, List.getElem?_append_right (by omega), yl, Nat.sub_self]; rfl
        have xl : xs.length ≤ 10 := by rw [← hxs]; exact k2 j
        have xsrt : xs.Pairwise (· < ·) := k6 xs (by rw [← hxs, List.getD_eq_getElem?_getD, List.getElem?_eq_getElem jlt]; exact List.getElem_mem _)
        have two7 := two
        generalize hg1 : H6 = H7 at *
        generalize hg2 : as = as7 at *
        generalize hg3 : bs = bs7 at *
        rw [dj] at hp
        obtain ⟨bb, ebb, nbb, hbb⟩ := two7.f.get (i := j) jF
        obtain ⟨b2, eb2, nb2, hb2⟩ := two7.g.get (i := j) jS
        have ab : atI (as7.map V.ref) (j : Nat) = some (.ref bb) := ixI (by omega) (by rw [show ((j : Nat) : Int).toNat = j by omega, List.getElem?_map, ebb]; rfl)
        have ab2 : atI (bs7.map V.ref) (j : Nat) = some (.ref b2) := ixI (by omega) (by rw [show ((j : Nat) : Int).toNat = j by omega, List.getElem?_map, eb2]; rfl)
        rw [gF] at hbb
        refine ⟨_, rfl, _, rfl, A1, _, _, _, rfl, rfl, .of two7.f.hd, ab, bb, rfl, ⟨_, .of hbb⟩, fun D nD => ?_⟩
        refine lc_list (K := K) (a := bb) (xs := xs.map V.int) (fun j H' => Same H7 H' ∧ H' D = some (.lst (((xs.take j).filter fun t => decide (t > e)).map V.int))) ⟨same_new nD, upd_same⟩ (fun j H' _ h => .of (h.1 _ _ hbb)) ?_ ?_
        · rintro l x H2 hj ⟨s2, hD⟩
          obtain ⟨z, hz, rfl⟩ := int_at hj
          have hlen : ((xs.take l).filter fun t => decide (t > e)).length ≤ 100 := Nat.le_trans (List.length_filter_le _ _) (by rw [List.length_take]; omega)
          refine ⟨rfl, _, rfl, _, rfl, _, _, rfl, rfl, _, rfl, ite2 (fun t => ?_) (fun t => ?_)⟩
          · refine ⟨_, rfl, _, hD, small1000 (by rw [List.length_map]; omega), same_off nD s2 off_upd, ?_⟩
            rw [upd_same, take_snoc hz, List.filter_append, List.filter_cons_of_pos (p := fun t : Int => decide (t > e)) t, List.filter_nil, List.map_append]
            rfl
          · refine ⟨s2, ?_⟩
            rw [take_snoc hz, List.filter_append, List.filter_cons_of_neg (p := fun t : Int => decide (t > e)) t, List.filter_nil, List.append_nil]
            exact hD
        · rintro H8 ⟨s8, hD⟩
          rw [List.length_map, List.take_length] at hD
          have two8 := two7.same s8
          have hbb8 := s8 _ _ hbb
          refine ⟨_, rfl, Nat.zero_le _, fun D2 nD2 => ?_⟩
          have sD2 := same_new (o := .lst []) nD2
          refine ⟨_, _, dp_len K _ _ D (sD2 _ _ hD), dp_len K _ [] D2 upd_same, sh_L _, sh_L _, _, rfl, ?_⟩
          rw [eqv_L]
          have two9 := two8.same sD2
          have hbb9 := sD2 _ _ hbb8
          cases hf : xs.filter (fun t => decide (t > e)) with
          | nil =>
            rw [decide_eq_true rfl]
            refine iteT ?_
            refine ⟨_, rfl, _, rfl, A1, _, _, _, rfl, rfl, .of two9.f.hd, ab, .inl ⟨rfl, _, .of hbb9⟩, _, rfl, bb, _, _, rfl, rfl, hbb9, small1000 (by rw [List.length_map]; omega), ?_⟩
            have la := two9.f.set ebb (xs ++ [e])
            rw [List.map_append] at la
            have two10 := two9.fst (OffS.upd (List.mem_cons_of_mem _ (List.mem_of_getElem? ebb))) la (fun c hc => .inl hc)
            have hb10 := two10.g.it _ _ eb2
            refine ⟨_, rfl, _, rfl, B1, _, _, _, rfl, rfl, .of two10.g.hd, ab2, .inl ⟨rfl, _, .of hb10⟩, _, rfl, _, _, rfl, rfl, b2, _, _, rfl, rfl, hb10, small1000 (by rw [List.length_map]; have := k5 j; omega), ?_⟩
            have lb := two10.g.set eb2 (S.getD j [] ++ [(i : Int) + 1])
            rw [List.map_append] at lb
            have two11 := two10.snd (OffS.upd (List.mem_cons_of_mem _ (List.mem_of_getElem? eb2))) lb (fun c hc => .inl hc)
            refine ⟨0, by omega, as7, bs7, _, _, _, 0, j, rfl, .inr ⟨rfl, rfl, ?_⟩⟩
            rw [putIn_stay hf] at hp
            have q1 : (bmS (F, S) i c).1 = (ys ++ F.drop j).set j (xs ++ [e]) := by
              show (putIn F c).1 = _
              rw [hp, dj, List.set_append_right _ _ (by omega), yl, Nat.sub_self]
              rfl
            have q2 : (bmS (F, S) i c).2 = S.set j (S.getD j [] ++ [(i : Int) + 1]) := by
              show (if (putIn F c).2 = S.length then _ else S.set (putIn F c).2 (S.getD (putIn F c).2 [] ++ [(i : Int) + 1])) = _
              rw [hp, if_neg (show ¬ j + 0 = S.length by omega)]
              rfl
            rw [q1, q2]
            exact two11
          | cons g l =>
            rw [hf] at hD
            rw [decide_eq_false (by simp)]
            have mg' : g ∈ xs := by
              have : g ∈ xs.filter (fun t => decide (t > e)) := by rw [hf]; exact List.mem_cons_self ..
              exact (List.mem_filter.mp this).1
            have ge : e < g := by
              have : g ∈ xs.filter (fun t => decide (t > e)) := by rw [hf]; exact List.mem_cons_self ..
              exact of_decide_eq_true (List.mem_filter.mp this).2
            have hD9 := sD2 _ _ hD
            refine iteF ?_
            refine ⟨_, rfl, _, rfl, A1, _, _, _, rfl, rfl, .of two9.f.hd, ab, .inl ⟨rfl, _, .of hbb9⟩, _, rfl, D, g :: l, rfl, .of hD9, by simp, fun m1 hm1 hm2 => ?_⟩
            obtain rfl := head_min xsrt hf hm1 hm2
            refine ⟨bb, xs, m1, rfl, rfl, .of hbb9, mg', ?_⟩
            refine ⟨_, rfl, _, rfl, D, m1 :: l, rfl, .of hD9, by simp, fun m2 hn1 hn2 => ?_⟩
            obtain rfl := head_min xsrt hf hn1 hn2
            refine ⟨show 2 ≤ sizeLine by decide, fun tt ntt => ?_⟩
            have stt := same_new (o := .tup [.int e, .int m2]) ntt
            have two10 := two9.same stt
            have hbb10 := stt _ _ hbb9
            have la := two10.f.set ebb (xs.set (xs.idxOf m2) e)
            rw [List.map_set] at la
            have two11 := two10.fst (OffS.upd (List.mem_cons_of_mem _ (List.mem_of_getElem? ebb))) la (fun c hc => .inl hc)
            refine ⟨_, _, rfl, .of upd_same, rfl, _, _, rfl, _, rfl, _, rfl, A1, _, _, _, rfl, rfl, .of two10.f.hd, ab, _, rfl, bb, _, _, xs.idxOf m2, rfl, rfl, hbb10, ixN_ok (by omega) (by rw [List.length_map]; exact Int.ofNat_lt.mpr (List.idxOf_lt_length_of_mem mg')), _, _, rfl, rfl, ?_⟩
            refine ⟨_, rfl, _, _, rfl, rfl, ?_⟩
            refine ⟨F.length + 1 - (j + 1), by omega, as7, bs7, _, _, _, m2, j + 1, rfl, .inl ⟨rfl, by omega, ys ++ [xs.set (xs.idxOf m2) e], by rw [List.length_append, yl]; rfl, by omega, ?_, ?_⟩⟩
            · have q1 : (ys ++ F.drop j).set j (xs.set (xs.idxOf m2) e) = (ys ++ [xs.set (xs.idxOf m2) e]) ++ F.drop (j + 1) := by
                rw [dj, List.set_append_right _ _ (by omega), yl, Nat.sub_self, List.append_assoc]
                rfl
              rw [q1] at two11
              exact two11
            · rw [hp, putIn_on hf, List.append_assoc]
              refine Prod.ext rfl ?_
              show j + ((putIn (F.drop (j + 1)) m2).2 + 1) = j + 1 + _
              omega
    · rintro σ H4 ⟨as, bs, v3, v4, v5, v6, v7, v8, v9, rfl, two⟩
      rw [ll] at two
      have kk := ok_at hR (i := r.length) (Nat.le_refl _)
      unfold bF bS at k
      generalize bm r r.length = st at *
      obtain ⟨F, S⟩ := st
      dsimp only at *
      refine ⟨_, rfl, A1, rfl, ⟨_, .of two.f.hd⟩, fun Da nDa => lc_list (K := K) (a := A1) (xs := as.map V.ref) (fun i H' => Same H4 H' ∧ ∃ ys, H' Da = some (.lst ys) ∧ A2 (TI K H') ys (F.take i)) ⟨same_new nDa, [], upd_same, by simp [A2]⟩ (fun i H' _ h => .of (h.1 _ _ two.f.hd)) ?_ ?_⟩
      · rintro i x H2 hi ⟨s2, ys, hD, hy⟩
        rw [List.getElem?_map] at hi
        obtain ⟨b, eb, rfl⟩ := Option.map_eq_some_iff.mp hi
        have ib : i < F.length := by rw [← two.f.ln]; exact (List.getElem?_eq_some_iff.mp eb).1
        have hb := s2 _ _ (two.f.it _ _ eb)
        refine ⟨rfl, _, rfl, b, _, rfl, .inl ⟨.of hb, fun t nt => ?_⟩⟩
        have st := same_new (o := .tup ((F.getD i []).map V.int)) nt
        have hD2 := st _ _ hD
        have nDt : ∀ x l, TI K H2 x l → TI K (upd (upd H2 t (.tup ((F.getD i []).map V.int))) Da (.lst (ys ++ [.ref t]))) x l := fun x l h => off_upd.ti hD2 (h.same st)
        refine ⟨_, hD2, ?_, same_off nDa (s2.trans st) off_upd, _, upd_same, ?_⟩
        · have := hy.len
          rw [List.length_take] at this
          exact small1000 (by omega)
        · have ht : F[i]? = some (F.getD i []) := by rw [List.getD_eq_getElem?_getD, List.getElem?_eq_getElem ib]; rfl
          rw [take_snoc ht]
          exact (hy.same nDt).snoc (off_upd.ti hD2 ⟨t, rfl, .of upd_same⟩)
      · rintro H2a ⟨s2a, ysa, hDa, hya⟩
        rw [show (as.map V.ref).length = F.length by rw [List.length_map, two.f.ln], List.take_length] at hya
        refine ⟨Da, _, rfl, .inl ⟨.of hDa, fun ta nta => ?_⟩⟩
        have sta := same_new (o := .tup ysa) nta
        have g2 := two.g.same (s2a.trans sta)
        refine ⟨_, rfl, B1, rfl, ⟨_, .of g2.hd⟩, fun Db nDb => lc_list (K := K) (a := B1) (xs := bs.map V.ref) (fun i H' => Same (upd H2a ta (.tup ysa)) H' ∧ ∃ ys, H' Db = some (.lst ys) ∧ A2 (TI K H') ys (S.take i)) ⟨same_new nDb, [], upd_same, by simp [A2]⟩ (fun i H' _ h => .of (h.1 _ _ g2.hd)) ?_ ?_⟩
        · rintro i x H2 hi ⟨s2, ys, hD, hy⟩
          rw [List.getElem?_map] at hi
          obtain ⟨b, eb, rfl⟩ := Option.map_eq_some_iff.mp hi
          have ib : i < S.length := by rw [← g2.ln]; exact (List.getElem?_eq_some_iff.mp eb).1
          have hb := s2 _ _ (g2.it _ _ eb)
          refine ⟨rfl, _, rfl, b, _, rfl, .inl ⟨.of hb, fun t nt => ?_⟩⟩
          have st := same_new (o := .tup ((S.getD i []).map V.int)) nt
          have hD2 := st _ _ hD
          have nDt : ∀ x l, TI K H2 x l → TI K (upd (upd H2 t (.tup ((S.getD i []).map V.int))) Db (.lst (ys ++ [.ref t]))) x l := fun x l h => off_upd.ti hD2 (h.same st)
          refine ⟨_, hD2, ?_, same_off nDb (s2.trans st) off_upd, _, upd_same, ?_⟩
          · have := hy.len
            rw [List.length_take] at this
            exact small1000 (by omega)
          · have ht : S[i]? = some (S.getD i []) := by rw [List.getD_eq_getElem?_getD, List.getElem?_eq_getElem ib]; rfl
            rw [take_snoc ht]
            exact (hy.same nDt).snoc (off_upd.ti hD2 ⟨t, rfl, .of upd_same⟩)
        · rintro H2b ⟨s2b, ysb, hDb, hyb⟩
          rw [show (bs.map V.ref).length = S.length by rw [List.length_map, g2.ln], List.take_length] at hyb
          refine ⟨Db, _, rfl, .inl ⟨.of hDb, fun tb ntb => ?_⟩⟩
          have stb := same_new (o := .tup ysb) ntb
          have sG := s2a.trans sta
          have sH := s2b.trans stb
          refine ⟨show 2 ≤ sizeLine by decide, fun t nt => ?_⟩
          have st := same_new (o := .tup [.ref ta, .ref tb]) nt
          have hS : BsAt K _ (.ref tb) S := ⟨tb, ysb, rfl, .of upd_same, (hyb.same fun x l h => h.same stb).tis⟩
          have hF : BsAt K _ (.ref ta) F := ⟨ta, ysa, rfl, .of upd_same, (hya.same fun x l h => h.same sta).tis⟩
          exact k _ _ (two.s.trans (sG.trans (sH.trans st))) ⟨t, .ref ta, .ref tb, rfl, .of upd_same, hF.same (sH.trans st), hS.same st⟩
end
end Sk

namespace Sk
open PySem L2 Ow
def lowP (S : List (List Int)) (i : Int) : Bool := decide (((lineOf S (i + 2) : Nat) : Int) > (lineOf S (i + 1) : Nat))
def low (S : List (List Int)) (n : Nat) : List Int := (upto ((n : Nat) - 1 : Int)).filter (lowP S)
def spLine (K : PySem.W.Frag) : Sp := fun vs H Q _ => ∃ (v : V) (S : List (List Int)) (z : Int), vs = [v, .int z] ∧ BsAt K H v S ∧ S.length ≤ 10 ∧ endsL S z ≠ [] ∧ ∀ H', Same H H' → Q (.int (lineOf S z : Nat)) H'
def spLower (K : PySem.W.Frag) : Sp := fun vs H Q _ => ∃ (v : V) (S : List (List Int)) (n : Nat), vs = [v] ∧ BsAt K H v S ∧ S.length ≤ 10 ∧ (lens (vl S)).sum = (n : Nat) ∧ 1 ≤ n ∧ n ≤ 10 ∧ (∀ z : Int, 1 ≤ z → z ≤ n → endsL S z ≠ []) ∧ ∀ v' H', Same H H' → TI K H' v' (low S n) → Q v' H'
section
variable {P : Program} {w : World} {K : PySem.W.Frag} {mg : Str → Option Value} {base : Heap} {C : Addr}
theorem cal_l_line (T : Txt K mg C) : Cal P w K mg base "_law_line" 1 (spLine K) := by
  refine T.d_l_line.cal (ps := ["_law_table", "_law_entry"]) (fun f fd D => ?_) (fun _ _ _ _ _ _ us hl => match us, hl with | [_, _], _ => rfl)
  refine D.ok sc_l_line (fun vs H Q E h => ?_) (fun cdv A outer s H vs Q E hr h => ?_)
  · obtain ⟨_, _, _, rfl, _⟩ := h
    rfl
  · obtain ⟨_, S, z, rfl, ⟨oa, os, rfl, ho, hos⟩, n10, ne, k⟩ := h
    have hos := A2.of_tis hos
    have los := hos.len
    refine ⟨_, (pss_one (ps_ret (pe_ix ix_list (pe_lc (own := [("_law_at", 2), ("_law_line_here", 3)]) (g := gTup K 2 (gCons (gName 2) (gCons (gName 3) (gNil)))) rfl sc_l_line.nd (pi_enumT (by rfl) T.b_enumerate (pa_cons (pv 0) pa_nil)) (blkOk_by (own := [("_law_at", 2), ("_law_line_here", 3)]) (N := ["_law_table", "_law_entry", "_law_at", "_law_line_here"]) (sc := defScope s_l_line) (by decide +kernel)) (fun _ _ _ _ _ => (pg_tup (by rfl) (pgs_cons (pg_name (i := 2) sc_l_line.nd rfl (Or.inl rfl)) (pgs_cons (pg_name (i := 3) sc_l_line.nd rfl (Or.inl rfl)) pgs_nil)))) (fun _ _ _ _ _ => (pts_one (pt_cmpR (show OpR _ _ (rIn K false) from op_in_seq) (pv 1) (pv 3) (by rfl)))) (fun _ _ _ _ _ => (pv 2))) pe_int (fun _ _ => rfl)))), ?_⟩
    refine ⟨_, rfl, oa, _, rfl, ho, fun E1 nE => ?_⟩
    refine lc_it (walk_enumT (K := K) (a := oa) (xs := os)) (fun j H' => Same H H' ∧ H' E1 = some (.lst ((((List.range S.length).take j).filter fun i => inV (.int z) ((S.getD i []).map V.int)).map fun i : Nat => V.int (i : Nat)))) ⟨same_new nE, upd_same⟩ (fun j H' _ h => sqT_same h.1 ho) ?_ ?_
    · rintro j x H10 H11 hj ⟨s10, hE⟩ ⟨q, x1, x2, rfl, nq, rfl, f1, f2⟩
      obtain rfl : x1 = .int (j : Nat) := (Option.some.inj f1).symm
      obtain ⟨l, hl, b, rfl, hb⟩ := hos.get f2
      have snq := same_new (o := .tup [.int (j : Nat), .ref b]) nq
      have hE2 := snq _ _ hE
      have jl := (List.getElem?_eq_some_iff.mp hl).1
      have hg : (List.range S.length)[j]? = some j := by rw [List.getElem?_range jl]
      have gd : S.getD j [] = l := by rw [List.getD_eq_getElem?_getD, hl]; rfl
      have hlen : (((List.range S.length).take j).filter fun i => inV (.int z) ((S.getD i []).map V.int)).length ≤ 100 := Nat.le_trans (List.length_filter_le _ _) (by rw [List.length_take, List.length_range]; omega)
      refine ⟨_, _, rfl, .of upd_same, rfl, _, _, rfl, _, _, rfl, rfl, rfl, ?_⟩
      refine ⟨_, rfl, _, rfl, b, _, rfl, .inr (sqT_same (s10.trans snq) hb), rfl, flat_ints l, _, rfl, ite2 (fun c => ?_) (fun c => ?_)⟩
      · refine ⟨_, rfl, _, hE2, small1000 (by rw [List.length_map]; omega), same_off nE (s10.trans snq) off_upd, ?_⟩
        rw [upd_same, take_snoc hg, List.filter_append, List.filter_cons_of_pos (p := fun i : Nat => inV (.int z) ((S.getD i []).map V.int)) (by rw [gd]; exact c), List.filter_nil, List.map_append]
        rfl
      · refine ⟨s10.trans snq, ?_⟩
        rw [take_snoc hg, List.filter_append, List.filter_cons_of_neg (p := fun i : Nat => inV (.int z) ((S.getD i []).map V.int)) (by rw [gd]; exact c), List.filter_nil, List.append_nil]
        exact hE2
    · rintro H10 ⟨s10, hE⟩
      rw [List.take_of_length_le (by rw [List.length_range]; omega)] at hE
      have hE : H10 E1 = some (.lst ((endsL S z).map fun i : Nat => V.int (i : Nat))) := hE
      have hh : (endsL S z)[0]? = some (lineOf S z) := by
        unfold lineOf
        cases ee : endsL S z with
        | nil => exact absurd ee ne
        | cons x l => rfl
      exact ⟨E1, _, _, _, rfl, rfl, .of hE, at_of (j := 0) rfl (by rw [List.getElem?_map, hh]; rfl), k _ s10⟩
theorem cal_l_lower (T : Txt K mg C) : Cal P w K mg base "_law_lower" 2 (spLower K) := by
  refine T.d_l_lower.cal (ps := ["_law_table"]) (fun f fd D => ?_) (fun _ _ _ _ _ _ us hl => match us, hl with | [_], _ => rfl)
  refine D.ok sc_l_lower (fun vs H Q E h => ?_) (fun cdv A outer s H vs Q E hr h => ?_)
  · obtain ⟨_, _, _, rfl, _⟩ := h
    rfl
  · obtain ⟨v, S, n, rfl, hv, n10, es, l1, l2, ne, k⟩ := h
    obtain ⟨a, xs, ev, ha, hx⟩ := hv.vt
    have ll := hx.len
    have vls : (List.map (fun l => List.map V.int l) S) = vl S := rfl
    rw [vls] at ll hx
    have vl10 : (vl S).length ≤ 10 := by unfold vl; rw [List.length_map]; exact n10
    subst ev
    refine ⟨_, (pss_cons (ps_set (i := 1) sc_l_lower.nd rfl (Or.inl rfl) (pe_callB (cr_sum rfl) (by rfl) T.b_sum (by decide +kernel) (pa_cons (pe_lc (own := [("_law_line_here", 2)]) (g := gName 2) (tt := tYes) rfl sc_l_lower.nd (pi_tup (pv 0)) (blkOk_by (own := [("_law_line_here", 2)]) (N := ["_law_table", "_law_size", "_law_line_here", "_law_at"]) (sc := defScope s_l_lower) (by decide +kernel)) (fun _ _ _ _ _ => (pg_name (i := 2) sc_l_lower.nd rfl (Or.inl rfl))) (fun _ _ _ _ _ => pts_nil) (fun _ _ _ _ _ => (pe_callB (show CallR _ (.builtin "len") (rLenQ K) from call_len_seq) (by rfl) T.b_len (by decide +kernel) (pa_cons (pv 2) pa_nil)))) pa_nil)))
      (pss_one (ps_ret (pe_callTy call_tuple_of (by rfl) T.b_tuple (by decide +kernel) (pa_cons (pe_lc (own := [("_law_at", 3)]) (g := gName 3) rfl sc_l_lower.nd (pi_range1 (by rfl) T.b_range (pa_cons (pe_op op_sub (pv 1) pe_int) pa_nil)) (blkOk_by (own := [("_law_at", 3)]) (N := ["_law_table", "_law_size", "_law_line_here", "_law_at"]) (sc := defScope s_l_lower) (by decide +kernel)) (fun _ _ _ _ _ => (pg_name (i := 3) sc_l_lower.nd rfl (Or.inl rfl))) (fun _ _ _ _ _ => (pts_one (pt_cmpR op_gt (pe_cal (cal_l_line T) (hr.mono (by decide)) (by rfl) (pa_cons (pv 0) (pa_cons (pe_op op_add (pv 3) pe_int) pa_nil))) (pe_cal (cal_l_line T) (hr.mono (by decide)) (by rfl) (pa_cons (pv 0) (pa_cons (pe_op op_add (pv 3) pe_int) pa_nil))) (nomark _)))) (fun _ _ _ _ _ => (pv 3))) pa_nil))))), ?_⟩
    refine ⟨_, rfl, a, rfl, ⟨_, ha⟩, fun D nD => lc_tup (K := K) (a := a) (xs := xs) (fun i H' => Same H H' ∧ H' D = some (.lst ((lens ((vl S).take i)).map V.int))) ⟨same_new nD, upd_same⟩ (fun i H' _ h => sqT_same h.1 ha) ?_ ?_⟩
    · rintro i x H2 hi ⟨s2, hD⟩
      obtain ⟨l, hl, b, rfl, hb⟩ := hx.get hi
      refine ⟨rfl, _, rfl, b, _, rfl, .inr (sqT_same s2 hb), _, hD, ?_, same_off nD s2 off_upd, ?_⟩
      · unfold lens
        rw [List.length_map, List.length_map, List.length_take]
        exact small1000 (by omega)
      · unfold lens
        rw [upd_same, take_snoc hl, List.map_append, List.map_append]
        rfl
    · rintro H2 ⟨s2, hD⟩
      rw [ll, List.take_length] at hD
      refine ⟨D, _, rfl, .of hD, ?_⟩
      rw [es]
      refine ⟨_, rfl, _, _, rfl, rfl, _, rfl, by omega, by omega, fun D1 nD1 => lc_range (lo := 0) (n := (((n : Nat) : Int) - 1).toNat) (fun i H' => Same H2 H' ∧ H' D1 = some (.lst ((((upto ((n : Nat) - 1 : Int)).take i).filter (lowP S)).map V.int))) ⟨same_new nD1, upd_same⟩ ?_ ?_⟩
      · rintro i H3 hi ⟨s3, hD3⟩
        have hg : (upto ((n : Nat) - 1 : Int))[i]? = some ((0 : Int) + (i : Nat)) := upto_get hi
        have hlen : (((upto ((n : Nat) - 1 : Int)).take i).filter (lowP S)).length ≤ 100 := Nat.le_trans (List.length_filter_le _ _) (by rw [List.length_take]; omega)
        refine ⟨rfl, _, rfl, _, rfl, _, _, rfl, rfl, .ref a, S, _, rfl, (hv.same s2).same s3, n10, ne _ (by omega) (by omega), fun H4 s4 => ?_⟩
        refine ⟨_, rfl, _, rfl, _, _, rfl, rfl, .ref a, S, _, rfl, ((hv.same s2).same s3).same s4, n10, ne _ (by omega) (by omega), fun H5 s5 => ?_⟩
        refine ⟨_, _, rfl, rfl, _, rfl, ite2 (fun c => ?_) (fun c => ?_)⟩
        · refine ⟨_, rfl, _, s5 _ _ (s4 _ _ hD3), small1000 (by rw [List.length_map]; omega), same_off nD1 (s3.trans (s4.trans s5)) off_upd, ?_⟩
          rw [upd_same, take_snoc hg, List.filter_append, List.filter_cons_of_pos (p := lowP S) c, List.filter_nil, List.map_append]
          rfl
        · refine ⟨s3.trans (s4.trans s5), ?_⟩
          rw [take_snoc hg, List.filter_append, List.filter_cons_of_neg (p := lowP S) c, List.filter_nil, List.append_nil]
          exact s5 _ _ (s4 _ _ hD3)
      · rintro H3 ⟨s3, hD3⟩
        rw [List.take_of_length_le (by rw [upto_length]; omega)] at hD3
        exact ⟨D1, _, rfl, .inl ⟨.of hD3, fun t nt => k _ _ (s2.trans (s3.trans (same_new nt))) ⟨t, rfl, .of upd_same⟩⟩⟩
end
end Sk

namespace Sk
open PySem L2 Ow
theorem ne_ti {K : PySem.W.Frag} {H : Hp} {Q : VK} {va vb : V} {a b : List Int} (ha : TI K H va a) (hb : TI K H vb b) (e : a = b) (q : Q (.bl false) H) : rNeD K va vb H Q :=
  ⟨dT a, dT b, ha.dp, hb.dp, sh_dT _, sh_dT _, by rw [eqv_dT, decide_eq_true e]; exact q⟩
theorem eq_ti {K : PySem.W.Frag} {H : Hp} {Q : VK} {va vb : V} {a b : List Int} (ha : TI K H va a) (hb : TI K H vb b) (q : Q (.bl (decide (a = b))) H) : rEqD K va vb H Q :=
  ⟨dT a, dT b, ha.dp, hb.dp, sh_dT _, sh_dT _, by rw [eqv_dT]; exact q⟩
theorem SysAt.vat {K : PySem.W.Frag} {C : Addr} {H H' : Hp} {p q : Addr} {n : Int} {bv : V} {bs : List (List Int)} (y : SysAt K C H q n bv bs) (o : Off p H H') (b : VatAt H p) : SysAt K C H' q n bv bs := by
  obtain ⟨b0, b1, b2, hp⟩ := b
  obtain ⟨⟨dx, g⟩, hb⟩ := y
  exact ⟨⟨dx, o _ _ (fun e => by rw [e, hp] at g; cases g) g⟩, o.bs hp hb⟩
theorem W_le {r : List Int} (h : IsRow r) : (W r).length ≤ 10 := by
  have := W_len h
  have := (invs_le h).2
  omega
theorem W_inj {a b : List Int} (ha : IsRow a) (hb : IsRow b) (e : a.length = b.length) : decide (W a = W b) = decide (a = b) := by
  refine decide_eq_decide.mpr ⟨fun h => ?_, fun h => by rw [h]⟩
  rw [← Rw_W ha, ← Rw_W hb, h, e]
theorem W_lt {r : List Int} (h : IsRow r) : Lt r.length (W r) := fun l hl => by
  have := nrm_in (inv_row h) l hl
  rw [inv_length] at this
  exact this

def ninL (a b : List Int) : List Int := a.filter fun x => !inV (.int x) (b.map V.int)
def fB (r : List Int) : Bool := decide (bF (inv r) = bS r) && decide (bS (inv r) = bF r) && decide (low (bS r) r.length = falls r) && decide (low (bF r) r.length = falls (inv r)) && ((List.range r.length).all fun z => decide (endsL (bF r) ((z : Nat) + 1 : Int) ≠ []) && decide (endsL (bS r) ((z : Nat) + 1 : Int) ≠ [])) && decide ((bF r).getD 0 [] ≠ []) && decide ((bF r) ≠ [])
theorem f_rows {r : List Int} (h : IsRow r) : fB r = true := rows_all (p := fB) (by decide +kernel) h
def knB (r : List Int) (l : Int) : Bool := decide (ninL (low (bS r) r.length) (low (bS (sw r l)) r.length) = []) || decide (ninL (low (bS (sw r l)) r.length) (low (bS r) r.length) = []) || decide (bF (sw r l) = bF r)
theorem kn_rows {r : List Int} (h : IsRow r) {l : Int} (h0 : 0 ≤ l) (h1 : l < (r.length : Nat) - 1) : knB r l = true := rows_let (p := knB) (by decide +kernel) h h0 h1
structure FR2 (r : List Int) : Prop where
  a : bF (inv r) = bS r
  b : bS (inv r) = bF r
  c : low (bS r) r.length = falls r
  d : low (bF r) r.length = falls (inv r)
  eF : ∀ z : Int, 1 ≤ z → z ≤ r.length → endsL (bF r) z ≠ []
  eS : ∀ z : Int, 1 ≤ z → z ≤ r.length → endsL (bS r) z ≠ []
  n0 : (bF r).getD 0 [] ≠ []
  n1 : bF r ≠ []
theorem fr2 {r : List Int} (h : IsRow r) : FR2 r := by
  have := f_rows h
  unfold fB at this
  simp only [Bool.and_eq_true, decide_eq_true_eq, List.all_eq_true, List.mem_range] at this
  obtain ⟨⟨⟨⟨⟨⟨h1, h2⟩, h3⟩, h4⟩, h5⟩, h6⟩, h7⟩ := this
  refine ⟨h1, h2, h3, h4, fun z z1 z2 => ?_, fun z z1 z2 => ?_, h6, h7⟩
  · have := (h5 (z - 1).toNat (by omega)).1
    rwa [show (((z - 1).toNat : Nat) : Int) + 1 = z by omega] at this
  · have := (h5 (z - 1).toNat (by omega)).2
    rwa [show (((z - 1).toNat : Nat) : Int) + 1 = z by omega] at this
theorem eqv_dB (a b : List (List Int)) : PyData.eqv (dB a) (dB b) = decide (a = b) := by
  unfold dB
  rw [show PyData.eqv (.tuple (a.map dT)) (.tuple (b.map dT)) = PyData.eqvAll (a.map dT) (b.map dT) from by simp [PyData.eqv]]
  exact eqv_dTs a b
def dP (F S : List (List Int)) : PyData := .tuple [dB F, dB S]
theorem sh_dP (F S : List (List Int)) : SeqAt.shaped (dP F S) = true := by
  unfold SeqAt.shaped
  have h1 : (dP F S).canLay0 = true := by simp [dP, PyData.canLay0, PyData.canLayAll0, lay_dB]
  have h2 : (dP F S).depth ≤ 64 := by
    have := dep_dB F
    have := dep_dB S
    simp [dP, PyData.depth, PyData.depthAll]
    omega
  rw [h1, decide_eq_true h2]
  rfl
theorem eqv_dP (F S : List (List Int)) : PyData.eqv (dP F S) (dP F S) = true := by
  have h1 := eqv_dB F F
  have h2 := eqv_dB S S
  rw [decide_eq_true rfl] at h1 h2
  simp [dP, PyData.eqv, PyData.eqvAll, h1, h2]
theorem PrT.dp {K : PySem.W.Frag} {H : Hp} {v : V} {F S : List (List Int)} (h : PrT K H v F S) : Dp K H v (dP F S) := by
  obtain ⟨t, u1, u2, rfl, ht, h1, h2⟩ := h
  exact .tup ht (.cons h1.dp (.cons h2.dp .nil))
theorem PrT.same {K : PySem.W.Frag} {H H' : Hp} {v : V} {F S : List (List Int)} (h : PrT K H v F S) (s : Same H H') : PrT K H' v F S := by
  obtain ⟨t, u1, u2, rfl, ht, h1, h2⟩ := h
  exact ⟨t, u1, u2, rfl, sqT_same s ht, h1.same s, h2.same s⟩
theorem ne_pr {K : PySem.W.Frag} {H : Hp} {Q : VK} {va vb : V} {F S : List (List Int)} (ha : PrT K H va F S) (hb : PrT K H vb F S) (q : Q (.bl false) H) : rNeD K va vb H Q :=
  ⟨_, _, ha.dp, hb.dp, sh_dP _ _, sh_dP _ _, by rw [eqv_dP]; exact q⟩
/-- the first table with a truth value in it -/
theorem tab_bool {r : List Int} (h : IsRow r) : Tab ((V.bl true :: ((bF r).getD 0 []).tail.map V.int) :: (vl (bF r)).tail) false := by
  have rt := rt_rows h
  unfold rtB at rt
  simp only [Bool.and_eq_true, decide_eq_true_eq] at rt
  have y := rt.1.1.1.1.1
  unfold yesB at y
  simp only [Bool.and_eq_true, decide_eq_true_eq] at y
  obtain ⟨⟨⟨⟨⟨h1, h2⟩, h3⟩, h4⟩, h5⟩, h6⟩ := y
  have f := fr2 h
  have n0 := f.n0
  have n1 := f.n1
  have el : lens ((V.bl true :: ((bF r).getD 0 []).tail.map V.int) :: (vl (bF r)).tail) = lens (vl (bF r)) := by
    cases e : bF r with
    | nil => exact absurd e n1
    | cons l L =>
      rw [e] at n0
      cases l with
      | nil => exact absurd rfl n0
      | cons x l => simp [lens, vl]
  exact .bool (b := true) (by rw [el]; exact h3) (by rw [el]; exact h4) (by rw [el]; exact h5) (by simp)
end Sk

namespace Sk
open PySem L2 Ow
theorem TI.but2 {K : PySem.W.Frag} {H H' : Hp} {p : Addr} {v : V} {ns : List Int} (h : TI K H v ns) (o : Off p H H') (b : VatAt H p) : TI K H' v ns := by
  obtain ⟨b0, b1, b2, hp⟩ := b
  exact o.ti hp h
theorem PrT.but2 {K : PySem.W.Frag} {H H' : Hp} {p : Addr} {v : V} {F : List (List Int)} (h : BsAt K H v F) (o : Off p H H') (b : VatAt H p) : BsAt K H' v F := by
  obtain ⟨b0, b1, b2, hp⟩ := b
  exact o.bs hp h
def spLRight (K : PySem.W.Frag) : Sp := fun vs H Q _ => ∃ (p : Addr), vs = [.ref p] ∧ VatAt H p ∧ ∀ H', Off p H H' → VatAt H' p → Q (.bl true) H'
section
variable {P : Program} {w : World} {K : PySem.W.Frag} {mg : Str → Option Value} {base : Heap} {C : Addr}
theorem cal_l_right (T : Txt K mg C) : Cal P w K mg base "_law_right" 9 (spLRight K) := by
  refine T.d_l_right.cal (ps := ["_law_vat_here"]) (fun f fd D => ?_) (fun _ _ _ _ _ _ us hl => match us, hl with | [_], _ => rfl)
  refine D.ok sc_l_right (fun vs H Q E h => ?_) (fun cdv A outer s H vs Q E hr h => ?_)
  · obtain ⟨_, rfl, _⟩ := h
    rfl
  · obtain ⟨p, rfl, hb, k⟩ := h
    refine ⟨_, (pss_cons (ps_set (i := 1) sc_l_right.nd rfl (Or.inl rfl) (pe_op op_add pe_int (pe_cal (cal_l_sip T) (hr.mono (by decide)) (by rfl) (pa_cons (pv 0) (pa_cons pe_int pa_nil)))))
      (pss_cons (ps_par (i := 2) (j := 3) rfl sc_l_right.nd rfl rfl (by decide) rfl rfl (pa_cons (pe_cRows T (hr.mono (by decide)) (pe_glob (v := .ref C) (by rfl) T.mgSystem rfl) (pa_cons (pv 1) pa_nil)) (pa_cons (pe_cal (cal_l_some_row T) (hr.mono (by decide)) (by rfl) (pa_cons (pv 0) (pa_cons (pv 1) pa_nil))) pa_nil)) rfl)
      (pss_cons (ps_asg (pe_cal (cal_bumped T) (hr.mono (by decide)) (by rfl) (pa_cons (pv 3) pa_nil)) (pg_tup (by rfl) (pgs_cons (pg_name (i := 4) sc_l_right.nd rfl (Or.inl rfl)) (pgs_cons (pg_name (i := 5) sc_l_right.nd rfl (Or.inl rfl)) pgs_nil))))
      (pss_cons (ps_if (PW.pt (pw_or (pt_cmpR (op_neD hr.units) (pe_tup (pa_cons (pv 4) (pa_cons (pv 5) pa_nil))) (pe_cal (cal_l_bumped T) (hr.mono (by decide)) (by rfl) (pa_cons (pv 3) pa_nil)) (nomark _)) (pw_or1 (pt_cmpR (op_neD hr.units) (pe_cal (cal_row_of_tables T) (hr.mono (by decide)) (by rfl) (pa_cons (pv 4) (pa_cons (pv 5) pa_nil))) (pv 3) (nomark _))))) (pss_one (ps_ret pe_bl)) pss_nil)
      (pss_cons (ps_if (PW.pt (pw_or (pt_not (pt_val (pe_cal (cal_is_table T) (hr.mono (by decide)) (by rfl) (pa_cons (pv 4) pa_nil)))) (pw_or (pt_not (pt_val (pe_cal (cal_is_table T) (hr.mono (by decide)) (by rfl) (pa_cons (pv 5) pa_nil)))) (pw_or1 (pt_cmpR (op_neD hr.units) (pe_lc (own := [("_law_line_here", 6)]) (g := gName 6) (tt := tYes) rfl sc_l_right.nd (pi_tup (pv 4)) (blkOk_by (own := [("_law_line_here", 6)]) (N := ["_law_vat_here", "_law_places", "_law_system", "_law_row", "_law_first", "_law_last", "_law_line_here", "_law_word", "_law_at", "_law_other", "_law_one", "_law_two", "_law_letter"]) (sc := defScope s_l_right) (by decide +kernel)) (fun _ _ _ _ _ => (pg_name (i := 6) sc_l_right.nd rfl (Or.inl rfl))) (fun _ _ _ _ _ => pts_nil) (fun _ _ _ _ _ => (pe_callB (show CallR _ (.builtin "len") (rLenQ K) from call_len_seq) (by rfl) T.b_len (by decide +kernel) (pa_cons (pv 6) pa_nil)))) (pe_lc (own := [("_law_line_here", 6)]) (g := gName 6) (tt := tYes) rfl sc_l_right.nd (pi_tup (pv 5)) (blkOk_by (own := [("_law_line_here", 6)]) (N := ["_law_vat_here", "_law_places", "_law_system", "_law_row", "_law_first", "_law_last", "_law_line_here", "_law_word", "_law_at", "_law_other", "_law_one", "_law_two", "_law_letter"]) (sc := defScope s_l_right) (by decide +kernel)) (fun _ _ _ _ _ => (pg_name (i := 6) sc_l_right.nd rfl (Or.inl rfl))) (fun _ _ _ _ _ => pts_nil) (fun _ _ _ _ _ => (pe_callB (show CallR _ (.builtin "len") (rLenQ K) from call_len_seq) (by rfl) T.b_len (by decide +kernel) (pa_cons (pv 6) pa_nil)))) (nomark _)))))) (pss_one (ps_ret pe_bl)) pss_nil)
      (pss_cons (ps_if (pt_val (pe_cal (cal_is_table T) (hr.mono (by decide)) (by rfl) (pa_cons (pe_op op_catA (pe_tup (pa_cons (pe_op op_catA (pe_tup (pa_cons pe_bl pa_nil)) (pe_slice sl_tupA (pe_ix ix_tup (pv 4) pe_int (fun _ _ => rfl)) (po_some pe_int) po_none)) pa_nil)) (pe_slice sl_tupA (pv 4) (po_some pe_int) po_none)) pa_nil))) (pss_one (ps_ret pe_bl)) pss_nil)
      (pss_cons (ps_if (PW.pt (pw_or (pt_cmpR (op_neD hr.units) (pe_cal (cal_bumped T) (hr.mono (by decide)) (by rfl) (pa_cons (pe_cal (cal_l_undone T) (hr.mono (by decide)) (by rfl) (pa_cons (pv 3) pa_nil)) pa_nil)) (pe_tup (pa_cons (pv 5) (pa_cons (pv 4) pa_nil))) (nomark _)) (pw_or1 (pt_cmpR (op_neD hr.units) (pe_cal (cal_row_of_tables T) (hr.mono (by decide)) (by rfl) (pa_cons (pv 5) (pa_cons (pv 4) pa_nil))) (pe_cal (cal_l_undone T) (hr.mono (by decide)) (by rfl) (pa_cons (pv 3) pa_nil)) (nomark _))))) (pss_one (ps_ret pe_bl)) pss_nil)
      (pss_cons (ps_set (i := 7) sc_l_right.nd rfl (Or.inl rfl) (pe_cal (cal_word_of T) (hr.mono (by decide)) (by rfl) (pa_cons (pv 3) pa_nil)))
      (pss_cons (ps_if (PW.pt (pw_or (pt_cmpR (op_neD hr.units) (pe_cal (cal_right_letters T) (hr.mono (by decide)) (by rfl) (pa_cons (pv 2) (pa_cons (pv 7) pa_nil))) (pe_cal (cal_l_lower T) (hr.mono (by decide)) (by rfl) (pa_cons (pv 5) pa_nil)) (nomark _)) (pw_or1 (pt_cmpR (op_neD hr.units) (pe_cal (cal_left_letters T) (hr.mono (by decide)) (by rfl) (pa_cons (pv 2) (pa_cons (pv 7) pa_nil))) (pe_cal (cal_l_lower T) (hr.mono (by decide)) (by rfl) (pa_cons (pv 4) pa_nil)) (nomark _))))) (pss_one (ps_ret pe_bl)) pss_nil)
      (pss_cons (ps_set (i := 8) sc_l_right.nd rfl (Or.inl rfl) (pe_cal (cal_l_sip T) (hr.mono (by decide)) (by rfl) (pa_cons (pv 0) (pa_cons (pe_op op_sub (pv 1) pe_int) pa_nil))))
      (pss_cons (ps_set (i := 9) sc_l_right.nd rfl (Or.inl rfl) (pe_op op_catA (pe_op op_catA (pe_slice sl_tupA (pv 3) po_none (po_some (pv 8))) (pe_tup (pa_cons (pe_ix ix_tup (pv 3) (pe_op op_add (pv 8) pe_int) (fun _ _ => rfl)) (pa_cons (pe_ix ix_tup (pv 3) (pv 8) (fun _ _ => rfl)) pa_nil)))) (pe_slice sl_tupA (pv 3) (po_some (pe_op op_add (pv 8) pe_int)) po_none)))
      (pss_cons (ps_asg (pe_tup (pa_cons (pe_cal (cal_l_lower T) (hr.mono (by decide)) (by rfl) (pa_cons (pv 5) pa_nil)) (pa_cons (pe_cal (cal_l_lower T) (hr.mono (by decide)) (by rfl) (pa_cons (pe_ix ix_tup (pe_cal (cal_bumped T) (hr.mono (by decide)) (by rfl) (pa_cons (pv 9) pa_nil)) pe_int (fun _ _ => rfl)) pa_nil)) pa_nil))) (pg_tup (by rfl) (pgs_cons (pg_name (i := 10) sc_l_right.nd rfl (Or.inr rfl)) (pgs_cons (pg_name (i := 11) sc_l_right.nd rfl (Or.inr rfl)) pgs_nil))))
      (pss_cons (ps_if (PW.pt (pw_and (pt_cmpR (op_neD hr.units) (pe_lc (own := [("_law_letter", 12)]) (g := gName 12) rfl sc_l_right.nd (pi_tup (pv 10)) (blkOk_by (own := [("_law_letter", 12)]) (N := ["_law_vat_here", "_law_places", "_law_system", "_law_row", "_law_first", "_law_last", "_law_line_here", "_law_word", "_law_at", "_law_other", "_law_one", "_law_two", "_law_letter"]) (sc := defScope s_l_right) (by decide +kernel)) (fun _ _ _ _ _ => (pg_name (i := 12) sc_l_right.nd rfl (Or.inl rfl))) (fun _ _ _ _ _ => (pts_one (pt_cmpR (show OpR _ _ (rIn K true) from op_notIn_seq) (pv 12) (pv 11) (by rfl)))) (fun _ _ _ _ _ => (pv 12))) (pe_lst pa_nil) (nomark _)) (pw_and1 (pt_cmpR (op_neD hr.units) (pe_lc (own := [("_law_letter", 12)]) (g := gName 12) rfl sc_l_right.nd (pi_tup (pv 11)) (blkOk_by (own := [("_law_letter", 12)]) (N := ["_law_vat_here", "_law_places", "_law_system", "_law_row", "_law_first", "_law_last", "_law_line_here", "_law_word", "_law_at", "_law_other", "_law_one", "_law_two", "_law_letter"]) (sc := defScope s_l_right) (by decide +kernel)) (fun _ _ _ _ _ => (pg_name (i := 12) sc_l_right.nd rfl (Or.inl rfl))) (fun _ _ _ _ _ => (pts_one (pt_cmpR (show OpR _ _ (rIn K true) from op_notIn_seq) (pv 12) (pv 10) (by rfl)))) (fun _ _ _ _ _ => (pv 12))) (pe_lst pa_nil) (nomark _))))) (pss_one (ps_ret (pe_cmpR (op_eqD hr.units) (pe_ix ix_tup (pe_cal (cal_bumped T) (hr.mono (by decide)) (by rfl) (pa_cons (pv 9) pa_nil)) pe_int (fun _ _ => rfl)) (pv 4) (nomark _)))) pss_nil)
      (pss_one (ps_ret pe_bl))))))))))))))), ?_⟩
    refine ⟨_, rfl, p, _, rfl, by decide, B8 (by decide), hb, fun z H0 z0 z1 o0 b0 => ⟨_, _, rfl, rfl, ?_⟩⟩
    obtain ⟨n, hn⟩ : ∃ n : Nat, (2 : Int) + z = n := ⟨(2 + z).toNat, by omega⟩
    have n2 : 2 ≤ n := by omega
    have n5 : n ≤ 5 := by omega
    refine ⟨rfl, _, rfl, (n : Int), by rw [← hn], ⟨by omega, by omega⟩, fun sy bv H1 s1 ns y => ?_⟩
    have b1 := b0.same s1
    refine ⟨_, rfl, _, rfl, p, (n : Int), by rw [← hn]; rfl, b1, by omega, by omega, fun rv r H2 o2 b2 r2 hR hrn => ⟨_, _, rfl, ?_⟩⟩
    have oH : Off p H H2 := (o0.trans (Off.of_same s1)).trans o2
    have y2 : SysAt K C H2 sy ((n : Int) - 1) bv (nb 0 ((n : Int) - 1)) := SysAt.vat y o2 b1
    have en : r.length = n := by omega
    have va := rows_valid n2 n5
    have rw2 : Rw n (W r) = r := by rw [← en]; exact Rw_W hR
    have lw : Lt n (W r) := by rw [← en]; exact W_lt hR
    have wl := W_le hR
    have f := fr2 hR
    have hi := inv_row hR
    have fi := fr2 hi
    have rt := rt_rows hR
    unfold rtB at rt
    simp only [Bool.and_eq_true, decide_eq_true_eq] at rt
    obtain ⟨⟨⟨⟨⟨y1, y2'⟩, e1⟩, e2⟩, e3⟩, e4⟩ := rt
    have y1 := yes_of y1
    have y2' := yes_of y2'
    -- the bumped tables
    refine ⟨_, rfl, rv, r, rfl, r2.ti, hR, fun pv H3 s3 pr => ?_⟩
    obtain ⟨pt, u1, u2, rfl, hpt, g1, g2⟩ := pr
    refine ⟨_, _, rfl, hpt, rfl, _, _, rfl, _, _, rfl, rfl, ?_⟩
    refine ⟨_, rfl, _, rfl, show 2 ≤ sizeLine by decide, fun q nq => ?_⟩
    have sq := same_new (o := .tup [u1, u2]) nq
    refine ⟨_, rfl, rv, r, rfl, (r2.ti.same s3).same sq, hR, fun pv2 H4 s4 pr2 => ?_⟩
    refine ne_pr (F := bF r) (S := bS r) ⟨q, u1, u2, rfl, sqT_same s4 (.of upd_same), g1.same (sq.trans s4), g2.same (sq.trans s4)⟩ pr2 ⟨_, rfl, iteF ?_⟩
    have s34 := sq.trans s4
    refine ⟨_, rfl, _, rfl, u1, u2, r, rfl, g1.same s34, g2.same s34, hR, fun v5 H5 s5 t5 => ?_⟩
    refine ⟨_, rfl, ne_ti t5 ((r2.ti.same s3).same (s34.trans s5)) rfl ⟨_, rfl, iteF ?_⟩⟩
    have s35 := s34.trans s5
    have m1 : (vl (bF r)).length ≤ 10 := by unfold vl; rw [List.length_map]; exact y1.n10
    have m2 : (vl (bS r)).length ≤ 10 := by unfold vl; rw [List.length_map]; exact y2'.n10
    refine ⟨_, rfl, u1, vl (bF r), true, rfl, (g1.same s35).vt, m1, y1.ib, y1.t, fun H6 s6 => ⟨_, rfl, iteF ?_⟩⟩
    refine ⟨_, rfl, u2, vl (bS r), true, rfl, ((g2.same s35).same s6).vt, m2, y2'.ib, y2'.t, fun H7 s7 => ⟨_, rfl, iteF ?_⟩⟩
    have s37 := s35.trans (s6.trans s7)
    obtain ⟨a1, xs1, ev1, ha1, hx1⟩ := g1.vt
    obtain ⟨a2, xs2, ev2, ha2, hx2⟩ := g2.vt
    have hx1 : A2 (fun x vs => ∃ b, x = V.ref b ∧ SqT K _ b vs) xs1 (vl (bF r)) := hx1
    have hx2 : A2 (fun x vs => ∃ b, x = V.ref b ∧ SqT K _ b vs) xs2 (vl (bS r)) := hx2
    subst ev1
    subst ev2
    refine ⟨_, rfl, a1, rfl, ⟨_, sqT_same s37 ha1⟩, fun Da nDa => lc_tup (K := K) (a := a1) (xs := xs1) (fun i H' => Same H7 H' ∧ H' Da = some (.lst ((lens ((vl (bF r)).take i)).map V.int))) ⟨same_new nDa, upd_same⟩ (fun i H' _ h => sqT_same (s37.trans h.1) ha1) ?_ ?_⟩
    · rintro i x H2 hi ⟨s2, hD⟩
      obtain ⟨l, hl, b, rfl, hb⟩ := hx1.get hi
      refine ⟨rfl, _, rfl, b, _, rfl, .inr (sqT_same (s37.trans s2) hb), _, hD, ?_, same_off nDa s2 off_upd, ?_⟩
      · unfold lens
        rw [List.length_map, List.length_map, List.length_take]
        exact small1000 (by omega)
      · unfold lens
        rw [upd_same, take_snoc hl, List.map_append, List.map_append]
        rfl
    · rintro HLa ⟨sLa, hDa⟩
      rw [hx1.len, List.take_length] at hDa
      refine ⟨_, rfl, a2, rfl, ⟨_, sqT_same (s37.trans sLa) ha2⟩, fun Db nDb => lc_tup (K := K) (a := a2) (xs := xs2) (fun i H' => Same HLa H' ∧ H' Db = some (.lst ((lens ((vl (bS r)).take i)).map V.int))) ⟨same_new nDb, upd_same⟩ (fun i H' _ h => sqT_same ((s37.trans sLa).trans h.1) ha2) ?_ ?_⟩
      · rintro i x H2 hi ⟨s2, hD⟩
        obtain ⟨l, hl, b, rfl, hb⟩ := hx2.get hi
        refine ⟨rfl, _, rfl, b, _, rfl, .inr (sqT_same ((s37.trans sLa).trans s2) hb), _, hD, ?_, same_off nDb s2 off_upd, ?_⟩
        · unfold lens
          rw [List.length_map, List.length_map, List.length_take]
          exact small1000 (by omega)
        · unfold lens
          rw [upd_same, take_snoc hl, List.map_append, List.map_append]
          rfl
      · rintro HLb ⟨sLb, hDb⟩
        rw [hx2.len, List.take_length] at hDb
        have hL1 := sLb _ _ hDa
        refine ⟨_, _, dp_len K _ _ Da hL1, dp_len K _ _ Db hDb, sh_L _, sh_L _, ?_⟩
        rw [eqv_L, decide_eq_true e1]
        refine ⟨_, rfl, iteF ?_⟩
        have sA := s37.trans (sLa.trans sLb)
        -- a truth value in it
        obtain ⟨l0, L0, eF⟩ : ∃ l L, bF r = l :: L := by
          cases e : bF r with
          | nil => exact absurd e f.n1
          | cons l L => exact ⟨l, L, rfl⟩
        have tb := tab_bool hR
        have hx1' := hx1
        have ib1 := y1.ib
        have ne1 := y1.ne
        rw [eF] at tb hx1' ib1 ne1
        have tb : Tab ((V.bl true :: l0.tail.map V.int) :: vl L0) false := tb
        have ib1 : ∀ l ∈ l0.map V.int :: vl L0, l ≠ [] ∧ l.length ≤ 10 ∧ ∀ x ∈ l, IB x := ib1
        have hx1' : A2 (fun x vs => ∃ b, x = V.ref b ∧ SqT K _ b vs) xs1 (l0.map V.int :: vl L0) := hx1'
        obtain ⟨x0, X, exs⟩ : ∃ x0 X, xs1 = x0 :: X := by
          cases e : xs1 with
          | nil => rw [e] at hx1'; exact hx1'.elim
          | cons x0 X => exact ⟨x0, X, rfl⟩
        rw [exs] at hx1'
        obtain ⟨⟨b0', e0', hb0⟩, hX⟩ := hx1'
        have haA := sqT_same sA ha1
        rw [exs] at haA
        refine ⟨show 1 ≤ sizeLine by decide, fun tB nB => ?_⟩
        have stB := same_new (o := .tup [.bl true]) nB
        refine ⟨_, rfl, a1, _, _, _, rfl, rfl, sqT_same stB haA, at_of (j := 0) rfl (by rw [e0']; rfl), _, rfl, ?_⟩
        dsimp only [tNoPart]
        refine slc_any (sqT_same (sA.trans stB) hb0) fun w1 HS1 sS1 hc1 => ?_
        obtain ⟨c1, rfl, hc1⟩ := hc1
        rw [show cutV (l0.map V.int) (some 1) none = l0.tail.map V.int by rw [show ((1 : Int)) = ((1 : Nat) : Int) from rfl, cut_drop]; cases l0 <;> rfl] at hc1
        have l0le : l0.length ≤ 10 := (ne1 l0 (List.mem_cons_self ..)).2
        refine cat_any (sqT_same sS1 (.of upd_same)) hc1 (by rw [List.length_map, List.length_tail]; simp; omega) fun w2 HS2 sS2 hc2 => ?_
        obtain ⟨c2, rfl, hc2⟩ := hc2
        refine ⟨show 1 ≤ sizeLine by decide, fun tO nO => ?_⟩
        have stO := same_new (o := .tup [.ref c2]) nO
        have sB := stB.trans (sS1.trans (sS2.trans stO))
        refine ⟨_, rfl, _, rfl, ?_⟩
        dsimp only [tNoPart]
        refine slc_any (sqT_same sB haA) fun w3 HS3 sS3 hc3 => ?_
        obtain ⟨c3, rfl, hc3⟩ := hc3
        rw [show cutV (x0 :: X) (some 1) none = X by rw [show ((1 : Int)) = ((1 : Nat) : Int) from rfl, cut_drop]; rfl] at hc3
        have lX := hX.len
        have vl10 : (vl L0).length ≤ 10 := by
          have := m1
          rw [eF] at this
          have : (l0.map V.int :: vl L0).length ≤ 10 := this
          rw [List.length_cons] at this
          omega
        refine cat_any (sqT_same sS3 (.of upd_same)) hc3 (by simp; omega) fun w4 HS4 sS4 hc4 => ?_
        obtain ⟨c4, rfl, hc4⟩ := hc4
        have sC := sB.trans (sS3.trans sS4)
        have nl : ∀ l ∈ (V.bl true :: l0.tail.map V.int) :: vl L0, l ≠ [] ∧ l.length ≤ 10 ∧ ∀ x ∈ l, IB x := fun l m => by
          rcases List.mem_cons.mp m with e | m
          · rw [e]
            refine ⟨by simp, by rw [List.length_cons, List.length_map, List.length_tail]; have := (ne1 l0 (List.mem_cons_self ..)).1; have := List.length_pos_iff.mpr this; omega, fun x hx => ?_⟩
            rcases List.mem_cons.mp hx with e | hx
            · exact .inr ⟨true, e⟩
            · obtain ⟨i, _, rfl⟩ := List.mem_map.mp hx
              exact .inl ⟨i, rfl⟩
          · exact ib1 l (List.mem_cons_of_mem _ m)
        refine ⟨.ref c4, _, false, rfl, ⟨c4, V.ref c2 :: X, rfl, hc4, (show A2 _ (V.ref c2 :: X) (_ :: vl L0) from ⟨⟨c2, rfl, sqT_same (stO.trans (sS3.trans sS4)) hc2⟩, hX.same fun x l ⟨b, e, z⟩ => ⟨b, e, sqT_same (sA.trans sC) z⟩⟩)⟩, by rw [List.length_cons]; have := m1; rw [eF] at this; exact this, nl, tb, fun H8 s8 => ⟨_, rfl, iteF ?_⟩⟩
        have s38 := (sA.trans sC).trans s8
        -- undone
        have r3 := r2.same s3
        refine ⟨_, rfl, rv, r, rfl, r3.same s38, hR, fun uv Hu su tu => ?_⟩
        refine ⟨uv, inv r, rfl, tu, hi, fun pv3 Hv sv pr3 => ?_⟩
        rw [f.a, f.b] at pr3
        refine ⟨_, rfl, _, rfl, show 2 ≤ sizeLine by decide, fun q2 nq2 => ?_⟩
        have sq2 := same_new (o := .tup [V.ref a2, V.ref a1]) nq2
        have s39 := s38.trans (su.trans (sv.trans sq2))
        refine ne_pr (F := bS r) (S := bF r) (pr3.same sq2) ⟨q2, _, _, rfl, .of upd_same, g2.same s39, g1.same s39⟩ ⟨_, rfl, iteF ?_⟩
        refine ⟨_, rfl, _, rfl, .ref a2, .ref a1, inv r, rfl, by rw [f.a]; exact g2.same s39, by rw [f.b]; exact g1.same s39, hi, fun v9 H9 s9 t9 => ?_⟩
        refine ⟨_, rfl, rv, r, rfl, (r3.same s39).same s9, hR, fun v10 H10 s10 t10 => ?_⟩
        refine ne_ti (t9.same s10) t10 rfl ⟨_, rfl, iteF ?_⟩
        have s40 := s39.trans (s9.trans s10)
        -- the word
        refine ⟨_, rfl, rv, r, rfl, (r3.same s40).ti, hR, fun wv H11 s11 t11 => ?_⟩
        have s41 := s40.trans s11
        have f1 : lefts (stOf (nb 0 ((n : Int) - 1)) ((n : Int) - 1) (W r).reverse) = falls r := by
          rw [st_rows n2 n5 (fun x hx => lw x (List.mem_reverse.mp hx)), List.reverse_reverse, rw2, lefts_diffs hR]
        have f2 : lefts (stOf (nb 0 ((n : Int) - 1)) ((n : Int) - 1) (W r)) = falls (inv r) := by
          rw [st_rows n2 n5 lw, ← inv_Rw n2 n5 _ lw, rw2, lefts_diffs hi]
        have f3 : Fine (stOf (nb 0 ((n : Int) - 1)) ((n : Int) - 1) (W r).reverse) := by
          rw [st_rows n2 n5 (fun x hx => lw x (List.mem_reverse.mp hx))]
          exact fine_diffs _
        have f4 : Fine (stOf (nb 0 ((n : Int) - 1)) ((n : Int) - 1) (W r)) := by
          rw [st_rows n2 n5 lw]
          exact fine_diffs _
        have y3 := y2.same s3
        have sum1 : (lens (vl (bF r))).sum = (r.length : Nat) := e2
        have sum2 : (lens (vl (bS r))).sum = (r.length : Nat) := by rw [← e1]; exact e2
        refine ⟨_, rfl, _, rfl, .ref sy, wv, _, _, W r, rfl, ⟨sy, bv, rfl, y3.same s41, va, t11, lw, by omega⟩, f3, fun v12 H12 s12 t12 => ?_⟩
        rw [f1] at t12
        refine ⟨_, rfl, .ref a2, bS r, r.length, rfl, (g2.same s41).same s12, y2'.n10, sum2, by omega, by omega, f.eS, fun v13 H13 s13 t13 => ?_⟩
        rw [f.c] at t13
        refine ne_ti (t12.same s13) t13 rfl ⟨_, rfl, iteF ?_⟩
        have s43 := s41.trans (s12.trans s13)
        refine ⟨_, rfl, _, rfl, .ref sy, wv, _, _, W r, rfl, ⟨sy, bv, rfl, y3.same s43, va, t11.same (s12.trans s13), lw, by omega⟩, f4, fun v14 H14 s14 t14 => ?_⟩
        rw [f2] at t14
        refine ⟨_, rfl, .ref a1, bF r, r.length, rfl, (g1.same s43).same s14, y1.n10, sum1, by omega, by omega, f.eF, fun v15 H15 s15 t15 => ?_⟩
        rw [f.d] at t15
        refine ne_ti (t14.same s15) t15 rfl ⟨_, rfl, iteF ?_⟩
        have s45 := s43.trans (s14.trans s15)
        -- a letter behind
        have b15 := (b2.same s3).same s45
        refine ⟨_, rfl, _, rfl, _, _, rfl, rfl, p, (n : Int) - 1, by rw [← hn]; rfl, by omega, B8 (by omega), b15, fun l H16 l0' l1' o16 b16 => ?_⟩
        have l1 : l < (r.length : Nat) - 1 := by omega
        have oG : Off p H H16 := (oH.trans (.of_same (s3.trans s45))).trans o16
        have r16 := (r3.same s45).but o16 b15
        have g116 := PrT.but2 (g1.same s45) o16 b15
        have g216 := PrT.but2 (g2.same s45) o16 b15
        obtain ⟨ra, rfl, hraF⟩ := r16
        have hra := hraF.sq (K := K)
        have ell : ((l.toNat : Nat) : Int) = l := by omega
        refine ⟨_, rfl, ?_⟩
        dsimp only [tNoPart]
        refine ⟨_, rfl, _, rfl, ?_⟩
        refine slc_any hra fun vv1 K1 k1 hc1' => ?_
        obtain ⟨d1, rfl, hd1⟩ := hc1'
        rw [← ell, cut_take, ← List.map_take] at hd1
        refine ⟨_, rfl, _, rfl, _, _, rfl, rfl, ra, _, _, _, rfl, rfl, sqT_same k1 hra, atL (i := l + 1) (by omega) (by omega), _, rfl, _, rfl, ra, _, _, _, rfl, rfl, sqT_same k1 hra, atL (i := l) (by omega) (by omega), show 2 ≤ sizeLine by decide, fun tt ntt => ?_⟩
        have stt := same_new (o := .tup [.int (r.getD (l + 1).toNat 0), .int (r.getD l.toNat 0)]) ntt
        have htt : SqT K (upd K1 tt (.tup [.int (r.getD (l + 1).toNat 0), .int (r.getD l.toNat 0)])) tt ([r.getD (l + 1).toNat 0, r.getD l.toNat 0].map V.int) := .of upd_same
        refine cat_any (sqT_same stt hd1) htt (by simp only [List.length_map, List.length_take, List.length_cons, List.length_nil]; omega) fun vv3 K3 k3 hc3' => ?_
        obtain ⟨d3, rfl, hd3⟩ := hc3'
        rw [← List.map_append] at hd3
        have kA := k1.trans (stt.trans k3)
        refine ⟨_, rfl, _, rfl, _, _, rfl, rfl, _, rfl, ?_⟩
        dsimp only [tNoPart]
        refine slc_any (sqT_same kA hra) fun vv4 K4 k4 hc4' => ?_
        obtain ⟨d4, rfl, hd4⟩ := hc4'
        rw [show l + 2 = (((l + 2).toNat : Nat) : Int) by omega, cut_drop, ← List.map_drop] at hd4
        refine cat_any (sqT_same k4 hd3) hd4 (by simp only [List.length_map, List.length_append, List.length_take, List.length_drop, List.length_cons, List.length_nil]; omega) fun vv5 K5 k5 hc5' => ?_
        obtain ⟨d5, rfl, hd5⟩ := hc5'
        have beh : (r.take l.toNat ++ [r.getD (l + 1).toNat 0, r.getD l.toNat 0]) ++ r.drop (l + 2).toNat = sw r l := eq_of_beq (rows_let (p := fun r l => (r.take l.toNat ++ [r.getD (l + 1).toNat 0, r.getD l.toNat 0]) ++ r.drop (l + 2).toNat == sw r l) (by decide +kernel) hR l0' l1)
        rw [← List.map_append, beh] at hd5
        have kB := kA.trans (k4.trans k5)
        have hsw := sw_row hR l0' l1
        have fs := fr2 hsw
        have esw : (sw r l).length = r.length := sw_length r l
        have rts := rt_rows hsw
        unfold rtB at rts
        simp only [Bool.and_eq_true, decide_eq_true_eq] at rts
        obtain ⟨⟨⟨⟨⟨_, ys2⟩, es1⟩, es2⟩, _⟩, _⟩ := rts
        have ys2 := yes_of ys2
        have sumS : (lens (vl (bS (sw r l)))).sum = ((sw r l).length : Nat) := by rw [← es1]; exact es2
        have otI : TI K K5 (.ref d5) (sw r l) := ⟨d5, rfl, hd5⟩
        -- the lower lines
        refine ⟨_, rfl, .ref a2, bS r, r.length, rfl, g216.same kB, y2'.n10, sum2, by omega, by omega, f.eS, fun ov K6 k6 t6' => ?_⟩
        refine ⟨_, rfl, .ref d5, sw r l, rfl, otI.same k6, hsw, fun pv6 K7 k7 pr7 => ?_⟩
        obtain ⟨pt7, w1', w2', rfl, hpt7, gg1, gg2⟩ := pr7
        refine ⟨pt7, _, _, _, rfl, rfl, hpt7, at_of (j := 1) rfl rfl, w2', bS (sw r l), (sw r l).length, rfl, gg2, ys2.n10, sumS, by omega, by omega, fs.eS, fun tw K8 k8 t8' => ⟨show 2 ≤ sizeLine by decide, fun q8 nq8 => ?_⟩⟩
        have sq8 := same_new (o := .tup [ov, tw]) nq8
        refine ⟨_, _, rfl, .of upd_same, rfl, _, _, rfl, _, _, rfl, rfl, ?_⟩
        have kC := kB.trans (k6.trans (k7.trans (k8.trans sq8)))
        have tO := t6'.same (k7.trans (k8.trans sq8))
        have tW := t8'.same sq8
        rw [esw] at tW
        have kn := kn_rows hR l0' l1
        unfold knB at kn
        have otE := otI.same (k6.trans (k7.trans (k8.trans sq8)))
        have g1E := g116.same kC
        generalize hONE : low (bS r) r.length = ONE at *
        generalize hTWO : low (bS (sw r l)) r.length = TWO at *
        have hl1 : ONE.length ≤ 10 := by rw [← hONE]; unfold low; exact Nat.le_trans (List.length_filter_le _ _) (by rw [upto_length]; omega)
        have hl2 : TWO.length ≤ 10 := by rw [← hTWO]; unfold low; exact Nat.le_trans (List.length_filter_le _ _) (by rw [upto_length]; omega)
        generalize hK9 : upd K8 q8 (.tup [ov, tw]) = K9 at *
        obtain ⟨oa, rfl, hoa⟩ := tO
        obtain ⟨wa, rfl, hwa⟩ := tW
        have fin : ∀ H', Same K9 H' → Q (.bl true) H' := fun H' s' => k _ (oG.trans (.of_same (kC.trans s'))) ((b16.same kC).same s')
        refine ⟨_, rfl, oa, rfl, ⟨_, sqT_same (Same.refl K9) hoa⟩, fun Nx nNx => lc_tup (K := K) (a := oa) (xs := ONE.map V.int) (fun i H' => Same K9 H' ∧ H' Nx = some (.lst ((ninL (ONE.take i) TWO).map V.int))) ⟨same_new nNx, upd_same⟩ (fun i H' _ h => sqT_same ((Same.refl K9).trans h.1) hoa) ?_ ?_⟩
        · rintro i x M2 hi ⟨m2', hD⟩
          obtain ⟨c, hc, rfl⟩ := int_at hi
          have hlen : (ninL (ONE.take i) TWO).length ≤ 100 := by unfold ninL; exact Nat.le_trans (List.length_filter_le _ _) (by rw [List.length_take]; omega)
          have tk : ninL (ONE.take (i + 1)) TWO = ninL (ONE.take i) TWO ++ ninL [c] TWO := by
            unfold ninL
            rw [take_snoc hc, List.filter_append]
          refine ⟨rfl, _, rfl, _, rfl, wa, _, rfl, .inr (sqT_same ((Same.refl K9).trans m2') hwa), rfl, flat_ints TWO, _, rfl, ite2 (fun t => ?_) (fun t => ?_)⟩
          · refine ⟨_, rfl, _, hD, small1000 (by rw [List.length_map]; omega), same_off nNx m2' off_upd, ?_⟩
            rw [upd_same, tk]
            unfold ninL
            rw [List.filter_cons_of_pos (p := fun x : Int => !inV (.int x) (TWO.map V.int)) t, List.filter_nil, List.map_append]
            rfl
          · refine ⟨m2', ?_⟩
            rw [tk]
            unfold ninL at hD ⊢
            rw [List.filter_cons_of_neg (p := fun x : Int => !inV (.int x) (TWO.map V.int)) t, List.filter_nil, List.append_nil]
            exact hD
        · rintro Mx ⟨mx, hNx⟩
          rw [List.length_map, List.take_length] at hNx
          refine ⟨Nat.zero_le _, fun Zx nZx => ?_⟩
          have zx := same_new (o := .lst []) nZx
          refine ⟨_, _, dp_len K _ _ Nx (zx _ _ hNx), dp_len K _ [] Zx upd_same, sh_L _, sh_L _, ?_⟩
          rw [eqv_L]
          refine ⟨_, rfl, ?_⟩
          by_cases ex : ninL ONE TWO = []
          · rw [decide_eq_true ex]
            refine iteF ?_
            exact fin _ ((Same.refl K9).trans (mx.trans zx))
          · rw [decide_eq_false ex]
            refine iteT ?_
            have sx := (Same.refl K9).trans (mx.trans zx)
            refine ⟨_, rfl, wa, rfl, ⟨_, sqT_same sx hwa⟩, fun Ny nNy => lc_tup (K := K) (a := wa) (xs := TWO.map V.int) (fun i H' => Same (upd Mx Zx (.lst [])) H' ∧ H' Ny = some (.lst ((ninL (TWO.take i) ONE).map V.int))) ⟨same_new nNy, upd_same⟩ (fun i H' _ h => sqT_same (sx.trans h.1) hwa) ?_ ?_⟩
            · rintro i x M2 hi ⟨m2', hD⟩
              obtain ⟨c, hc, rfl⟩ := int_at hi
              have hlen : (ninL (TWO.take i) ONE).length ≤ 100 := by unfold ninL; exact Nat.le_trans (List.length_filter_le _ _) (by rw [List.length_take]; omega)
              have tk : ninL (TWO.take (i + 1)) ONE = ninL (TWO.take i) ONE ++ ninL [c] ONE := by
                unfold ninL
                rw [take_snoc hc, List.filter_append]
              refine ⟨rfl, _, rfl, _, rfl, oa, _, rfl, .inr (sqT_same (sx.trans m2') hoa), rfl, flat_ints ONE, _, rfl, ite2 (fun t => ?_) (fun t => ?_)⟩
              · refine ⟨_, rfl, _, hD, small1000 (by rw [List.length_map]; omega), same_off nNy m2' off_upd, ?_⟩
                rw [upd_same, tk]
                unfold ninL
                rw [List.filter_cons_of_pos (p := fun x : Int => !inV (.int x) (ONE.map V.int)) t, List.filter_nil, List.map_append]
                rfl
              · refine ⟨m2', ?_⟩
                rw [tk]
                unfold ninL at hD ⊢
                rw [List.filter_cons_of_neg (p := fun x : Int => !inV (.int x) (ONE.map V.int)) t, List.filter_nil, List.append_nil]
                exact hD
            · rintro My ⟨my, hNy⟩
              rw [List.length_map, List.take_length] at hNy
              refine ⟨Nat.zero_le _, fun Zy nZy => ?_⟩
              have zy := same_new (o := .lst []) nZy
              refine ⟨_, _, dp_len K _ _ Ny (zy _ _ hNy), dp_len K _ [] Zy upd_same, sh_L _, sh_L _, ?_⟩
              rw [eqv_L]
              refine ⟨_, rfl, ?_⟩
              by_cases ey : ninL TWO ONE = []
              · rw [decide_eq_true ey]
                refine iteF ?_
                exact fin _ (sx.trans (my.trans zy))
              · rw [decide_eq_false ey]
                refine iteT ?_
                have ek : bF (sw r l) = bF r := by
                  rw [decide_eq_false ex, decide_eq_false ey] at kn
                  exact of_decide_eq_true kn
                have kF := (sx.trans (my.trans zy))
                refine ⟨_, rfl, .ref d5, sw r l, rfl, otE.same kF, hsw, fun pv9 K10 k10 pr10 => ?_⟩
                obtain ⟨pt10, w3', w4', rfl, hpt10, gg3, gg4⟩ := pr10
                refine ⟨pt10, _, _, _, rfl, rfl, hpt10, at_of (j := 0) rfl rfl, _, rfl, _, _, gg3.dp, ((g1E.same kF).same k10).dp, sh_dB _, sh_dB _, ?_⟩
                rw [eqv_dB, decide_eq_true ek]
                exact fin _ (kF.trans k10)
end
end Sk

namespace Sk
open PySem L2 Ow
theorem mk_new {H : Hp} {a : Addr} {o : HO} (n : H a = none) : Same H (upd H a o) ∧ (upd H a o) a = some o := ⟨same_new n, upd_same⟩
theorem ib_of {bs : List (List Int)} (h : bs.all (fun l => !l.isEmpty && decide (l.length ≤ 10)) = true) : ∀ l ∈ vl bs, l ≠ [] ∧ l.length ≤ 10 ∧ ∀ x ∈ l, IB x := fun l m => by
  obtain ⟨l', m', rfl⟩ := List.mem_map.mp m
  have h2 := List.all_eq_true.mp h l' m'
  rw [Bool.and_eq_true, decide_eq_true_eq] at h2
  refine ⟨fun e => ?_, by rw [List.length_map]; exact h2.2, fun x hx => ?_⟩
  · rw [List.map_eq_nil_iff.mp e] at h2
    exact absurd h2.1 (by decide)
  · obtain ⟨i, _, rfl⟩ := List.mem_map.mp hx
    exact .inl ⟨i, rfl⟩
def spLaw (K : PySem.W.Frag) : Sp := fun vs H Q _ => ∃ (a : Addr) (ns : List Int), vs = [.ref a] ∧ SqL K H a (ns.map V.int) ∧ ns.length ≤ 63 ∧ ∀ H', Q (.bl true) H'
section
variable {P : Program} {w : World} {K : PySem.W.Frag} {mg : Str → Option Value} {base : Heap} {C : Addr}
theorem ok_law (T : Txt K mg C) {f : Addr} {fd : FuncData} (D : Fun K "law" "law" s_law f fd) : FnOk P w K mg base CX0 11 f fd ["_law_script"] (spLaw K) := by
  refine D.ok sc_law (fun vs H Q E h => ?_) (fun cdv A outer s H vs Q E hr h => ?_)
  · obtain ⟨a, ns, rfl, _⟩ := h
    rfl
  · obtain ⟨sa, ns, rfl, hs, hlen, k⟩ := h
    refine ⟨_, (pss_cons (ps_for PassesOwn.never rfl (pi_range1 (by rfl) T.b_range (pa_cons (pe_callB (call_max2 rfl) (by rfl) T.b_max (by decide +kernel) (pa_cons pe_int (pa_cons (pe_callB (call_min2 rfl) (by rfl) T.b_min (by decide +kernel) (pa_cons pe_int (pa_cons (pe_callB call_len_seq (by rfl) T.b_len (by decide +kernel) (pa_cons (pv 0) pa_nil)) pa_nil))) pa_nil))) pa_nil)) (pg_name (i := 1) sc_law.nd rfl (Or.inl rfl)) (pss_cons (ps_set (i := 2) sc_law.nd rfl (Or.inl rfl) (pe_cal (cal_l_vat T) (hr.mono (by decide)) (by rfl) (pa_cons (pv 0) (pa_cons (pv 1) pa_nil))))
      (pss_one (ps_for PassesOwn.never rfl (pi_range1 (by rfl) T.b_range (pa_cons pe_int pa_nil)) (pg_name (i := 3) sc_law.nd rfl (Or.inl rfl)) (pss_one (ps_if (pt_not (pt_val (pe_cal (cal_l_right T) (hr.mono (by decide)) (by rfl) (pa_cons (pv 2) pa_nil)))) (pss_one (ps_ret pe_bl)) pss_nil))))))
      (pss_cons (ps_set (i := 4) sc_law.nd rfl (Or.inl rfl) (pe_lst (pa_cons (pe_cal (cal_bumped T) (hr.mono (by decide)) (by rfl) (pa_cons (pe_tup (pa_cons pe_int (pa_cons pe_int (pa_cons pe_int pa_nil)))) pa_nil)) (pa_cons (pe_cal (cal_bumped T) (hr.mono (by decide)) (by rfl) (pa_cons (pe_tup (pa_cons pe_int (pa_cons pe_int pa_nil))) pa_nil)) (pa_cons (pe_cal (cal_bumped T) (hr.mono (by decide)) (by rfl) (pa_cons (pe_tup (pa_cons pe_int (pa_cons pe_int (pa_cons pe_int (pa_cons pe_int (pa_cons pe_int pa_nil)))))) pa_nil)) pa_nil)))))
      (pss_cons (ps_if (PW.pt (pw_or (pt_cmpR (op_neD hr.units) (pe_ix ix_list (pv 4) pe_int (fun _ _ => rfl)) (pe_tup (pa_cons (pe_tup (pa_cons (pe_tup (pa_cons pe_int (pa_cons pe_int pa_nil))) (pa_cons (pe_tup (pa_cons pe_int pa_nil)) pa_nil))) (pa_cons (pe_tup (pa_cons (pe_tup (pa_cons pe_int (pa_cons pe_int pa_nil))) (pa_cons (pe_tup (pa_cons pe_int pa_nil)) pa_nil))) pa_nil))) (nomark _)) (pw_or1 (pt_cmpR (op_neD hr.units) (pe_ix ix_list (pv 4) pe_int (fun _ _ => rfl)) (pe_tup (pa_cons (pe_tup (pa_cons (pe_tup (pa_cons pe_int (pa_cons pe_int pa_nil))) pa_nil)) (pa_cons (pe_tup (pa_cons (pe_tup (pa_cons pe_int (pa_cons pe_int pa_nil))) pa_nil)) pa_nil))) (nomark _))))) (pss_one (ps_ret pe_bl)) pss_nil)
      (pss_cons (ps_if (pt_cmpR (op_neD hr.units) (pe_ix ix_list (pv 4) pe_int (fun _ _ => rfl)) (pe_op L2.op_repT (pe_tup (pa_cons (pe_tup (pa_cons (pe_tup (pa_cons pe_int pa_nil)) (pa_cons (pe_tup (pa_cons pe_int pa_nil)) (pa_cons (pe_tup (pa_cons pe_int pa_nil)) (pa_cons (pe_tup (pa_cons pe_int pa_nil)) (pa_cons (pe_tup (pa_cons pe_int pa_nil)) pa_nil)))))) pa_nil)) pe_int) (nomark _)) (pss_one (ps_ret pe_bl)) pss_nil)
      (pss_cons (ps_if (PW.pt (pw_or (pt_cmpR (op_neD hr.units) (pe_cal (cal_row_of_tables T) (hr.mono (by decide)) (by rfl) (pa_cons (pe_tup (pa_cons (pe_tup (pa_cons pe_int (pa_cons pe_int pa_nil))) (pa_cons (pe_tup (pa_cons pe_int pa_nil)) pa_nil))) (pa_cons (pe_tup (pa_cons (pe_tup (pa_cons pe_int (pa_cons pe_int pa_nil))) (pa_cons (pe_tup (pa_cons pe_int pa_nil)) pa_nil))) pa_nil))) (pe_tup (pa_cons pe_int (pa_cons pe_int (pa_cons pe_int pa_nil)))) (nomark _)) (pw_or1 (pt_not (pt_val (pe_cal (cal_is_table T) (hr.mono (by decide)) (by rfl) (pa_cons (pe_tup (pa_cons (pe_tup (pa_cons pe_int (pa_cons pe_int (pa_cons pe_int (pa_cons pe_int (pa_cons pe_int pa_nil)))))) pa_nil)) pa_nil))))))) (pss_one (ps_ret pe_bl)) pss_nil)
      (pss_cons (ps_if (PW.pt (pw_or (pt_val (pe_cal (cal_is_table T) (hr.mono (by decide)) (by rfl) (pa_cons (pe_tup (pa_cons (pe_tup (pa_cons pe_int (pa_cons pe_int (pa_cons pe_int (pa_cons pe_int (pa_cons pe_int (pa_cons pe_int pa_nil))))))) pa_nil)) pa_nil))) (pw_or1 (pt_val (pe_cal (cal_is_table T) (hr.mono (by decide)) (by rfl) (pa_cons (pe_tup (pa_cons (pe_tup (pa_cons pe_int pa_nil)) pa_nil)) pa_nil)))))) (pss_one (ps_ret pe_bl)) pss_nil)
      (pss_one (ps_ret (pe_cmpR (op_eqD hr.units) (pe_cal (cal_row_of_tables T) (hr.mono (by decide)) (by rfl) (pa_cons (pe_tup (pa_cons (pe_tup (pa_cons pe_int (pa_cons pe_int pa_nil))) (pa_cons (pe_tup (pa_cons pe_int pa_nil)) pa_nil))) (pa_cons (pe_tup (pa_cons (pe_tup (pa_cons pe_int (pa_cons pe_int pa_nil))) (pa_cons (pe_tup (pa_cons pe_int pa_nil)) pa_nil))) pa_nil))) (pe_tup (pa_cons pe_int (pa_cons pe_int (pa_cons pe_int pa_nil)))) (nomark _)))))))))), ?_⟩
    have hj : ∀ j : Int, -(2 ^ 62) ≤ (if (if (j : Int) < 4 then (j : Int) else 4) > 1 then (if (j : Int) < 4 then (j : Int) else 4) else 1) ∧ (if (if (j : Int) < 4 then (j : Int) else 4) > 1 then (if (j : Int) < 4 then (j : Int) else 4) else 1) < 2 ^ 62 := fun j => by
      split <;> split <;> omega
    refine ⟨_, rfl, _, _, rfl, .inl hs, _, _, rfl, _, _, rfl, _, rfl, (hj _).1, (hj _).2, for_range (lo := 0) (fun _ σ H' => SqL K H' sa (ns.map V.int) ∧ ∃ v1 v2 v3 : Option V, σ = [some (.ref sa), v1, v2, v3, none]) ⟨hs, none, none, none, rfl⟩ ?_ ?_⟩
    · rintro i σ H0 hi ⟨hs, v1, v2, v3, rfl⟩
      refine ⟨_, rfl, _, rfl, sa, _, ns, rfl, hs, by omega, fun p H1 s1 np bb => ?_⟩
      refine ⟨_, rfl, by decide, by decide, for_range (lo := 0) (n := 4) (fun _ σ H2 => Off p H1 H2 ∧ VatAt H2 p ∧ ∃ v3 : Option V, σ = [some (.ref sa), some (.int (0 + (i : Int))), some (.ref p), v3, none]) ⟨.refl, bb, _, rfl⟩ ?_ ?_⟩
      · rintro j σ H2 hj2 ⟨k0, c0, v3, rfl⟩
        exact ⟨_, rfl, p, rfl, c0, fun H4 o4 b4 => ⟨_, rfl, iteF ⟨k0.trans o4, b4, _, rfl⟩⟩⟩
      · rintro σ H2 ⟨k0, c0, v3, rfl⟩
        exact ⟨SqL.ext hs (same_off np s1 k0), _, _, _, rfl⟩
    · rintro σ H0 ⟨hs, v1, v2, v3, rfl⟩
      refine ⟨show 3 ≤ sizeLine by decide, fun a1 m_a1 => ?_⟩
      obtain ⟨s_a1, f_a1⟩ := mk_new (o := .tup [.int 2, .int 3, .int 1]) m_a1
      refine ⟨.ref a1, [2, 3, 1], rfl, ⟨a1, rfl, .of f_a1⟩, ⟨by decide, by decide, by decide⟩, fun v1 G1 g1 pr1 => ?_⟩
      replace f_a1 := g1 _ _ f_a1
      rw [show bF [2, 3, 1] = [[1, 3], [2]] by decide +kernel, show bS [2, 3, 1] = [[1, 2], [3]] by decide +kernel] at pr1
      refine ⟨show 2 ≤ sizeLine by decide, fun a2 m_a2 => ?_⟩
      obtain ⟨s_a2, f_a2⟩ := mk_new (o := .tup [.int 1, .int 2]) m_a2
      replace f_a1 := s_a2 _ _ f_a1
      replace pr1 := pr1.same s_a2
      refine ⟨.ref a2, [1, 2], rfl, ⟨a2, rfl, .of f_a2⟩, ⟨by decide, by decide, by decide⟩, fun v2 G2 g2 pr2 => ?_⟩
      replace f_a1 := g2 _ _ f_a1
      replace pr1 := pr1.same g2
      replace f_a2 := g2 _ _ f_a2
      rw [show bF [1, 2] = [[1, 2]] by decide +kernel, show bS [1, 2] = [[1, 2]] by decide +kernel] at pr2
      refine ⟨show 5 ≤ sizeLine by decide, fun a3 m_a3 => ?_⟩
      obtain ⟨s_a3, f_a3⟩ := mk_new (o := .tup [.int 5, .int 4, .int 3, .int 2, .int 1]) m_a3
      replace f_a1 := s_a3 _ _ f_a1
      replace pr1 := pr1.same s_a3
      replace f_a2 := s_a3 _ _ f_a2
      replace pr2 := pr2.same s_a3
      refine ⟨.ref a3, [5, 4, 3, 2, 1], rfl, ⟨a3, rfl, .of f_a3⟩, ⟨by decide, by decide, by decide⟩, fun v3 G3 g3 pr3 => ?_⟩
      replace f_a1 := g3 _ _ f_a1
      replace pr1 := pr1.same g3
      replace f_a2 := g3 _ _ f_a2
      replace pr2 := pr2.same g3
      replace f_a3 := g3 _ _ f_a3
      rw [show bF [5, 4, 3, 2, 1] = [[1], [2], [3], [4], [5]] by decide +kernel, show bS [5, 4, 3, 2, 1] = [[1], [2], [3], [4], [5]] by decide +kernel] at pr3
      refine ⟨show 3 ≤ sizeLine by decide, fun a4 m_a4 => ?_⟩
      obtain ⟨s_a4, f_a4⟩ := mk_new (o := .lst [v1, v2, v3]) m_a4
      replace f_a1 := s_a4 _ _ f_a1
      replace pr1 := pr1.same s_a4
      replace f_a2 := s_a4 _ _ f_a2
      replace pr2 := pr2.same s_a4
      replace f_a3 := s_a4 _ _ f_a3
      replace pr3 := pr3.same s_a4
      refine ⟨_, rfl, a4, _, _, _, rfl, rfl, .of f_a4, at_of (j := 0) rfl rfl, ?_⟩
      refine ⟨show 2 ≤ sizeLine by decide, fun a5 m_a5 => ?_⟩
      obtain ⟨s_a5, f_a5⟩ := mk_new (o := .tup [.int 1, .int 3]) m_a5
      replace f_a1 := s_a5 _ _ f_a1
      replace pr1 := pr1.same s_a5
      replace f_a2 := s_a5 _ _ f_a2
      replace pr2 := pr2.same s_a5
      replace f_a3 := s_a5 _ _ f_a3
      replace pr3 := pr3.same s_a5
      replace f_a4 := s_a5 _ _ f_a4
      refine ⟨show 1 ≤ sizeLine by decide, fun a6 m_a6 => ?_⟩
      obtain ⟨s_a6, f_a6⟩ := mk_new (o := .tup [.int 2]) m_a6
      replace f_a1 := s_a6 _ _ f_a1
      replace pr1 := pr1.same s_a6
      replace f_a2 := s_a6 _ _ f_a2
      replace pr2 := pr2.same s_a6
      replace f_a3 := s_a6 _ _ f_a3
      replace pr3 := pr3.same s_a6
      replace f_a4 := s_a6 _ _ f_a4
      replace f_a5 := s_a6 _ _ f_a5
      refine ⟨show 2 ≤ sizeLine by decide, fun a7 m_a7 => ?_⟩
      obtain ⟨s_a7, f_a7⟩ := mk_new (o := .tup [.ref a5, .ref a6]) m_a7
      replace f_a1 := s_a7 _ _ f_a1
      replace pr1 := pr1.same s_a7
      replace f_a2 := s_a7 _ _ f_a2
      replace pr2 := pr2.same s_a7
      replace f_a3 := s_a7 _ _ f_a3
      replace pr3 := pr3.same s_a7
      replace f_a4 := s_a7 _ _ f_a4
      replace f_a5 := s_a7 _ _ f_a5
      replace f_a6 := s_a7 _ _ f_a6
      refine ⟨show 2 ≤ sizeLine by decide, fun a8 m_a8 => ?_⟩
      obtain ⟨s_a8, f_a8⟩ := mk_new (o := .tup [.int 1, .int 2]) m_a8
      replace f_a1 := s_a8 _ _ f_a1
      replace pr1 := pr1.same s_a8
      replace f_a2 := s_a8 _ _ f_a2
      replace pr2 := pr2.same s_a8
      replace f_a3 := s_a8 _ _ f_a3
      replace pr3 := pr3.same s_a8
      replace f_a4 := s_a8 _ _ f_a4
      replace f_a5 := s_a8 _ _ f_a5
      replace f_a6 := s_a8 _ _ f_a6
      replace f_a7 := s_a8 _ _ f_a7
      refine ⟨show 1 ≤ sizeLine by decide, fun a9 m_a9 => ?_⟩
      obtain ⟨s_a9, f_a9⟩ := mk_new (o := .tup [.int 3]) m_a9
      replace f_a1 := s_a9 _ _ f_a1
      replace pr1 := pr1.same s_a9
      replace f_a2 := s_a9 _ _ f_a2
      replace pr2 := pr2.same s_a9
      replace f_a3 := s_a9 _ _ f_a3
      replace pr3 := pr3.same s_a9
      replace f_a4 := s_a9 _ _ f_a4
      replace f_a5 := s_a9 _ _ f_a5
      replace f_a6 := s_a9 _ _ f_a6
      replace f_a7 := s_a9 _ _ f_a7
      replace f_a8 := s_a9 _ _ f_a8
      refine ⟨show 2 ≤ sizeLine by decide, fun a10 m_a10 => ?_⟩
      obtain ⟨s_a10, f_a10⟩ := mk_new (o := .tup [.ref a8, .ref a9]) m_a10
      replace f_a1 := s_a10 _ _ f_a1
      replace pr1 := pr1.same s_a10
      replace f_a2 := s_a10 _ _ f_a2
      replace pr2 := pr2.same s_a10
      replace f_a3 := s_a10 _ _ f_a3
      replace pr3 := pr3.same s_a10
      replace f_a4 := s_a10 _ _ f_a4
      replace f_a5 := s_a10 _ _ f_a5
      replace f_a6 := s_a10 _ _ f_a6
      replace f_a7 := s_a10 _ _ f_a7
      replace f_a8 := s_a10 _ _ f_a8
      replace f_a9 := s_a10 _ _ f_a9
      refine ⟨show 2 ≤ sizeLine by decide, fun a11 m_a11 => ?_⟩
      obtain ⟨s_a11, f_a11⟩ := mk_new (o := .tup [.ref a7, .ref a10]) m_a11
      replace f_a1 := s_a11 _ _ f_a1
      replace pr1 := pr1.same s_a11
      replace f_a2 := s_a11 _ _ f_a2
      replace pr2 := pr2.same s_a11
      replace f_a3 := s_a11 _ _ f_a3
      replace pr3 := pr3.same s_a11
      replace f_a4 := s_a11 _ _ f_a4
      replace f_a5 := s_a11 _ _ f_a5
      replace f_a6 := s_a11 _ _ f_a6
      replace f_a7 := s_a11 _ _ f_a7
      replace f_a8 := s_a11 _ _ f_a8
      replace f_a9 := s_a11 _ _ f_a9
      replace f_a10 := s_a11 _ _ f_a10
      refine ne_pr (F := [[1, 3], [2]]) (S := [[1, 2], [3]]) pr1 ⟨a11, .ref a7, .ref a10, rfl, .of f_a11, ⟨a7, [.ref a5, .ref a6], rfl, .of f_a7, ⟨⟨a5, rfl, .of f_a5⟩, ⟨a6, rfl, .of f_a6⟩, trivial⟩⟩, ⟨a10, [.ref a8, .ref a9], rfl, .of f_a10, ⟨⟨a8, rfl, .of f_a8⟩, ⟨a9, rfl, .of f_a9⟩, trivial⟩⟩⟩ ⟨_, rfl, iteF ?_⟩
      refine ⟨_, rfl, a4, _, _, _, rfl, rfl, .of f_a4, at_of (j := 1) rfl rfl, ?_⟩
      refine ⟨show 2 ≤ sizeLine by decide, fun a12 m_a12 => ?_⟩
      obtain ⟨s_a12, f_a12⟩ := mk_new (o := .tup [.int 1, .int 2]) m_a12
      replace f_a1 := s_a12 _ _ f_a1
      replace pr1 := pr1.same s_a12
      replace f_a2 := s_a12 _ _ f_a2
      replace pr2 := pr2.same s_a12
      replace f_a3 := s_a12 _ _ f_a3
      replace pr3 := pr3.same s_a12
      replace f_a4 := s_a12 _ _ f_a4
      replace f_a5 := s_a12 _ _ f_a5
      replace f_a6 := s_a12 _ _ f_a6
      replace f_a7 := s_a12 _ _ f_a7
      replace f_a8 := s_a12 _ _ f_a8
      replace f_a9 := s_a12 _ _ f_a9
      replace f_a10 := s_a12 _ _ f_a10
      replace f_a11 := s_a12 _ _ f_a11
      refine ⟨show 1 ≤ sizeLine by decide, fun a13 m_a13 => ?_⟩
      obtain ⟨s_a13, f_a13⟩ := mk_new (o := .tup [.ref a12]) m_a13
      replace f_a1 := s_a13 _ _ f_a1
      replace pr1 := pr1.same s_a13
      replace f_a2 := s_a13 _ _ f_a2
      replace pr2 := pr2.same s_a13
      replace f_a3 := s_a13 _ _ f_a3
      replace pr3 := pr3.same s_a13
      replace f_a4 := s_a13 _ _ f_a4
      replace f_a5 := s_a13 _ _ f_a5
      replace f_a6 := s_a13 _ _ f_a6
      replace f_a7 := s_a13 _ _ f_a7
      replace f_a8 := s_a13 _ _ f_a8
      replace f_a9 := s_a13 _ _ f_a9
      replace f_a10 := s_a13 _ _ f_a10
      replace f_a11 := s_a13 _ _ f_a11
      replace f_a12 := s_a13 _ _ f_a12
      refine ⟨show 2 ≤ sizeLine by decide, fun a14 m_a14 => ?_⟩
      obtain ⟨s_a14, f_a14⟩ := mk_new (o := .tup [.int 1, .int 2]) m_a14
      replace f_a1 := s_a14 _ _ f_a1
      replace pr1 := pr1.same s_a14
      replace f_a2 := s_a14 _ _ f_a2
      replace pr2 := pr2.same s_a14
      replace f_a3 := s_a14 _ _ f_a3
      replace pr3 := pr3.same s_a14
      replace f_a4 := s_a14 _ _ f_a4
      replace f_a5 := s_a14 _ _ f_a5
      replace f_a6 := s_a14 _ _ f_a6
      replace f_a7 := s_a14 _ _ f_a7
      replace f_a8 := s_a14 _ _ f_a8
      replace f_a9 := s_a14 _ _ f_a9
      replace f_a10 := s_a14 _ _ f_a10
      replace f_a11 := s_a14 _ _ f_a11
      replace f_a12 := s_a14 _ _ f_a12
      replace f_a13 := s_a14 _ _ f_a13
      refine ⟨show 1 ≤ sizeLine by decide, fun a15 m_a15 => ?_⟩
      obtain ⟨s_a15, f_a15⟩ := mk_new (o := .tup [.ref a14]) m_a15
      replace f_a1 := s_a15 _ _ f_a1
      replace pr1 := pr1.same s_a15
      replace f_a2 := s_a15 _ _ f_a2
      replace pr2 := pr2.same s_a15
      replace f_a3 := s_a15 _ _ f_a3
      replace pr3 := pr3.same s_a15
      replace f_a4 := s_a15 _ _ f_a4
      replace f_a5 := s_a15 _ _ f_a5
      replace f_a6 := s_a15 _ _ f_a6
      replace f_a7 := s_a15 _ _ f_a7
      replace f_a8 := s_a15 _ _ f_a8
      replace f_a9 := s_a15 _ _ f_a9
      replace f_a10 := s_a15 _ _ f_a10
      replace f_a11 := s_a15 _ _ f_a11
      replace f_a12 := s_a15 _ _ f_a12
      replace f_a13 := s_a15 _ _ f_a13
      replace f_a14 := s_a15 _ _ f_a14
      refine ⟨show 2 ≤ sizeLine by decide, fun a16 m_a16 => ?_⟩
      obtain ⟨s_a16, f_a16⟩ := mk_new (o := .tup [.ref a13, .ref a15]) m_a16
      replace f_a1 := s_a16 _ _ f_a1
      replace pr1 := pr1.same s_a16
      replace f_a2 := s_a16 _ _ f_a2
      replace pr2 := pr2.same s_a16
      replace f_a3 := s_a16 _ _ f_a3
      replace pr3 := pr3.same s_a16
      replace f_a4 := s_a16 _ _ f_a4
      replace f_a5 := s_a16 _ _ f_a5
      replace f_a6 := s_a16 _ _ f_a6
      replace f_a7 := s_a16 _ _ f_a7
      replace f_a8 := s_a16 _ _ f_a8
      replace f_a9 := s_a16 _ _ f_a9
      replace f_a10 := s_a16 _ _ f_a10
      replace f_a11 := s_a16 _ _ f_a11
      replace f_a12 := s_a16 _ _ f_a12
      replace f_a13 := s_a16 _ _ f_a13
      replace f_a14 := s_a16 _ _ f_a14
      replace f_a15 := s_a16 _ _ f_a15
      refine ne_pr (F := [[1, 2]]) (S := [[1, 2]]) pr2 ⟨a16, .ref a13, .ref a15, rfl, .of f_a16, ⟨a13, [.ref a12], rfl, .of f_a13, ⟨⟨a12, rfl, .of f_a12⟩, trivial⟩⟩, ⟨a15, [.ref a14], rfl, .of f_a15, ⟨⟨a14, rfl, .of f_a14⟩, trivial⟩⟩⟩ ⟨_, rfl, iteF ?_⟩
      refine ⟨_, rfl, a4, _, _, _, rfl, rfl, .of f_a4, at_of (j := 2) rfl rfl, ?_⟩
      refine ⟨show 1 ≤ sizeLine by decide, fun a17 m_a17 => ?_⟩
      obtain ⟨s_a17, f_a17⟩ := mk_new (o := .tup [.int 1]) m_a17
      replace f_a1 := s_a17 _ _ f_a1
      replace pr1 := pr1.same s_a17
      replace f_a2 := s_a17 _ _ f_a2
      replace pr2 := pr2.same s_a17
      replace f_a3 := s_a17 _ _ f_a3
      replace pr3 := pr3.same s_a17
      replace f_a4 := s_a17 _ _ f_a4
      replace f_a5 := s_a17 _ _ f_a5
      replace f_a6 := s_a17 _ _ f_a6
      replace f_a7 := s_a17 _ _ f_a7
      replace f_a8 := s_a17 _ _ f_a8
      replace f_a9 := s_a17 _ _ f_a9
      replace f_a10 := s_a17 _ _ f_a10
      replace f_a11 := s_a17 _ _ f_a11
      replace f_a12 := s_a17 _ _ f_a12
      replace f_a13 := s_a17 _ _ f_a13
      replace f_a14 := s_a17 _ _ f_a14
      replace f_a15 := s_a17 _ _ f_a15
      replace f_a16 := s_a17 _ _ f_a16
      refine ⟨show 1 ≤ sizeLine by decide, fun a18 m_a18 => ?_⟩
      obtain ⟨s_a18, f_a18⟩ := mk_new (o := .tup [.int 2]) m_a18
      replace f_a1 := s_a18 _ _ f_a1
      replace pr1 := pr1.same s_a18
      replace f_a2 := s_a18 _ _ f_a2
      replace pr2 := pr2.same s_a18
      replace f_a3 := s_a18 _ _ f_a3
      replace pr3 := pr3.same s_a18
      replace f_a4 := s_a18 _ _ f_a4
      replace f_a5 := s_a18 _ _ f_a5
      replace f_a6 := s_a18 _ _ f_a6
      replace f_a7 := s_a18 _ _ f_a7
      replace f_a8 := s_a18 _ _ f_a8
      replace f_a9 := s_a18 _ _ f_a9
      replace f_a10 := s_a18 _ _ f_a10
      replace f_a11 := s_a18 _ _ f_a11
      replace f_a12 := s_a18 _ _ f_a12
      replace f_a13 := s_a18 _ _ f_a13
      replace f_a14 := s_a18 _ _ f_a14
      replace f_a15 := s_a18 _ _ f_a15
      replace f_a16 := s_a18 _ _ f_a16
      replace f_a17 := s_a18 _ _ f_a17
      refine ⟨show 1 ≤ sizeLine by decide, fun a19 m_a19 => ?_⟩
      obtain ⟨s_a19, f_a19⟩ := mk_new (o := .tup [.int 3]) m_a19
      replace f_a1 := s_a19 _ _ f_a1
      replace pr1 := pr1.same s_a19
      replace f_a2 := s_a19 _ _ f_a2
      replace pr2 := pr2.same s_a19
      replace f_a3 := s_a19 _ _ f_a3
      replace pr3 := pr3.same s_a19
      replace f_a4 := s_a19 _ _ f_a4
      replace f_a5 := s_a19 _ _ f_a5
      replace f_a6 := s_a19 _ _ f_a6
      replace f_a7 := s_a19 _ _ f_a7
      replace f_a8 := s_a19 _ _ f_a8
      replace f_a9 := s_a19 _ _ f_a9
      replace f_a10 := s_a19 _ _ f_a10
      replace f_a11 := s_a19 _ _ f_a11
      replace f_a12 := s_a19 _ _ f_a12
      replace f_a13 := s_a19 _ _ f_a13
      replace f_a14 := s_a19 _ _ f_a14
      replace f_a15 := s_a19 _ _ f_a15
      replace f_a16 := s_a19 _ _ f_a16
      replace f_a17 := s_a19 _ _ f_a17
      replace f_a18 := s_a19 _ _ f_a18
      refine ⟨show 1 ≤ sizeLine by decide, fun a20 m_a20 => ?_⟩
      obtain ⟨s_a20, f_a20⟩ := mk_new (o := .tup [.int 4]) m_a20
      replace f_a1 := s_a20 _ _ f_a1
      replace pr1 := pr1.same s_a20
      replace f_a2 := s_a20 _ _ f_a2
      replace pr2 := pr2.same s_a20
      replace f_a3 := s_a20 _ _ f_a3
      replace pr3 := pr3.same s_a20
      replace f_a4 := s_a20 _ _ f_a4
      replace f_a5 := s_a20 _ _ f_a5
      replace f_a6 := s_a20 _ _ f_a6
      replace f_a7 := s_a20 _ _ f_a7
      replace f_a8 := s_a20 _ _ f_a8
      replace f_a9 := s_a20 _ _ f_a9
      replace f_a10 := s_a20 _ _ f_a10
      replace f_a11 := s_a20 _ _ f_a11
      replace f_a12 := s_a20 _ _ f_a12
      replace f_a13 := s_a20 _ _ f_a13
      replace f_a14 := s_a20 _ _ f_a14
      replace f_a15 := s_a20 _ _ f_a15
      replace f_a16 := s_a20 _ _ f_a16
      replace f_a17 := s_a20 _ _ f_a17
      replace f_a18 := s_a20 _ _ f_a18
      replace f_a19 := s_a20 _ _ f_a19
      refine ⟨show 1 ≤ sizeLine by decide, fun a21 m_a21 => ?_⟩
      obtain ⟨s_a21, f_a21⟩ := mk_new (o := .tup [.int 5]) m_a21
      replace f_a1 := s_a21 _ _ f_a1
      replace pr1 := pr1.same s_a21
      replace f_a2 := s_a21 _ _ f_a2
      replace pr2 := pr2.same s_a21
      replace f_a3 := s_a21 _ _ f_a3
      replace pr3 := pr3.same s_a21
      replace f_a4 := s_a21 _ _ f_a4
      replace f_a5 := s_a21 _ _ f_a5
      replace f_a6 := s_a21 _ _ f_a6
      replace f_a7 := s_a21 _ _ f_a7
      replace f_a8 := s_a21 _ _ f_a8
      replace f_a9 := s_a21 _ _ f_a9
      replace f_a10 := s_a21 _ _ f_a10
      replace f_a11 := s_a21 _ _ f_a11
      replace f_a12 := s_a21 _ _ f_a12
      replace f_a13 := s_a21 _ _ f_a13
      replace f_a14 := s_a21 _ _ f_a14
      replace f_a15 := s_a21 _ _ f_a15
      replace f_a16 := s_a21 _ _ f_a16
      replace f_a17 := s_a21 _ _ f_a17
      replace f_a18 := s_a21 _ _ f_a18
      replace f_a19 := s_a21 _ _ f_a19
      replace f_a20 := s_a21 _ _ f_a20
      refine ⟨show 5 ≤ sizeLine by decide, fun a22 m_a22 => ?_⟩
      obtain ⟨s_a22, f_a22⟩ := mk_new (o := .tup [.ref a17, .ref a18, .ref a19, .ref a20, .ref a21]) m_a22
      replace f_a1 := s_a22 _ _ f_a1
      replace pr1 := pr1.same s_a22
      replace f_a2 := s_a22 _ _ f_a2
      replace pr2 := pr2.same s_a22
      replace f_a3 := s_a22 _ _ f_a3
      replace pr3 := pr3.same s_a22
      replace f_a4 := s_a22 _ _ f_a4
      replace f_a5 := s_a22 _ _ f_a5
      replace f_a6 := s_a22 _ _ f_a6
      replace f_a7 := s_a22 _ _ f_a7
      replace f_a8 := s_a22 _ _ f_a8
      replace f_a9 := s_a22 _ _ f_a9
      replace f_a10 := s_a22 _ _ f_a10
      replace f_a11 := s_a22 _ _ f_a11
      replace f_a12 := s_a22 _ _ f_a12
      replace f_a13 := s_a22 _ _ f_a13
      replace f_a14 := s_a22 _ _ f_a14
      replace f_a15 := s_a22 _ _ f_a15
      replace f_a16 := s_a22 _ _ f_a16
      replace f_a17 := s_a22 _ _ f_a17
      replace f_a18 := s_a22 _ _ f_a18
      replace f_a19 := s_a22 _ _ f_a19
      replace f_a20 := s_a22 _ _ f_a20
      replace f_a21 := s_a22 _ _ f_a21
      refine ⟨show 1 ≤ sizeLine by decide, fun a23 m_a23 => ?_⟩
      obtain ⟨s_a23, f_a23⟩ := mk_new (o := .tup [.ref a22]) m_a23
      replace f_a1 := s_a23 _ _ f_a1
      replace pr1 := pr1.same s_a23
      replace f_a2 := s_a23 _ _ f_a2
      replace pr2 := pr2.same s_a23
      replace f_a3 := s_a23 _ _ f_a3
      replace pr3 := pr3.same s_a23
      replace f_a4 := s_a23 _ _ f_a4
      replace f_a5 := s_a23 _ _ f_a5
      replace f_a6 := s_a23 _ _ f_a6
      replace f_a7 := s_a23 _ _ f_a7
      replace f_a8 := s_a23 _ _ f_a8
      replace f_a9 := s_a23 _ _ f_a9
      replace f_a10 := s_a23 _ _ f_a10
      replace f_a11 := s_a23 _ _ f_a11
      replace f_a12 := s_a23 _ _ f_a12
      replace f_a13 := s_a23 _ _ f_a13
      replace f_a14 := s_a23 _ _ f_a14
      replace f_a15 := s_a23 _ _ f_a15
      replace f_a16 := s_a23 _ _ f_a16
      replace f_a17 := s_a23 _ _ f_a17
      replace f_a18 := s_a23 _ _ f_a18
      replace f_a19 := s_a23 _ _ f_a19
      replace f_a20 := s_a23 _ _ f_a20
      replace f_a21 := s_a23 _ _ f_a21
      replace f_a22 := s_a23 _ _ f_a22
      refine ⟨a23, 2, [.ref a22], rfl, rfl, .of f_a23, by simp, by decide, by decide, by simp, fun rp m_rp => ?_⟩
      obtain ⟨s_rp, f_rp⟩ := mk_new (o := .tup [.ref a22, .ref a22]) m_rp
      replace f_a1 := s_rp _ _ f_a1
      replace pr1 := pr1.same s_rp
      replace f_a2 := s_rp _ _ f_a2
      replace pr2 := pr2.same s_rp
      replace f_a3 := s_rp _ _ f_a3
      replace pr3 := pr3.same s_rp
      replace f_a4 := s_rp _ _ f_a4
      replace f_a5 := s_rp _ _ f_a5
      replace f_a6 := s_rp _ _ f_a6
      replace f_a7 := s_rp _ _ f_a7
      replace f_a8 := s_rp _ _ f_a8
      replace f_a9 := s_rp _ _ f_a9
      replace f_a10 := s_rp _ _ f_a10
      replace f_a11 := s_rp _ _ f_a11
      replace f_a12 := s_rp _ _ f_a12
      replace f_a13 := s_rp _ _ f_a13
      replace f_a14 := s_rp _ _ f_a14
      replace f_a15 := s_rp _ _ f_a15
      replace f_a16 := s_rp _ _ f_a16
      replace f_a17 := s_rp _ _ f_a17
      replace f_a18 := s_rp _ _ f_a18
      replace f_a19 := s_rp _ _ f_a19
      replace f_a20 := s_rp _ _ f_a20
      replace f_a21 := s_rp _ _ f_a21
      replace f_a22 := s_rp _ _ f_a22
      replace f_a23 := s_rp _ _ f_a23
      refine ne_pr (F := [[1], [2], [3], [4], [5]]) (S := [[1], [2], [3], [4], [5]]) pr3 ⟨rp, .ref a22, .ref a22, rfl, .of f_rp, ⟨a22, [.ref a17, .ref a18, .ref a19, .ref a20, .ref a21], rfl, .of f_a22, ⟨⟨a17, rfl, .of f_a17⟩, ⟨a18, rfl, .of f_a18⟩, ⟨a19, rfl, .of f_a19⟩, ⟨a20, rfl, .of f_a20⟩, ⟨a21, rfl, .of f_a21⟩, trivial⟩⟩, ⟨a22, [.ref a17, .ref a18, .ref a19, .ref a20, .ref a21], rfl, .of f_a22, ⟨⟨a17, rfl, .of f_a17⟩, ⟨a18, rfl, .of f_a18⟩, ⟨a19, rfl, .of f_a19⟩, ⟨a20, rfl, .of f_a20⟩, ⟨a21, rfl, .of f_a21⟩, trivial⟩⟩⟩ ⟨_, rfl, iteF ?_⟩
      refine ⟨show 2 ≤ sizeLine by decide, fun a24 m_a24 => ?_⟩
      obtain ⟨s_a24, f_a24⟩ := mk_new (o := .tup [.int 1, .int 3]) m_a24
      refine ⟨show 1 ≤ sizeLine by decide, fun a25 m_a25 => ?_⟩
      obtain ⟨s_a25, f_a25⟩ := mk_new (o := .tup [.int 2]) m_a25
      replace f_a24 := s_a25 _ _ f_a24
      refine ⟨show 2 ≤ sizeLine by decide, fun a26 m_a26 => ?_⟩
      obtain ⟨s_a26, f_a26⟩ := mk_new (o := .tup [.ref a24, .ref a25]) m_a26
      replace f_a24 := s_a26 _ _ f_a24
      replace f_a25 := s_a26 _ _ f_a25
      refine ⟨show 2 ≤ sizeLine by decide, fun a27 m_a27 => ?_⟩
      obtain ⟨s_a27, f_a27⟩ := mk_new (o := .tup [.int 1, .int 2]) m_a27
      replace f_a24 := s_a27 _ _ f_a24
      replace f_a25 := s_a27 _ _ f_a25
      replace f_a26 := s_a27 _ _ f_a26
      refine ⟨show 1 ≤ sizeLine by decide, fun a28 m_a28 => ?_⟩
      obtain ⟨s_a28, f_a28⟩ := mk_new (o := .tup [.int 3]) m_a28
      replace f_a24 := s_a28 _ _ f_a24
      replace f_a25 := s_a28 _ _ f_a25
      replace f_a26 := s_a28 _ _ f_a26
      replace f_a27 := s_a28 _ _ f_a27
      refine ⟨show 2 ≤ sizeLine by decide, fun a29 m_a29 => ?_⟩
      obtain ⟨s_a29, f_a29⟩ := mk_new (o := .tup [.ref a27, .ref a28]) m_a29
      replace f_a24 := s_a29 _ _ f_a24
      replace f_a25 := s_a29 _ _ f_a25
      replace f_a26 := s_a29 _ _ f_a26
      replace f_a27 := s_a29 _ _ f_a27
      replace f_a28 := s_a29 _ _ f_a28
      refine ⟨.ref a26, .ref a29, [2, 3, 1], rfl, (by rw [show bF [2, 3, 1] = [[1, 3], [2]] by decide +kernel]; exact ⟨a26, [.ref a24, .ref a25], rfl, .of f_a26, ⟨⟨a24, rfl, .of f_a24⟩, ⟨a25, rfl, .of f_a25⟩, trivial⟩⟩), (by rw [show bS [2, 3, 1] = [[1, 2], [3]] by decide +kernel]; exact ⟨a29, [.ref a27, .ref a28], rfl, .of f_a29, ⟨⟨a27, rfl, .of f_a27⟩, ⟨a28, rfl, .of f_a28⟩, trivial⟩⟩), ⟨by decide, by decide, by decide⟩, fun w6 K6 k6 t6 => ?_⟩
      refine ⟨show 3 ≤ sizeLine by decide, fun a30 m_a30 => ?_⟩
      obtain ⟨s_a30, f_a30⟩ := mk_new (o := .tup [.int 2, .int 3, .int 1]) m_a30
      replace t6 := t6.same s_a30
      refine ne_ti t6 (b := [2, 3, 1]) ⟨a30, rfl, .of f_a30⟩ rfl ⟨_, rfl, iteF ?_⟩
      refine ⟨show 5 ≤ sizeLine by decide, fun a31 m_a31 => ?_⟩
      obtain ⟨s_a31, f_a31⟩ := mk_new (o := .tup [.int 1, .int 2, .int 3, .int 4, .int 5]) m_a31
      refine ⟨show 1 ≤ sizeLine by decide, fun a32 m_a32 => ?_⟩
      obtain ⟨s_a32, f_a32⟩ := mk_new (o := .tup [.ref a31]) m_a32
      replace f_a31 := s_a32 _ _ f_a31
      refine ⟨.ref a32, vl [[1, 2, 3, 4, 5]], true, rfl, BsAt.vt (bs := [[1, 2, 3, 4, 5]]) ⟨a32, [.ref a31], rfl, .of f_a32, ⟨⟨a31, rfl, .of f_a31⟩, trivial⟩⟩, by decide, ib_of (by decide), (yes_of (bs := [[1, 2, 3, 4, 5]]) (by decide +kernel)).t, fun K7 k7 => ⟨_, rfl, iteF ?_⟩⟩
      refine ⟨show 6 ≤ sizeLine by decide, fun a33 m_a33 => ?_⟩
      obtain ⟨s_a33, f_a33⟩ := mk_new (o := .tup [.int 1, .int 2, .int 3, .int 4, .int 5, .int 6]) m_a33
      refine ⟨show 1 ≤ sizeLine by decide, fun a34 m_a34 => ?_⟩
      obtain ⟨s_a34, f_a34⟩ := mk_new (o := .tup [.ref a33]) m_a34
      replace f_a33 := s_a34 _ _ f_a33
      refine ⟨.ref a34, vl [[1, 2, 3, 4, 5, 6]], false, rfl, BsAt.vt (bs := [[1, 2, 3, 4, 5, 6]]) ⟨a34, [.ref a33], rfl, .of f_a34, ⟨⟨a33, rfl, .of f_a33⟩, trivial⟩⟩, by decide, ib_of (by decide), .size (by decide +kernel), fun K8 k8 => ⟨_, rfl, iteF ?_⟩⟩
      refine ⟨show 1 ≤ sizeLine by decide, fun a35 m_a35 => ?_⟩
      obtain ⟨s_a35, f_a35⟩ := mk_new (o := .tup [.int 1]) m_a35
      refine ⟨show 1 ≤ sizeLine by decide, fun a36 m_a36 => ?_⟩
      obtain ⟨s_a36, f_a36⟩ := mk_new (o := .tup [.ref a35]) m_a36
      replace f_a35 := s_a36 _ _ f_a35
      refine ⟨.ref a36, vl [[1]], false, rfl, BsAt.vt (bs := [[1]]) ⟨a36, [.ref a35], rfl, .of f_a36, ⟨⟨a35, rfl, .of f_a35⟩, trivial⟩⟩, by decide, ib_of (by decide), .size (by decide +kernel), fun K9 k9 => ⟨_, rfl, iteF ?_⟩⟩
      refine ⟨show 2 ≤ sizeLine by decide, fun a37 m_a37 => ?_⟩
      obtain ⟨s_a37, f_a37⟩ := mk_new (o := .tup [.int 1, .int 2]) m_a37
      refine ⟨show 1 ≤ sizeLine by decide, fun a38 m_a38 => ?_⟩
      obtain ⟨s_a38, f_a38⟩ := mk_new (o := .tup [.int 3]) m_a38
      replace f_a37 := s_a38 _ _ f_a37
      refine ⟨show 2 ≤ sizeLine by decide, fun a39 m_a39 => ?_⟩
      obtain ⟨s_a39, f_a39⟩ := mk_new (o := .tup [.ref a37, .ref a38]) m_a39
      replace f_a37 := s_a39 _ _ f_a37
      replace f_a38 := s_a39 _ _ f_a38
      refine ⟨show 2 ≤ sizeLine by decide, fun a40 m_a40 => ?_⟩
      obtain ⟨s_a40, f_a40⟩ := mk_new (o := .tup [.int 1, .int 2]) m_a40
      replace f_a37 := s_a40 _ _ f_a37
      replace f_a38 := s_a40 _ _ f_a38
      replace f_a39 := s_a40 _ _ f_a39
      refine ⟨show 1 ≤ sizeLine by decide, fun a41 m_a41 => ?_⟩
      obtain ⟨s_a41, f_a41⟩ := mk_new (o := .tup [.int 3]) m_a41
      replace f_a37 := s_a41 _ _ f_a37
      replace f_a38 := s_a41 _ _ f_a38
      replace f_a39 := s_a41 _ _ f_a39
      replace f_a40 := s_a41 _ _ f_a40
      refine ⟨show 2 ≤ sizeLine by decide, fun a42 m_a42 => ?_⟩
      obtain ⟨s_a42, f_a42⟩ := mk_new (o := .tup [.ref a40, .ref a41]) m_a42
      replace f_a37 := s_a42 _ _ f_a37
      replace f_a38 := s_a42 _ _ f_a38
      replace f_a39 := s_a42 _ _ f_a39
      replace f_a40 := s_a42 _ _ f_a40
      replace f_a41 := s_a42 _ _ f_a41
      refine ⟨.ref a39, .ref a42, [1, 3, 2], rfl, (by rw [show bF [1, 3, 2] = [[1, 2], [3]] by decide +kernel]; exact ⟨a39, [.ref a37, .ref a38], rfl, .of f_a39, ⟨⟨a37, rfl, .of f_a37⟩, ⟨a38, rfl, .of f_a38⟩, trivial⟩⟩), (by rw [show bS [1, 3, 2] = [[1, 2], [3]] by decide +kernel]; exact ⟨a42, [.ref a40, .ref a41], rfl, .of f_a42, ⟨⟨a40, rfl, .of f_a40⟩, ⟨a41, rfl, .of f_a41⟩, trivial⟩⟩), ⟨by decide, by decide, by decide⟩, fun w10 K10 k10 t10 => ?_⟩
      refine ⟨show 3 ≤ sizeLine by decide, fun a43 m_a43 => ?_⟩
      obtain ⟨s_a43, f_a43⟩ := mk_new (o := .tup [.int 1, .int 3, .int 2]) m_a43
      replace t10 := t10.same s_a43
      refine eq_ti t10 (b := [1, 3, 2]) ⟨a43, rfl, .of f_a43⟩ ?_
      rw [decide_eq_true rfl]
      exact k _
end
end Sk

namespace Sk
open PySem L2 Ow
section
variable {K : PySem.W.Frag} {h : Heap} {mg : Str → Option Value} {x qual : Str} {st : Stmt} {f p C T0 : Addr} {oc kV doc pm cdv ct oc2 : Value} {od an od2 : Option Addr} {sl sl2 : Array (Option Value)} {tk n : Nat} {rest : List Value}
theorem mdef_mk (X : K.In h) (G : h.Ns mainGlobals mg) (a : PySem.W.nsIn K mainGlobals x = some (some (.ref f)))
    (l : K.lookup f = some ⟨oc, od, .func (PySem.W.fnOf x x (defArgs st) (defBody st) (defScope st) .none kV doc pm an cdv ct), sl⟩) (c : PySem.W.codeIn K cdv x = true) (k : PySem.W.keepIn K (.ref f) = true) : MDef K mg x st :=
  ⟨f, _, fun_mk l c k, PySem.W.mg_of X G a⟩
theorem gm_mk (a : PySem.W.findIn K (.ref C) x = some (some (.ref f))) (i : PySem.W.isFn K (.ref f) = true)
    (l : K.lookup f = some ⟨oc, od, .func (PySem.W.fnOf x qual (defArgs st) (defBody st) (defScope st) .none kV doc pm an cdv ct), sl⟩) (c : PySem.W.codeIn K cdv qual = true) (k : PySem.W.keepIn K (.ref f) = true) : GM K C x qual st :=
  ⟨f, _, fun_mk l c k, ⟨a, i⟩⟩
theorem gp_mk (a : PySem.W.findIn K (.ref C) x = some (some (.ref p))) (g : PySem.W.specialIn K (.ref p) "__get__" = some (some (.builtin "property.__get__"))) (t : PySem.W.takesIn K (.ref p) = some true) (r : PySem.W.recIn K p "property" = some (.ref f :: rest))
    (l : K.lookup f = some ⟨oc, od, .func (PySem.W.fnOf x qual (defArgs st) (defBody st) (defScope st) .none kV doc pm an cdv ct), sl⟩) (c : PySem.W.codeIn K cdv qual = true) (k : PySem.W.keepIn K (.ref f) = true) : GP K C x qual st :=
  ⟨p, f, _, ⟨a, g, t, rest, r⟩, fun_mk l c k⟩
theorem init_mk {e0 : Addr} {od3 : Option Addr} {sl3 : Array (Option Value)} {n3 : Nat} (mk : PySem.W.makesIn K C = true) (kc : PySem.W.keepIn K (.ref C) = true) (a : PySem.W.findIn K (.ref C) "__init__" = some (some (.ref f))) (i : PySem.W.isFn K (.ref f) = true)
    (l : K.lookup f = some ⟨oc, od, .func (PySem.W.fnOf "__init__" "System.__init__" (defArgs s_init) (defBody s_init) (defScope s_init) (.ref T0) kV doc pm an cdv ct), sl⟩) (c : PySem.W.codeIn K cdv "System.__init__" = true) (k : PySem.W.keepIn K (.ref f) = true)
    (lT : K.lookup T0 = some ⟨oc2, od2, .seq #[.ref e0] n, sl2⟩) (lE : K.lookup e0 = some ⟨.type "tuple", od3, .seq #[] n3, sl3⟩) : ∃ f fd e, Mk K C f ∧ FunD K "__init__" "System.__init__" (defArgs s_init) (defBody s_init) (defScope s_init) [.ref e] [] f fd ∧ ∀ H, SqT K H e [] :=
  ⟨f, _, e0, ⟨mk, a, i, kc⟩, ⟨⟨oc, od, .ref T0, kV, doc, pm, an, cdv, ct, sl, rfl, l, c, .inr ⟨by simp, T0, _, [.ref e0], n, rfl, lT, rfl, .cons rfl .nil⟩, .inl rfl⟩, k⟩, fun H => .inr ⟨_, #[], n3, lE, rfl, rfl, Nat.zero_le _, .nil⟩⟩
theorem cg_mk {g : Addr} (a : PySem.W.findCls K (.ref C) (.type "type") x = some (.get (.builtin "classmethod.__get__") (.ref p) .none (.ref C))) (r : PySem.W.recIn K p "classmethod" = some (.ref g :: rest)) (fi : PySem.W.fnIn K g = true)
    (l : K.lookup g = some ⟨oc, od, .func (PySem.W.fnOf x qual (defArgs st) (defBody st) (defScope st) .none kV doc pm an cdv ct), sl⟩) (c : PySem.W.codeIn K cdv qual = true) (k : PySem.W.keepIn K (.ref g) = true) : CG K C x qual st :=
  ⟨p, g, _, ⟨a, ⟨rest, r⟩, fi⟩, fun_mk l c k⟩
theorem gi_mk {t : Nat} {i : Int} {x : Str} (X : K.In h) (G : h.Ns mainGlobals mg) (a : PySem.W.nsIn K mainGlobals x = some (some (.int i t))) : ∃ u, mg x = some u ∧ RelV (.int i) u := ⟨_, PySem.W.mg_of X G a, ⟨t, rfl⟩⟩
theorem bo_mk {q : Addr} {t0 t1 t2 t3 t4 t5 : Nat} (X : K.In h) (G : h.Ns mainGlobals mg) (a : PySem.W.nsIn K mainGlobals "BONDS" = some (some (.ref q))) (l : K.lookup q = some ⟨.type "tuple", od, .seq #[.int 0 t0, .int 2 t1, .int 3 t2, .int 4 t3, .int 5 t4, .int 6 t5] n, sl⟩) :
    ∃ a, mg "BONDS" = some (.ref a) ∧ ∀ H, SqT K H a [.int 0, .int 2, .int 3, .int 4, .int 5, .int 6] :=
  ⟨q, PySem.W.mg_of X G a, fun H => .inr ⟨_, _, n, l, rfl, rfl, (show 6 ≤ sizeLine by decide), .cons ⟨_, rfl⟩ (.cons ⟨_, rfl⟩ (.cons ⟨_, rfl⟩ (.cons ⟨_, rfl⟩ (.cons ⟨_, rfl⟩ (.cons ⟨_, rfl⟩ .nil)))))⟩⟩
theorem pair_at {a x y : Addr} {w p u q : Int} {t1 t2 t3 t4 n0 n1 n2 : Nat} {d0 d1 d2 : Option Addr} {s0 s1 s2 : Array (Option Value)}
    (l : K.lookup a = some ⟨.type "tuple", d0, .seq #[.ref x, .ref y] n0, s0⟩) (lx : K.lookup x = some ⟨.type "tuple", d1, .seq #[.int w t1, .int p t2] n1, s1⟩) (ly : K.lookup y = some ⟨.type "tuple", d2, .seq #[.int u t3, .int q t4] n2, s2⟩) (H : Hp) : BsAt K H (.ref a) [[w, p], [u, q]] :=
  ⟨a, [.ref x, .ref y], rfl, .inr ⟨_, _, n0, l, rfl, rfl, (show 2 ≤ sizeLine by decide), .cons rfl (.cons rfl .nil)⟩, ⟨x, rfl, .inr ⟨_, _, n1, lx, rfl, rfl, (show 2 ≤ sizeLine by decide), .cons ⟨_, rfl⟩ (.cons ⟨_, rfl⟩ .nil)⟩⟩, ⟨y, rfl, .inr ⟨_, _, n2, ly, rfl, rfl, (show 2 ≤ sizeLine by decide), .cons ⟨_, rfl⟩ (.cons ⟨_, rfl⟩ .nil)⟩⟩, trivial⟩
theorem fac_mk {dd : Addr} {nd : Nat} {a0 x0 y0 a2 x2 y2 a3 x3 y3 a4 x4 y4 a5 x5 y5 a6 x6 y6 : Addr} {na0 nx0 ny0 na2 nx2 ny2 na3 nx3 ny3 na4 nx4 ny4 na5 nx5 ny5 na6 nx6 ny6 : Nat} {da0 dx0 dy0 da2 dx2 dy2 da3 dx3 dy3 da4 dx4 dy4 da5 dx5 dy5 da6 dx6 dy6 : Option Addr} {sla0 slx0 sly0 sla2 slx2 sly2 sla3 slx3 sly3 sla4 slx4 sly4 sla5 slx5 sly5 sla6 slx6 sly6 : Array (Option Value)} {u0 r0 s0 v0 z0 u2 r2 s2 v2 z2 u3 r3 s3 v3 z3 u4 r4 s4 v4 z4 u5 r5 s5 v5 z5 u6 r6 s6 v6 z6 : Nat} (X : K.In h) (G : h.Ns mainGlobals mg) (a : PySem.W.nsIn K mainGlobals "FACTORS" = some (some (.ref dd)))
    (l : K.lookup dd = some ⟨.type "dict", none, .dict #[⟨0, .int 0 u0, .ref a0⟩, ⟨2, .int 2 u2, .ref a2⟩, ⟨3, .int 3 u3, .ref a3⟩, ⟨4, .int 4 u4, .ref a4⟩, ⟨5, .int 5 u5, .ref a5⟩, ⟨6, .int 6 u6, .ref a6⟩] nd, #[]⟩)
    (la0 : K.lookup a0 = some ⟨.type "tuple", da0, .seq #[.ref x0, .ref y0] na0, sla0⟩)
    (lx0 : K.lookup x0 = some ⟨.type "tuple", dx0, .seq #[.int 2 r0, .int 0 s0] nx0, slx0⟩)
    (ly0 : K.lookup y0 = some ⟨.type "tuple", dy0, .seq #[.int 2 v0, .int 0 z0] ny0, sly0⟩)
    (la2 : K.lookup a2 = some ⟨.type "tuple", da2, .seq #[.ref x2, .ref y2] na2, sla2⟩)
    (lx2 : K.lookup x2 = some ⟨.type "tuple", dx2, .seq #[.int 0 r2, .int 0 s2] nx2, slx2⟩)
    (ly2 : K.lookup y2 = some ⟨.type "tuple", dy2, .seq #[.int 0 v2, .int 0 z2] ny2, sly2⟩)
    (la3 : K.lookup a3 = some ⟨.type "tuple", da3, .seq #[.ref x3, .ref y3] na3, sla3⟩)
    (lx3 : K.lookup x3 = some ⟨.type "tuple", dx3, .seq #[.int 1 r3, .int 0 s3] nx3, slx3⟩)
    (ly3 : K.lookup y3 = some ⟨.type "tuple", dy3, .seq #[.int 1 v3, .int 0 z3] ny3, sly3⟩)
    (la4 : K.lookup a4 = some ⟨.type "tuple", da4, .seq #[.ref x4, .ref y4] na4, sla4⟩)
    (lx4 : K.lookup x4 = some ⟨.type "tuple", dx4, .seq #[.int 1 r4, .int 0 s4] nx4, slx4⟩)
    (ly4 : K.lookup y4 = some ⟨.type "tuple", dy4, .seq #[.int 2 v4, .int 0 z4] ny4, sly4⟩)
    (la5 : K.lookup a5 = some ⟨.type "tuple", da5, .seq #[.ref x5, .ref y5] na5, sla5⟩)
    (lx5 : K.lookup x5 = some ⟨.type "tuple", dx5, .seq #[.int 0 r5, .int 1 s5] nx5, slx5⟩)
    (ly5 : K.lookup y5 = some ⟨.type "tuple", dy5, .seq #[.int 0 v5, .int 1 z5] ny5, sly5⟩)
    (la6 : K.lookup a6 = some ⟨.type "tuple", da6, .seq #[.ref x6, .ref y6] na6, sla6⟩)
    (lx6 : K.lookup x6 = some ⟨.type "tuple", dx6, .seq #[.int 1 r6, .int 0 s6] nx6, slx6⟩)
    (ly6 : K.lookup y6 = some ⟨.type "tuple", dy6, .seq #[.int 3 v6, .int 0 z6] ny6, sly6⟩) :
    ∃ d es n, mg "FACTORS" = some (.ref d) ∧ K.lookup d = some ⟨.type "dict", none, .dict es n, #[]⟩ ∧ IntKeys es ∧ ∀ b : Int, (b = 0 ∨ b = 2 ∨ b = 3 ∨ b = 4 ∨ b = 5 ∨ b = 6) → ∃ a, findBy Value.isInt es b = some (.ref a) ∧ ∀ H, BsAt K H (.ref a) (facT b) := by
  refine ⟨dd, _, nd, PySem.W.mg_of X G a, l, fun e he => ?_, fun b hb => ?_⟩
  · simp at he
    rcases he with rfl | rfl | rfl | rfl | rfl | rfl
    · exact ⟨0, _, rfl, (by decide : (0 : Int) = hashInt 0)⟩
    · exact ⟨2, _, rfl, (by decide : (2 : Int) = hashInt 2)⟩
    · exact ⟨3, _, rfl, (by decide : (3 : Int) = hashInt 3)⟩
    · exact ⟨4, _, rfl, (by decide : (4 : Int) = hashInt 4)⟩
    · exact ⟨5, _, rfl, (by decide : (5 : Int) = hashInt 5)⟩
    · exact ⟨6, _, rfl, (by decide : (6 : Int) = hashInt 6)⟩
  · rcases hb with rfl | rfl | rfl | rfl | rfl | rfl
    · exact ⟨a0, by simp [findBy, Value.isInt], pair_at la0 lx0 ly0⟩
    · exact ⟨a2, by simp [findBy, Value.isInt], pair_at la2 lx2 ly2⟩
    · exact ⟨a3, by simp [findBy, Value.isInt], pair_at la3 lx3 ly3⟩
    · exact ⟨a4, by simp [findBy, Value.isInt], pair_at la4 lx4 ly4⟩
    · exact ⟨a5, by simp [findBy, Value.isInt], pair_at la5 lx5 ly5⟩
    · exact ⟨a6, by simp [findBy, Value.isInt], pair_at la6 lx6 ly6⟩
theorem end_mk {l : PySem.W.OpenLaw} {w : World} {fa : Addr} (X : K.In h) (G : h.Ns mainGlobals mg) (hfa : mg "law" = some (.ref fa)) (T : Txt K mg C) (a : PySem.W.nsIn K mainGlobals "law" = some (some (.ref f)))
    (l1 : K.lookup f = some ⟨oc, od, .func (PySem.W.fnOf "law" "law" (defArgs s_law) (defBody s_law) (defScope s_law) .none kV doc pm an cdv ct), sl⟩) (c : PySem.W.codeIn K cdv "law" = true) (k : PySem.W.keepIn K (.ref f) = true) :
    ∃ fd : FuncData, (∀ (s : Shared) (v : Value), BindsTo s fd ⟨[v], []⟩ [("_law_script", v)]) ∧ ∀ base : Heap, K.In base → base.Ns mainGlobals mg → FnOk l.prog w K mg base CX0 11 fa fd ["_law_script"] (spLaw K) := by
  have e := hfa.symm.trans (PySem.W.mg_of X G a)
  cases e
  exact ⟨PySem.W.fnOf "law" "law" (defArgs s_law) (defBody s_law) (defScope s_law) .none kV doc pm an cdv ct, fun s v => .of_eq rfl, fun base _ _ => ok_law T (fun_mk (st := s_law) l1 c k)⟩
end
theorem walkEnd {l : PySem.W.OpenLaw} {q : Program} {loose : List Str} {XP : (Str → Option Value) → Heap → Prop} {YP : World → Heap → Prop} {d : DefRec} {K : Params → PySem.W.Frag} (hn : l.most = some 63) (hdf : d.params.defaults = [])
    (hY : ∀ (w : World) (h : Heap), YP w h → (K w.params).In h)
    (F : ∀ (w : World) (mg : Str → Option Value) (fa : Addr) (h : Heap), (K w.params).In h → h.Ns mainGlobals mg → mg d.name = some (.ref fa) →
      ∃ fd : FuncData, (∀ (s : Shared) (u : Value), BindsTo s fd ⟨[u], []⟩ [("_law_script", u)]) ∧ ∀ base : Heap, (K w.params).In base → base.Ns mainGlobals mg → FnOk l.prog w (K w.params) mg base CX0 11 fa fd ["_law_script"] (spLaw (K w.params))) :
    PySem.W.WalkO q loose XP YP l.row.toRowW d [] (fun f vs => PySem.call f vs) :=
  L2.walk_of (n := 63) (k := 11) (x := "_law_script") (CX := fun _ => CX0) (sp := fun w => spLaw (K w.params)) hn (by decide) hdf ⟨rfl, by decide, by decide⟩ hY F (fun _ _ a ns hl _ hS => ⟨a, ns, rfl, hS, hl, fun _ => rfl⟩) fun _ _ _ _ _ z => z
end Sk

open PySem PySem.W PyProof.Rows in
set_option maxRecDepth 100000 in
set_option maxHeartbeats 0 in
theorem PySem.Challenge.cw_underwords_k67_whole_bumped_tables_holds : PySem.Challenge.rw_underwords_k67_whole_bumped_tables.Holds := by
  w_on; o_law; k_head; (case hw => w_witness2)
  k_fill
  refine Sk.walkEnd (l := PySem.Challenge.rw_underwords_k67_whole_bumped_tables) rfl rfl (fun w h Y => PySem.W.kIn_of Y) ?F
  case F =>
    intro w mg fa h KX G hmg
    refine' Sk.end_mk KX G hmg (C := _) ?T ?a ?l ?c ?k
    (case a => k_is)
    (case l => k_is)
    (case c => k_is)
    (case k => k_is)
    case T =>
      refine' { cl := ⟨?pg, ?hd, ?po, ?sa⟩, ic := ⟨⟨?pg2, ?hd2, ?po2, ?sa2⟩, ?ha, ?hn, ?htk, ?hm, if_pos (beq_self_eq_true _)⟩, mgSystem := PySem.W.mg_of KX G ?gG, nL := ?nL, nB := ?nB, mkS := ?mkS, gB := ?gB, gF := ?gF, crd := ⟨?rd, ?ga⟩, cRows := ?cRows, pL := ?pL, mBond := ?mBond, cSigned := ?cSigned, g_MAX_LETTERS := ?g_MAX_LETTERS, g_LONGEST_WORD := ?g_LONGEST_WORD, g_MOST_PLACES := ?g_MOST_PLACES, d_is_within := ?d_is_within, d_neighbours := ?d_neighbours, d_are_bonds := ?d_are_bonds, d_is_triple := ?d_is_triple, d_is_letter := ?d_is_letter, d_is_word := ?d_is_word, d_check_system := ?d_check_system, d_check_word := ?d_check_word, d_check_words := ?d_check_words, d_sense_of := ?d_sense_of, d_factor := ?d_factor, d_other_letters := ?d_other_letters, d_triples_from := ?d_triples_from, d_without_zeros := ?d_without_zeros, d_is_below := ?d_is_below, d_links_of := ?d_links_of, d_first_state := ?d_first_state, d_put_ahead := ?d_put_ahead, d_word_ahead := ?d_word_ahead, d_state_of := ?d_state_of, d_left_of := ?d_left_of, d_normal_of := ?d_normal_of, d_normal_word := ?d_normal_word, d_word_of := ?d_word_of, d_is_row := ?d_is_row, d_are_entries := ?d_are_entries, d_check_row := ?d_check_row, d_falls_of := ?d_falls_of, d_bumped := ?d_bumped, d_row_of_tables := ?d_row_of_tables, d_is_table := ?d_is_table, d_put_in := ?d_put_in, d_taken_out := ?d_taken_out, d_shape_of := ?d_shape_of, d_size_of := ?d_size_of, d_is_ascending := ?d_is_ascending, d_as_tuples := ?d_as_tuples, d_left_letters := ?d_left_letters, d_right_letters := ?d_right_letters, d_l_vat := ?d_l_vat, d_l_sip := ?d_l_sip, d_l_some_row := ?d_l_some_row, d_l_bumped := ?d_l_bumped, d_l_undone := ?d_l_undone, d_l_line := ?d_l_line, d_l_lower := ?d_l_lower, d_l_right := ?d_l_right, b_list := ?b_list, b_sorted := ?b_sorted, b_isinstance := ?b_isinstance, b_int := ?b_int, b_bool := ?b_bool, b_tuple := ?b_tuple, b_len := ?b_len, b_abs := ?b_abs, b_max := ?b_max, b_min := ?b_min, b_sum := ?b_sum, b_all := ?b_all, b_zip := ?b_zip, b_range := ?b_range, b_enumerate := ?b_enumerate }
      (case gG => k_is)
      (case pg => k_is)
      (case hd => k_is)
      (case po => k_is)
      (case sa => k_is)
      (case pg2 => k_is)
      (case hd2 => k_is)
      (case po2 => k_is)
      (case sa2 => k_is)
      (case ha => k_is)
      (case hn => k_is)
      (case htk => k_is)
      (case hm => k_is)
      (case rd => k_is)
      (case ga => k_is)
      (case nL => ((show PySem.W.findIn _ _ "_letters" = some none); k_is))
      (case nB => ((show PySem.W.findIn _ _ "_bonds" = some none); k_is))
      (case mkS => (refine' Sk.init_mk ?q1 ?q2 ?q3 ?q4 ?q5 ?q6 ?q7 ?q8 ?q9; (case q1 => k_is); (case q2 => k_is); (case q3 => k_is); (case q4 => k_is); (case q5 => k_is); (case q6 => k_is); (case q7 => k_is); (case q8 => k_is); (case q9 => k_is)))
      (case gB => (refine' Sk.bo_mk KX G ?q1 ?q2; (case q1 => k_is); (case q2 => k_is)))
      (case gF => (refine' Sk.fac_mk KX G ?q1 ?q2 ?q3 ?q4 ?q5 ?q6 ?q7 ?q8 ?q9 ?q10 ?q11 ?q12 ?q13 ?q14 ?q15 ?q16 ?q17 ?q18 ?q19 ?q20; (case q1 => k_is); (case q2 => k_is); (case q3 => k_is); (case q4 => k_is); (case q5 => k_is); (case q6 => k_is); (case q7 => k_is); (case q8 => k_is); (case q9 => k_is); (case q10 => k_is); (case q11 => k_is); (case q12 => k_is); (case q13 => k_is); (case q14 => k_is); (case q15 => k_is); (case q16 => k_is); (case q17 => k_is); (case q18 => k_is); (case q19 => k_is); (case q20 => k_is)))
      (case cRows => (refine' Sk.cg_mk ?q1 ?q2 ?q3 ?q4 ?q5 ?q6; (case q1 => k_is); (case q2 => k_is); (case q3 => k_is); (case q4 => k_is); (case q5 => k_is); (case q6 => k_is)))
      (case pL => (refine' Sk.gp_mk ?q1 ?q2 ?q3 ?q4 ?q5 ?q6 ?q7; (case q1 => k_is); (case q2 => k_is); (case q3 => k_is); (case q4 => k_is); (case q5 => k_is); (case q6 => k_is); (case q7 => k_is)))
      (case mBond => (refine' Sk.gm_mk ?q1 ?q2 ?q3 ?q4 ?q5; (case q1 => k_is); (case q2 => k_is); (case q3 => k_is); (case q4 => k_is); (case q5 => k_is)))
      (case cSigned => (refine' Sk.cg_mk ?q1 ?q2 ?q3 ?q4 ?q5 ?q6; (case q1 => k_is); (case q2 => k_is); (case q3 => k_is); (case q4 => k_is); (case q5 => k_is); (case q6 => k_is)))
      (case g_MAX_LETTERS => (refine' Sk.gi_mk KX G ?q1; (case q1 => k_is)))
      (case g_LONGEST_WORD => (refine' Sk.gi_mk KX G ?q1; (case q1 => k_is)))
      (case g_MOST_PLACES => (refine' Sk.gi_mk KX G ?q1; (case q1 => k_is)))
      (case d_is_within => (refine' Sk.mdef_mk KX G ?q1 ?q2 ?q3 ?q4; (case q1 => k_is); (case q2 => k_is); (case q3 => k_is); (case q4 => k_is)))
      (case d_neighbours => (refine' Sk.mdef_mk KX G ?q1 ?q2 ?q3 ?q4; (case q1 => k_is); (case q2 => k_is); (case q3 => k_is); (case q4 => k_is)))
      (case d_are_bonds => (refine' Sk.mdef_mk KX G ?q1 ?q2 ?q3 ?q4; (case q1 => k_is); (case q2 => k_is); (case q3 => k_is); (case q4 => k_is)))
      (case d_is_triple => (refine' Sk.mdef_mk KX G ?q1 ?q2 ?q3 ?q4; (case q1 => k_is); (case q2 => k_is); (case q3 => k_is); (case q4 => k_is)))
      (case d_is_letter => (refine' Sk.mdef_mk KX G ?q1 ?q2 ?q3 ?q4; (case q1 => k_is); (case q2 => k_is); (case q3 => k_is); (case q4 => k_is)))
      (case d_is_word => (refine' Sk.mdef_mk KX G ?q1 ?q2 ?q3 ?q4; (case q1 => k_is); (case q2 => k_is); (case q3 => k_is); (case q4 => k_is)))
      (case d_check_system => (refine' Sk.mdef_mk KX G ?q1 ?q2 ?q3 ?q4; (case q1 => k_is); (case q2 => k_is); (case q3 => k_is); (case q4 => k_is)))
      (case d_check_word => (refine' Sk.mdef_mk KX G ?q1 ?q2 ?q3 ?q4; (case q1 => k_is); (case q2 => k_is); (case q3 => k_is); (case q4 => k_is)))
      (case d_check_words => (refine' Sk.mdef_mk KX G ?q1 ?q2 ?q3 ?q4; (case q1 => k_is); (case q2 => k_is); (case q3 => k_is); (case q4 => k_is)))
      (case d_sense_of => (refine' Sk.mdef_mk KX G ?q1 ?q2 ?q3 ?q4; (case q1 => k_is); (case q2 => k_is); (case q3 => k_is); (case q4 => k_is)))
      (case d_factor => (refine' Sk.mdef_mk KX G ?q1 ?q2 ?q3 ?q4; (case q1 => k_is); (case q2 => k_is); (case q3 => k_is); (case q4 => k_is)))
      (case d_other_letters => (refine' Sk.mdef_mk KX G ?q1 ?q2 ?q3 ?q4; (case q1 => k_is); (case q2 => k_is); (case q3 => k_is); (case q4 => k_is)))
      (case d_triples_from => (refine' Sk.mdef_mk KX G ?q1 ?q2 ?q3 ?q4; (case q1 => k_is); (case q2 => k_is); (case q3 => k_is); (case q4 => k_is)))
      (case d_without_zeros => (refine' Sk.mdef_mk KX G ?q1 ?q2 ?q3 ?q4; (case q1 => k_is); (case q2 => k_is); (case q3 => k_is); (case q4 => k_is)))
      (case d_is_below => (refine' Sk.mdef_mk KX G ?q1 ?q2 ?q3 ?q4; (case q1 => k_is); (case q2 => k_is); (case q3 => k_is); (case q4 => k_is)))
      (case d_links_of => (refine' Sk.mdef_mk KX G ?q1 ?q2 ?q3 ?q4; (case q1 => k_is); (case q2 => k_is); (case q3 => k_is); (case q4 => k_is)))
      (case d_first_state => (refine' Sk.mdef_mk KX G ?q1 ?q2 ?q3 ?q4; (case q1 => k_is); (case q2 => k_is); (case q3 => k_is); (case q4 => k_is)))
      (case d_put_ahead => (refine' Sk.mdef_mk KX G ?q1 ?q2 ?q3 ?q4; (case q1 => k_is); (case q2 => k_is); (case q3 => k_is); (case q4 => k_is)))
      (case d_word_ahead => (refine' Sk.mdef_mk KX G ?q1 ?q2 ?q3 ?q4; (case q1 => k_is); (case q2 => k_is); (case q3 => k_is); (case q4 => k_is)))
      (case d_state_of => (refine' Sk.mdef_mk KX G ?q1 ?q2 ?q3 ?q4; (case q1 => k_is); (case q2 => k_is); (case q3 => k_is); (case q4 => k_is)))
      (case d_left_of => (refine' Sk.mdef_mk KX G ?q1 ?q2 ?q3 ?q4; (case q1 => k_is); (case q2 => k_is); (case q3 => k_is); (case q4 => k_is)))
      (case d_normal_of => (refine' Sk.mdef_mk KX G ?q1 ?q2 ?q3 ?q4; (case q1 => k_is); (case q2 => k_is); (case q3 => k_is); (case q4 => k_is)))
      (case d_normal_word => (refine' Sk.mdef_mk KX G ?q1 ?q2 ?q3 ?q4; (case q1 => k_is); (case q2 => k_is); (case q3 => k_is); (case q4 => k_is)))
      (case d_word_of => (refine' Sk.mdef_mk KX G ?q1 ?q2 ?q3 ?q4; (case q1 => k_is); (case q2 => k_is); (case q3 => k_is); (case q4 => k_is)))
      (case d_is_row => (refine' Sk.mdef_mk KX G ?q1 ?q2 ?q3 ?q4; (case q1 => k_is); (case q2 => k_is); (case q3 => k_is); (case q4 => k_is)))
      (case d_are_entries => (refine' Sk.mdef_mk KX G ?q1 ?q2 ?q3 ?q4; (case q1 => k_is); (case q2 => k_is); (case q3 => k_is); (case q4 => k_is)))
      (case d_check_row => (refine' Sk.mdef_mk KX G ?q1 ?q2 ?q3 ?q4; (case q1 => k_is); (case q2 => k_is); (case q3 => k_is); (case q4 => k_is)))
      (case d_falls_of => (refine' Sk.mdef_mk KX G ?q1 ?q2 ?q3 ?q4; (case q1 => k_is); (case q2 => k_is); (case q3 => k_is); (case q4 => k_is)))
      (case d_bumped => (refine' Sk.mdef_mk KX G ?q1 ?q2 ?q3 ?q4; (case q1 => k_is); (case q2 => k_is); (case q3 => k_is); (case q4 => k_is)))
      (case d_row_of_tables => (refine' Sk.mdef_mk KX G ?q1 ?q2 ?q3 ?q4; (case q1 => k_is); (case q2 => k_is); (case q3 => k_is); (case q4 => k_is)))
      (case d_is_table => (refine' Sk.mdef_mk KX G ?q1 ?q2 ?q3 ?q4; (case q1 => k_is); (case q2 => k_is); (case q3 => k_is); (case q4 => k_is)))
      (case d_put_in => (refine' Sk.mdef_mk KX G ?q1 ?q2 ?q3 ?q4; (case q1 => k_is); (case q2 => k_is); (case q3 => k_is); (case q4 => k_is)))
      (case d_taken_out => (refine' Sk.mdef_mk KX G ?q1 ?q2 ?q3 ?q4; (case q1 => k_is); (case q2 => k_is); (case q3 => k_is); (case q4 => k_is)))
      (case d_shape_of => (refine' Sk.mdef_mk KX G ?q1 ?q2 ?q3 ?q4; (case q1 => k_is); (case q2 => k_is); (case q3 => k_is); (case q4 => k_is)))
      (case d_size_of => (refine' Sk.mdef_mk KX G ?q1 ?q2 ?q3 ?q4; (case q1 => k_is); (case q2 => k_is); (case q3 => k_is); (case q4 => k_is)))
      (case d_is_ascending => (refine' Sk.mdef_mk KX G ?q1 ?q2 ?q3 ?q4; (case q1 => k_is); (case q2 => k_is); (case q3 => k_is); (case q4 => k_is)))
      (case d_as_tuples => (refine' Sk.mdef_mk KX G ?q1 ?q2 ?q3 ?q4; (case q1 => k_is); (case q2 => k_is); (case q3 => k_is); (case q4 => k_is)))
      (case d_left_letters => (refine' Sk.mdef_mk KX G ?q1 ?q2 ?q3 ?q4; (case q1 => k_is); (case q2 => k_is); (case q3 => k_is); (case q4 => k_is)))
      (case d_right_letters => (refine' Sk.mdef_mk KX G ?q1 ?q2 ?q3 ?q4; (case q1 => k_is); (case q2 => k_is); (case q3 => k_is); (case q4 => k_is)))
      (case d_l_vat => (refine' Sk.mdef_mk KX G ?q1 ?q2 ?q3 ?q4; (case q1 => k_is); (case q2 => k_is); (case q3 => k_is); (case q4 => k_is)))
      (case d_l_sip => (refine' Sk.mdef_mk KX G ?q1 ?q2 ?q3 ?q4; (case q1 => k_is); (case q2 => k_is); (case q3 => k_is); (case q4 => k_is)))
      (case d_l_some_row => (refine' Sk.mdef_mk KX G ?q1 ?q2 ?q3 ?q4; (case q1 => k_is); (case q2 => k_is); (case q3 => k_is); (case q4 => k_is)))
      (case d_l_bumped => (refine' Sk.mdef_mk KX G ?q1 ?q2 ?q3 ?q4; (case q1 => k_is); (case q2 => k_is); (case q3 => k_is); (case q4 => k_is)))
      (case d_l_undone => (refine' Sk.mdef_mk KX G ?q1 ?q2 ?q3 ?q4; (case q1 => k_is); (case q2 => k_is); (case q3 => k_is); (case q4 => k_is)))
      (case d_l_line => (refine' Sk.mdef_mk KX G ?q1 ?q2 ?q3 ?q4; (case q1 => k_is); (case q2 => k_is); (case q3 => k_is); (case q4 => k_is)))
      (case d_l_lower => (refine' Sk.mdef_mk KX G ?q1 ?q2 ?q3 ?q4; (case q1 => k_is); (case q2 => k_is); (case q3 => k_is); (case q4 => k_is)))
      (case d_l_right => (refine' Sk.mdef_mk KX G ?q1 ?q2 ?q3 ?q4; (case q1 => k_is); (case q2 => k_is); (case q3 => k_is); (case q4 => k_is)))
      (case b_list => exact PySem.W.mg_none_of KX G (by k_is))
      (case b_sorted => exact PySem.W.mg_none_of KX G (by k_is))
      (case b_isinstance => exact PySem.W.mg_none_of KX G (by k_is))
      (case b_int => exact PySem.W.mg_none_of KX G (by k_is))
      (case b_bool => exact PySem.W.mg_none_of KX G (by k_is))
      (case b_tuple => exact PySem.W.mg_none_of KX G (by k_is))
      (case b_len => exact PySem.W.mg_none_of KX G (by k_is))
      (case b_abs => exact PySem.W.mg_none_of KX G (by k_is))
      (case b_max => exact PySem.W.mg_none_of KX G (by k_is))
      (case b_min => exact PySem.W.mg_none_of KX G (by k_is))
      (case b_sum => exact PySem.W.mg_none_of KX G (by k_is))
      (case b_all => exact PySem.W.mg_none_of KX G (by k_is))
      (case b_zip => exact PySem.W.mg_none_of KX G (by k_is))
      (case b_range => exact PySem.W.mg_none_of KX G (by k_is))
      (case b_enumerate => exact PySem.W.mg_none_of KX G (by k_is))
