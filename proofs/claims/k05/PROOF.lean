import PyProof.Rows.All
import Wide.All
import OpenK.AllK
import Wide.FinOn
import HandS.ForMost
import HandS.OwnEq
import HandS.Property
import HandS.Defaults
import HandS.IsInst
import HandS.Codes
import HandS.Wide
import HandS.Flow
import HandS.SetFor
import HandS.Style
import PyProof.InstNe
import HandS.FStr
import HandS.Star
import HandS.Deep
import HandS.Zip
import HandS.Walk
import HandS.ClsMeth
import PySem.Challenge.RW_underwords_k05_whole_systems_told
set_option Elab.async false
set_option maxRecDepth 100000
set_option maxHeartbeats 8000000
namespace Ow
open PySem PySem.Spec PyProof.Rows
open PySem.W (findIn isFn InstAt looks_findIn special_fn ifBound_K truthy_K CmpBack BoolBack)
section
variable {prog : Program} {w : World} {A : Around} {E : Value → Shared → Prop} {s : Shared} {K : PySem.W.Frag} {x y C f : Addr} {ox : Obj} {od : Option Obj}
/-- object's own unequal, over the text's equal -/
theorem objNe (X : K.In s.heap) (I : InstAt s.heap x ox C od) (hs : findIn K (.ref C) "__eq__" = some (some (.ref f))) (hf : isFn K (.ref f) = true) (hu : A.units < cLine) {Q : Fin → Shared → Prop}
    (hc : wpAny (model prog w) A (call (.ref f) [.ref x, .ref y]) (fun v s' => ∃ b, v = .bool b ∧ Q (.done (.ret (.bool (!b)))) s') E s) :
    wpAny (model prog w) A (Builtin.«object.__ne__» ⟨[.ref x, .ref y], []⟩) Q E s := by
  obtain ⟨hp, g, d, tk, os⟩ := s
  unfold Builtin.«object.__ne__»
  repeat (first
    | with_reducible refine wpAny_cRoomFor hu ?_
    | (refine wpAny_bind (m := callSpecialIfBound? (.ref x) (Str.ofString "__eq__") [.ref y])
        (ifBound_K X I hs hf (wpAny_mono hc (fun r s' hr => by
          obtain ⟨b, rfl, hq⟩ := hr
          repeat (first | exact hq | exact wpAny_pure hq | exact wpAny_truthy_bool hq | (refine wpAny_bind (m := truthy (.bool _)) (wpAny_truthy_bool ?_)) | wp_step)) fun _ _ e => e)))
    | wp_step)
theorem tryNe (X : K.In s.heap) (I : InstAt s.heap x ox C od) (hn : findIn K (.ref C) "__ne__" = some (some (.builtin "object.__ne__"))) (hs : findIn K (.ref C) "__eq__" = some (some (.ref f))) (hf : isFn K (.ref f) = true)
    (hb : PySem.W.mroIn K C (.type "object") = some true) (hu : A.units + 1 < cLine) {Q : Option Value → Shared → Prop}
    (hc : wpAny (model prog w) A.in1 (call (.ref f) [.ref x, .ref y]) (fun v s' => ∃ b, v = .bool b ∧ Q (some (.bool (!b))) s') E s) :
    wpAny (model prog w) A (tryCompare (.ref x) "__ne__" (.ref y)) Q E s := by
  simp only [tryCompare]
  have hcall : wpAny (model prog w) A (call (.builtin "object.__ne__") (.ref x :: [.ref y])) (fun v s' => ∃ b, v = .bool b ∧ Q (some (.bool b)) s') E s := by
    refine wpAny_call (codeAny_call_builtin PySem.F.cmp_object.ne.plain PySem.F.cmpEntry_ne ?_)
    refine PySem.W.check_slot PySem.F.cmpKind_ne PySem.F.cmpSplit_ne ?_ (PySem.F.cmpArgs_ne _ _) ?_
    · exact I.type.andThen (PySem.W.looks_mroIn X hb)
    · refine objNe (A := A.in1) X I hs hf hu (wpAny_mono hc (fun v s' hv => ?_) fun _ _ e => e)
      obtain ⟨b, rfl, hq⟩ := hv
      exact ⟨b, rfl, ⟨_, rfl, hq⟩⟩
  refine wpAny_bind ?_
  simp only [callSpecialIfBound?, bindSpecialIfBound?]
  refine wpAny_holding (wpAny_bind (wpAny_bind (wpAny_bind (I.type.here ((looks_findIn X hn).here ?_)))))
  simp only [PySem.F.cmp_object.ne.bind]
  refine wpAny_bind (wpAny_askSetting (wpAny_ite ?_))
  have fin : wpAny (model prog w) A (call (.builtin "object.__ne__") ([.ref x] ++ [.ref y]) >>= fun v => pure (some v)) (fun r s' => ∃ b, r = some (.bool b) ∧ Q (some (.bool b)) s') E s :=
    wpAny_bind (wpAny_mono hcall (fun v s' ⟨b, e, q⟩ => wpAny_pure ⟨b, by rw [e], q⟩) fun _ _ h' => h')
  have fin2 : wpAny (model prog w) A (call (.builtin "object.__ne__") ([.ref x] ++ [.ref y]) >>= fun v => pure (some v)) (fun a s' => wpAny (model prog w) A (match a with | some Value.notImplemented => pure none | none => pure none | some r => pure (some r)) Q E s') E s :=
    wpAny_mono fin (fun r s' ⟨b, e, q⟩ => by rw [e]; exact wpAny_pure q) fun _ _ h' => h'
  split
  · exact wpAny_bind (wpAny_pure (wpAny_pure fin2))
  · exact wpAny_tryCatch (wpAny_bind (wpAny_pure (wpAny_pure fin2)))
theorem neq_own (X : K.In s.heap) (I : InstAt s.heap x ox C od) {oy : Obj} {ody : Option Obj} (J : InstAt s.heap y oy C ody) (hn : findIn K (.ref C) "__ne__" = some (some (.builtin "object.__ne__"))) (hs : findIn K (.ref C) "__eq__" = some (some (.ref f))) (hf : isFn K (.ref f) = true)
    (hb : PySem.W.mroIn K C (.type "object") = some true) (hu : A.units + 1 < cLine) {Q : Value → Shared → Prop}
    (hc : wpAny (model prog w) A.in1 (call (.ref f) [.ref x, .ref y]) (fun v s' => ∃ b, v = .bool b ∧ Q (.bool (!b)) s') E s) :
    wpAny (model prog w) A (compareOp .NotEq (.ref x) (.ref y)) Q E s := by
  unfold compareOp richCompare
  simp only [oneThing_ref]
  refine wpAny_holding ?_
  refine wpAny_bind (wpAny_cRoomFor (Nat.lt_of_succ_lt hu) ?_)
  rw [cmpInfo_NotEq]
  dsimp only
  refine wpAny_bind (I.type.here (wpAny_bind (J.type.here ?_)))
  rw [show (Value.ref C != Value.ref C) = false from by simp]
  simp only [Bool.false_eq_true, if_false]
  refine wpAny_bind (wpAny_pure ?_)
  simp only [Bool.false_eq_true, if_false]
  refine wpAny_bind (tryNe X I hn hs hf hb hu (wpAny_mono hc (fun v s' hv => ?_) fun _ _ e => e))
  obtain ⟨b, rfl, hq⟩ := hv
  exact ⟨b, rfl, wpAny_pure hq⟩
/-- bool(x) by an own __bool__ -/
theorem bool_own (X : K.In s.heap) (I : InstAt s.heap x ox C od) (hs : findIn K (.ref C) "__bool__" = some (some (.ref f))) (hf : isFn K (.ref f) = true) {Q : Value → Shared → Prop}
    (h : wpAny (model prog w) A.in1.in1 (call (.ref f) [.ref x]) (fun v s' => ∃ b, v = .bool b ∧ Q (.bool b) s') E s) : wpAny (model prog w) A (call (.type "bool") [.ref x]) Q E s := by
  refine callType_codes (T := "bool") (Bi := Builtin.«object.__init__») (Q₁ := fun r s₁ => ∃ b, r = Value.bool b ∧ Q r s₁) PySem.F.called_bool (PySem.F.typeCall_bool_1 _) PySem.F.entry_object_init ?_ ?_
  · refine codeAny_of_tree ?_
    show wpAny _ A.in1.in1 (do checkBuiltinCall "bool.__new__" ⟨[.type "bool", .ref x], []⟩; again (.builtin "bool.__new__" ⟨[.type "bool", .ref x], []⟩)) _ _ s
    refine wpAny_bind (wpAny_of_eq (PySem.F.newCall_bool_1 _) (wpAny_pure ⟨plainId_quiet (by decide +kernel) _, codeAny_builtin PySem.F.entry_bool_new ?_⟩))
    rw [Around.under_plainId (by decide +kernel) _]
    unfold Builtin.«bool.__new__»
    refine wpAny_bind (wpAny_of_eq (a := true) (by kernel_rfl) ?_)
    refine PySem.W.KFB.if_not rfl ?_
    refine wpAny_bind (wpAny_of_eq (a := true) PySem.F.conv_sub_bool ?_)
    refine PySem.W.KFB.if_not rfl ?_
    refine wpAny_bind (wpAny_of_eq (a := [.ref x]) rfl ?_)
    refine wpAny_bind ?_
    unfold truthy
    refine wpAny_bind (m := callSpecial? (.ref x) (Str.ofString "__bool__")) (special_fn X I hs (beq_iff_eq.mp hf) (wpAny_mono h (fun r s' hr => ?_) fun _ _ y => y))
    obtain ⟨b, rfl, hq⟩ := hr
    exact wpAny_pure (wpAny_pure ⟨b, rfl, hq⟩)
  · rintro obj s₁ ⟨b, rfl, hq⟩
    exact ⟨PySem.typeIs_bool _ _, PySem.F.args_object_init_2 _ _, object_init_meets PySem.F.called_bool.init.lookup PySem.F.called_bool.made (by decide) prog w A.in1 _ s₁ ⟨PySem.typeIs_bool _ _, rfl, hq⟩⟩
end
end Ow

namespace Ow
open PySem PySem.Spec PyProof.Rows L2
/-- the class at C as these rules want it -/
structure OCls (K : PySem.W.Frag) (C : Addr) : Prop where
  first : PySem.W.selfFirst K C = true
  ob : PySem.W.mroIn K C (.type "object") = some true
  ne : PySem.W.findIn K (.ref C) "__ne__" = some (some (.builtin "object.__ne__"))
  nf : PySem.W.notFirst K C (.ref C) = true
/-- a method at f under the name m -/
structure OM (K : PySem.W.Frag) (C : Addr) (m : Str) (f : Addr) : Prop where
  at_ : PySem.W.findIn K (.ref C) m = some (some (.ref f))
  fn : PySem.W.isFn K (.ref f) = true
section
variable {X : Cx} {CX : CXT} {C f : Addr} {n : Nat} {fd : FuncData} {ps : List Str} {sp : Sp} {E : XK}
theorem cback {P : Value → Shared → Prop} {z : V} {v : Value} {s' : Shared} (r : RelV z v) (h : P v s') : PySem.W.CmpBack P v s' := by
  cases z <;> first | (obtain ⟨t, e⟩ := r; subst e; exact h) | (have e := r; simp only [L2.RelV] at e; subst e; exact h)
/-- the called def, some level below -/
theorem run_in {pins : List (Addr × Obj)} {σ : L2.St} {H : Hp} {s : Shared} {A : Around} {Q : VK} {us : List Value} {ws : List V} (F : FnOk X.prog X.w X.K X.mg X.base CX n f fd ps sp) (hr : Room n A) (e0 : Env0 X.prog X.w X.K X.mg X.base A X.stack s H)
    (hb : Binds X.K fd ps []) (hx : Passes CX X E) (I : Inv X pins σ H s) (r : Vals ws us) (h : sp ws H Q E) : wpAny (model X.prog X.w) A (call (.ref f) us) (EP X pins σ Q) X.xe s := by
  have hl : us.length = ps.length := by rw [← r.length]; exact F.len _ _ _ _ h
  have hb2 := hb s us I.kIn (by simpa using hl)
  simp only [List.append_nil] at hb2
  refine wpAny_call (codeAny_mono (F.run A X.stack s H ⟨us, []⟩ us ws Q E hr e0 hb2 r h) fun r s' hq => ?_)
  cases r with
  | error e => exact hx pins σ H s e s' I hq
  | ok fl =>
    cases fl with
    | ret u => exact I.after hq
    | next => exact False.elim hq
    | brk => exact False.elim hq
    | cont => exact False.elim hq
/-- x op y of two instances of one class -/
def rBin (C : Addr) (sp : Sp) (E : XK) : R2 := fun x y H Q => ∃ a b dx fs dy gs, x = .ref a ∧ y = .ref b ∧ H a = some (.ins C dx fs) ∧ H b = some (.ins C dy gs) ∧ sp [.ref a, .ref b] H Q E
theorem op_bin {op : Operator} (oc : OCls X.K C) (om : OM X.K C (PySem.dunder op.info.2) f) (F : FnOk X.prog X.w X.K X.mg X.base CX n f fd ps sp) (hr : Room n X.A) (hb : Binds X.K fd ps []) (hx : Passes CX X E) :
    OpR X (binaryOp op) (rBin C sp E) := by
  intro pins s σ H x y v u Q I rx ry h
  obtain ⟨a, b, dx, fs, dy, gs, rfl, rfl, ha, hb', q⟩ := h
  cases rx
  cases ry
  obtain ⟨mA, J, _⟩ := ins_get I.hok ha
  obtain ⟨mB, J', _⟩ := ins_get I.hok hb'
  obtain ⟨od, J, _⟩ := J.look
  obtain ⟨od', J', _⟩ := J'.look
  obtain ⟨m, hF⟩ := I.fr
  refine PySem.W.binop_K hF I.ok.mod.kin J J'.type oc.first om.at_ om.fn ?_
  refine wpAny_mono (run_in (us := [.ref a, .ref b]) (ws := [.ref a, .ref b]) F hr I.env0 hb hx I (.cons rfl (.cons rfl .nil)) q) (fun w s' ⟨z, H', I', rz, qz⟩ => cback rz ⟨z, H', I', rz, qz⟩) fun _ _ e => e
/-- x == y -/
theorem op_eqO (oc : OCls X.K C) (om : OM X.K C "__eq__" f) (F : FnOk X.prog X.w X.K X.mg X.base CX n f fd ps sp) (hr : Room n X.A) (hb : Binds X.K fd ps []) (hx : Passes CX X E) : OpR X (compareOp .Eq) (rBin C sp E) := by
  intro pins s σ H x y v u Q I rx ry h
  obtain ⟨a, b, dx, fs, dy, gs, rfl, rfl, ha, hb', q⟩ := h
  cases rx
  cases ry
  obtain ⟨mA, J, _⟩ := ins_get I.hok ha
  obtain ⟨mB, J', _⟩ := ins_get I.hok hb'
  obtain ⟨od, J, _⟩ := J.look
  obtain ⟨od', J', _⟩ := J'.look
  obtain ⟨m, hF⟩ := I.fr
  show wpAny _ _ (richCompare .Eq _ _) _ _ _
  refine PySem.W.cmp_K (op := .Eq) (tb := .ref C) hr.units0 hF I.ok.mod.kin J J'.type oc.nf om.at_ om.fn ?_
  refine wpAny_mono (run_in (us := [.ref a, .ref b]) (ws := [.ref a, .ref b]) F hr I.env0 hb hx I (.cons rfl (.cons rfl .nil)) q) (fun w s' ⟨z, H', I', rz, qz⟩ => cback rz ⟨z, H', I', rz, qz⟩) fun _ _ e => e
/-- x != y, by an own equal that answers a bool -/
def rBinN (C : Addr) (sp : Sp) (E : XK) : R2 := fun x y H Q => ∃ a b dx fs dy gs, x = .ref a ∧ y = .ref b ∧ H a = some (.ins C dx fs) ∧ H b = some (.ins C dy gs) ∧ sp [.ref a, .ref b] H (fun z H' => ∃ k, z = .bl k ∧ Q (.bl (!k)) H') E
theorem op_neO (oc : OCls X.K C) (om : OM X.K C "__eq__" f) (F : FnOk X.prog X.w X.K X.mg X.base CX n f fd ps sp) (hr : Room (n + 1) X.A) (hb : Binds X.K fd ps []) (hx : Passes CX X E) : OpR X (compareOp .NotEq) (rBinN C sp E) := by
  intro pins s σ H x y v u Q I rx ry h
  obtain ⟨a, b, dx, fs, dy, gs, rfl, rfl, ha, hb', q⟩ := h
  cases rx
  cases ry
  obtain ⟨mA, J, _⟩ := ins_get I.hok ha
  obtain ⟨mB, J', _⟩ := ins_get I.hok hb'
  obtain ⟨od, J, _⟩ := J.look
  obtain ⟨od', J', _⟩ := J'.look
  refine neq_own I.kIn J J' oc.ne om.at_ om.fn oc.ob (hu_of hr) ?_
  refine wpAny_mono (run_in (us := [.ref a, .ref b]) (ws := [.ref a, .ref b]) F hr.in1 I.env0.in1 hb hx I (.cons rfl (.cons rfl .nil)) q) (fun w s' ⟨z, H', I', rz, k, ez, qz⟩ => ?_) fun _ _ e => e
  subst ez
  exact ⟨k, rz, .bl (!k), H', I', rfl, qz⟩
/-- -x -/
def rNegO (C : Addr) (sp : Sp) (E : XK) : V → Hp → VK → Prop := fun x H Q => ∃ a dx fs, x = .ref a ∧ H a = some (.ins C dx fs) ∧ sp [.ref a] H Q E
theorem un_negO (om : OM X.K C "__neg__" f) (F : FnOk X.prog X.w X.K X.mg X.base CX n f fd ps sp) (hr : Room n X.A) (hb : Binds X.K fd ps []) (hx : Passes CX X E) : UnR X (unaryOp .USub) (rNegO C sp E) := by
  intro pins s σ H x v Q I rx h
  obtain ⟨a, dx, fs, rfl, ha, q⟩ := h
  cases rx
  obtain ⟨mA, J, _⟩ := ins_get I.hok ha
  obtain ⟨od, J, _⟩ := J.look
  obtain ⟨m, hF⟩ := I.fr
  refine PySem.W.ksp_neg hF I.ok.mod.kin J om.at_ om.fn ?_
  exact run_in (us := [.ref a]) (ws := [.ref a]) F hr I.env0 hb hx I (.cons rfl .nil) q
/-- bool(x) by an own __bool__ -/
def rBoolO (C : Addr) (sp : Sp) (E : XK) : List V → Hp → VK → Prop := fun xs H Q => ∃ a dx fs, xs = [.ref a] ∧ H a = some (.ins C dx fs) ∧ sp [.ref a] H (fun z H' => ∃ k, z = .bl k ∧ Q (.bl k) H') E
theorem call_boolO (om : OM X.K C "__bool__" f) (F : FnOk X.prog X.w X.K X.mg X.base CX n f fd ps sp) (hr : Room (n + 2) X.A) (hb : Binds X.K fd ps []) (hx : Passes CX X E) : CallR X (.type "bool") (rBoolO C sp E) := by
  intro pins s σ H xs us Q I r h
  obtain ⟨a, dx, fs, rfl, ha, q⟩ := h
  obtain ⟨u, rfl, ru⟩ := vals1 r
  cases ru
  obtain ⟨mA, J, _⟩ := ins_get I.hok ha
  obtain ⟨od, J, _⟩ := J.look
  have hr2 : Room n X.A.in1.in1 := (show Room (n + 1) X.A.in1 from Room.in1 hr).in1
  refine bool_own I.kIn J om.at_ om.fn ?_
  refine wpAny_mono (run_in (us := [.ref a]) (ws := [.ref a]) F hr2 I.env0.in1.in1 hb hx I (.cons rfl .nil) q) (fun w s' ⟨z, H', I', rz, k, ez, qz⟩ => ?_) fun _ _ e => e
  subst ez
  exact ⟨k, rz, .bl k, H', I', rfl, qz⟩
/-- powers with a large base -/
def CPowW (i j : Int) : Prop := 0 ≤ j ∧ (Builtin.Int.intBits i : Int) * j ≤ 2 ^ 27
theorem op_powW : OpR X (binaryOp .Pow) (rI CPowW fun i j => .int (i ^ j.toNat)) := by
  intro pins s σ H x y v u Q I rx ry h
  obtain ⟨i, j, rfl, rfl, hc, q⟩ := h
  obtain ⟨t, rfl⟩ := rx
  obtain ⟨t', rfl⟩ := ry
  exact pow_int hc.1 hc.2 ⟨.int _, H, I.tok _, ⟨_, rfl⟩, q⟩
end
/-! ### a def of the module by its promise -/
/-- the def under the name x keeps the promise sp, by at most level k -/
structure Cal (P : Program) (w : World) (K : PySem.W.Frag) (mg : Str → Option Value) (base : Heap) (x : Str) (k : Nat) (sp : Sp) : Prop where
  ex : ∃ f fd ps, FnOk P w K mg base CX0 k f fd ps sp ∧ mg x = some (.ref f) ∧ PySem.W.keepIn K (.ref f) = true ∧ Binds K fd ps []
section
variable {X : Cx} {x : Str} {k : Nat} {sp : Sp} {e : Expr} {es : List Expr} {t : TA} {p pos : Pos}
theorem pe_cal (C : Cal X.prog X.w X.K X.mg X.base x k sp) (hr : Room k X.A) (hg : Gl X x) (ha : PA X (e :: es) t) (hdb : (x == ("__debug__" : Str)) = false := by decide)
    (he : starEach (e :: es) X.env = (false, eval e X.env) :: starEach es X.env := by rfl) (hpl : (backTo pos (starEach es X.env)).any (·.1) = false := by rfl) : PE X (.Call (.Name x p) (e :: es) [] pos) (tCall sp [] E0 t) := by
  obtain ⟨f, fd, ps, F, hm, hk, hb⟩ := C.ex
  exact pe_call F hr hg hm hk hb .nil pass0 ha hdb he hpl
theorem pe_cal0 (C : Cal X.prog X.w X.K X.mg X.base x k sp) (hr : Room k X.A) (hg : Gl X x) (hdb : (x == ("__debug__" : Str)) = false := by decide) : PE X (.Call (.Name x p) [] [] pos) (tCall sp [] E0 tNil) := by
  obtain ⟨f, fd, ps, F, hm, hk, hb⟩ := C.ex
  exact pe_call0 F hr hg hm hk hb .nil pass0 hdb
end
end Ow

namespace Ow
open PySem PySem.Spec PyProof.Rows L2
section
variable {X : Cx} {CX : CXT} {C f : Addr} {n : Nat} {fd : FuncData} {ps : List Str} {sp : Sp} {E : XK}
/-- str(x) by an own __str__ -/
def rStrO (C : Addr) (sp : Sp) (E : XK) : List V → Hp → VK → Prop := fun xs H Q => ∃ a dx fs, xs = [.ref a] ∧ H a = some (.ins C dx fs) ∧ sp [.ref a] H (fun z H' => ∃ y, z = .str y ∧ Q (.str y) H') E
theorem call_strO (om : OM X.K C "__str__" f) (F : FnOk X.prog X.w X.K X.mg X.base CX n f fd ps sp) (hr : Room (n + 2) X.A) (hb : Binds X.K fd ps []) (hx : Passes CX X E) : CallR X (.type "str") (rStrO C sp E) := by
  intro pins s σ H xs us Q I r h
  obtain ⟨a, dx, fs, rfl, ha, q⟩ := h
  obtain ⟨u, rfl, ru⟩ := vals1 r
  cases ru
  obtain ⟨mA, J, _⟩ := ins_get I.hok ha
  obtain ⟨od, J, _⟩ := J.look
  have hr2 : Room n X.A.in1.in1 := (show Room (n + 1) X.A.in1 from Room.in1 hr).in1
  refine PySem.W.kso_call hr2.units0 I.kIn J om.at_ om.fn ?_
  refine wpAny_mono (run_in (us := [.ref a]) (ws := [.ref a]) F hr2 I.env0.in1.in1 hb hx I (.cons rfl .nil) q) (fun w s' ⟨z, H', I', rz, y, ez, qz⟩ => ?_) fun _ _ e => e
  subst ez
  obtain ⟨t, rfl⟩ := rz
  exact ⟨.str y, H', I', ⟨t, rfl⟩, qz⟩
/-- a text of parts, by a name -/
def tJn (ts : List TE) : TE := fun σ H Q => tJs ts Str.empty σ H fun out H1 => Q (.str out) H1
theorem pe_fstr {v1 v2 : Expr} {rest : List Expr} {ts : List TE} {pos : Pos} (h : PJ X (v1 :: v2 :: rest) ts) : PE X (.JoinedStr (v1 :: v2 :: rest) pos) (tJn ts) := pe_joined h
theorem u65 {A : Around} {k : Nat} (hr : Room k A) : A.units + 65 < cLine := by
  have := hr.un
  omega
def rInT (K : PySem.W.Frag) : R2 := fun x y H Q => ∃ d ds, Dp K H x d ∧ Dp K H y (.tuple ds) ∧ SeqAt.shaped d = true ∧ SeqAt.shaped (.tuple ds) = true ∧ Q (.bl (ds.any fun z => PyData.eqv z d)) H
theorem op_inT (hu : X.A.units + 65 < cLine) : OpR X (compareOp .In) (rInT X.K) := by
  intro pins s σ H x y v u Q I rx ry h
  obtain ⟨d, ds, hd, he, sd, se, q⟩ := h
  obtain ⟨as, r1⟩ := Dp.reads I d x v hd rx
  obtain ⟨bs, r2⟩ := Dp.reads I (.tuple ds) y u he ry
  exact SeqAt.in_tuple_reads r2 r1 (SeqAt.canLay_of_shaped se) (SeqAt.canLay_of_shaped sd) (room_in_shaped (xs := ds) sd hu) ⟨.bl _, H, I, rfl, q⟩
end
end Ow

namespace Ow
open PySem PySem.Spec PyProof.Rows
open PySem.W (findIn isFn InstAt looks_findIn special_fn ifBound_K)
section
variable {prog : Program} {w : World} {A : Around} {E : Value → Shared → Prop} {s : Shared} {K : PySem.W.Frag} {x C f : Addr} {y tb : Value} {ox : Obj} {od : Option Obj}
theorem objNeV (X : K.In s.heap) (I : InstAt s.heap x ox C od) (hs : findIn K (.ref C) "__eq__" = some (some (.ref f))) (hf : isFn K (.ref f) = true) (hu : A.units < cLine) {Q : Fin → Shared → Prop}
    (hc : wpAny (model prog w) A (call (.ref f) [.ref x, y]) (fun v s' => ∃ b, v = .bool b ∧ Q (.done (.ret (.bool (!b)))) s') E s) :
    wpAny (model prog w) A (Builtin.«object.__ne__» ⟨[.ref x, y], []⟩) Q E s := by
  obtain ⟨hp, g, d, tk, os⟩ := s
  unfold Builtin.«object.__ne__»
  repeat (first
    | with_reducible refine wpAny_cRoomFor hu ?_
    | (refine wpAny_bind (m := callSpecialIfBound? (.ref x) (Str.ofString "__eq__") [y])
        (ifBound_K X I hs hf (wpAny_mono hc (fun r s' hr => by
          obtain ⟨b, rfl, hq⟩ := hr
          repeat (first | exact hq | exact wpAny_pure hq | exact wpAny_truthy_bool hq | (refine wpAny_bind (m := truthy (.bool _)) (wpAny_truthy_bool ?_)) | wp_step)) fun _ _ e => e)))
    | wp_step)
theorem tryNeV (X : K.In s.heap) (I : InstAt s.heap x ox C od) (hn : findIn K (.ref C) "__ne__" = some (some (.builtin "object.__ne__"))) (hs : findIn K (.ref C) "__eq__" = some (some (.ref f))) (hf : isFn K (.ref f) = true)
    (hb : PySem.W.mroIn K C (.type "object") = some true) (hu : A.units + 1 < cLine) {Q : Option Value → Shared → Prop}
    (hc : wpAny (model prog w) A.in1 (call (.ref f) [.ref x, y]) (fun v s' => ∃ b, v = .bool b ∧ Q (some (.bool (!b))) s') E s) :
    wpAny (model prog w) A (tryCompare (.ref x) "__ne__" y) Q E s := by
  simp only [tryCompare]
  have hcall : wpAny (model prog w) A (call (.builtin "object.__ne__") (.ref x :: [y])) (fun v s' => ∃ b, v = .bool b ∧ Q (some (.bool b)) s') E s := by
    refine wpAny_call (codeAny_call_builtin PySem.F.cmp_object.ne.plain PySem.F.cmpEntry_ne ?_)
    refine PySem.W.check_slot PySem.F.cmpKind_ne PySem.F.cmpSplit_ne ?_ (PySem.F.cmpArgs_ne _ _) ?_
    · exact I.type.andThen (PySem.W.looks_mroIn X hb)
    · refine objNeV (A := A.in1) X I hs hf hu (wpAny_mono hc (fun v s' hv => ?_) fun _ _ e => e)
      obtain ⟨b, rfl, hq⟩ := hv
      exact ⟨b, rfl, ⟨_, rfl, hq⟩⟩
  refine wpAny_bind ?_
  simp only [callSpecialIfBound?, bindSpecialIfBound?]
  refine wpAny_holding (wpAny_bind (wpAny_bind (wpAny_bind (I.type.here ((looks_findIn X hn).here ?_)))))
  simp only [PySem.F.cmp_object.ne.bind]
  refine wpAny_bind (wpAny_askSetting (wpAny_ite ?_))
  have fin : wpAny (model prog w) A (call (.builtin "object.__ne__") ([.ref x] ++ [y]) >>= fun v => pure (some v)) (fun r s' => ∃ b, r = some (.bool b) ∧ Q (some (.bool b)) s') E s :=
    wpAny_bind (wpAny_mono hcall (fun v s' ⟨b, e, q⟩ => wpAny_pure ⟨b, by rw [e], q⟩) fun _ _ h' => h')
  have fin2 : wpAny (model prog w) A (call (.builtin "object.__ne__") ([.ref x] ++ [y]) >>= fun v => pure (some v)) (fun a s' => wpAny (model prog w) A (match a with | some Value.notImplemented => pure none | none => pure none | some r => pure (some r)) Q E s') E s :=
    wpAny_mono fin (fun r s' ⟨b, e, q⟩ => by rw [e]; exact wpAny_pure q) fun _ _ h' => h'
  split
  · exact wpAny_bind (wpAny_pure (wpAny_pure fin2))
  · exact wpAny_tryCatch (wpAny_bind (wpAny_pure (wpAny_pure fin2)))
theorem neq_other {T : String} (X : K.In s.heap) (I : InstAt s.heap x ox C od) (J : PySem.W.Looks (model prog w) s.heap (typeOf y) (.type T)) (nf : PySem.W.subIn K (.type T) (.ref C) = some false) (hn : findIn K (.ref C) "__ne__" = some (some (.builtin "object.__ne__"))) (hs : findIn K (.ref C) "__eq__" = some (some (.ref f))) (hf : isFn K (.ref f) = true)
    (hb : PySem.W.mroIn K C (.type "object") = some true) (hu : A.units + 1 < cLine) {Q : Value → Shared → Prop}
    (hc : wpAny (model prog w) A.in1 (call (.ref f) [.ref x, y]) (fun v s' => ∃ b, v = .bool b ∧ Q (.bool (!b)) s') E s) :
    wpAny (model prog w) A (compareOp .NotEq (.ref x) y) Q E s := by
  unfold compareOp richCompare
  simp only [oneThing_ref]
  refine wpAny_holding ?_
  refine wpAny_bind (wpAny_cRoomFor (Nat.lt_of_succ_lt hu) ?_)
  rw [cmpInfo_NotEq]
  dsimp only
  refine wpAny_bind (I.type.here (wpAny_bind (J.here ?_)))
  rw [show (Value.ref C != Value.type T) = true from by simp]
  simp only [if_true]
  refine wpAny_bind ((PySem.W.looks_subIn X nf).here ?_)
  simp only [Bool.false_eq_true, if_false]
  refine wpAny_bind (tryNeV X I hn hs hf hb hu (wpAny_mono hc (fun v s' hv => ?_) fun _ _ e => e))
  obtain ⟨b, rfl, hq⟩ := hv
  exact ⟨b, rfl, wpAny_pure hq⟩
end
end Ow
namespace Ow
open PySem PySem.Spec PyProof.Rows L2
section
variable {X : Cx} {CX : CXT} {C f : Addr} {n : Nat} {fd : FuncData} {ps : List Str} {sp : Sp} {E : XK}
/-- x == y, y of a built-in class -/
def rBinX (K : PySem.W.Frag) (C : Addr) (sp : Sp) (E : XK) : R2 := fun x y H Q => ∃ a dx fs T, x = .ref a ∧ H a = some (.ins C dx fs) ∧ TyX K H y (.type T) ∧ PySem.W.subIn K (.type T) (.ref C) = some false ∧ sp [.ref a, y] H Q E
theorem nf_of {K : PySem.W.Frag} {T : String} (h : PySem.W.subIn K (.type T) (.ref C) = some false) : PySem.W.notFirst K C (.type T) = true := by
  unfold PySem.W.notFirst
  rw [h]
  simp
theorem op_eqX (om : OM X.K C "__eq__" f) (F : FnOk X.prog X.w X.K X.mg X.base CX n f fd ps sp) (hr : Room n X.A) (hb : Binds X.K fd ps []) (hx : Passes CX X E) : OpR X (compareOp .Eq) (rBinX X.K C sp E) := by
  intro pins s σ H x y v u Q I rx ry h
  obtain ⟨a, dx, fs, T, rfl, ha, ty, nf, q⟩ := h
  cases rx
  obtain ⟨mA, J, _⟩ := ins_get I.hok ha
  obtain ⟨od, J, _⟩ := J.look
  obtain ⟨m, hF⟩ := I.fr
  obtain ⟨Pu, Z, pu, _⟩ := kit_of I ry ty
  show wpAny _ _ (richCompare .Eq _ _) _ _ _
  refine PySem.W.cmp_K (op := .Eq) (tb := .type T) hr.units0 hF I.ok.mod.kin J (Z.ty _ _ I.kIn pu) (nf_of nf) om.at_ om.fn ?_
  refine wpAny_mono (run_in (us := [.ref a, u]) (ws := [.ref a, y]) F hr I.env0 hb hx I (.cons rfl (.cons ry .nil)) q) (fun w s' ⟨z, H', I', rz, qz⟩ => cback rz ⟨z, H', I', rz, qz⟩) fun _ _ e => e
def rBinNX (K : PySem.W.Frag) (C : Addr) (sp : Sp) (E : XK) : R2 := fun x y H Q => ∃ a dx fs T, x = .ref a ∧ H a = some (.ins C dx fs) ∧ TyX K H y (.type T) ∧ PySem.W.subIn K (.type T) (.ref C) = some false ∧ sp [.ref a, y] H (fun z H' => ∃ k, z = .bl k ∧ Q (.bl (!k)) H') E
theorem op_neX (oc : OCls X.K C) (om : OM X.K C "__eq__" f) (F : FnOk X.prog X.w X.K X.mg X.base CX n f fd ps sp) (hr : Room (n + 1) X.A) (hb : Binds X.K fd ps []) (hx : Passes CX X E) : OpR X (compareOp .NotEq) (rBinNX X.K C sp E) := by
  intro pins s σ H x y v u Q I rx ry h
  obtain ⟨a, dx, fs, T, rfl, ha, ty, nf, q⟩ := h
  cases rx
  obtain ⟨mA, J, _⟩ := ins_get I.hok ha
  obtain ⟨od, J, _⟩ := J.look
  obtain ⟨Pu, Z, pu, _⟩ := kit_of I ry ty
  refine neq_other I.kIn J (Z.ty _ _ I.kIn pu) nf oc.ne om.at_ om.fn oc.ob (hu_of hr) ?_
  refine wpAny_mono (run_in (us := [.ref a, u]) (ws := [.ref a, y]) F hr.in1 I.env0.in1 hb hx I (.cons rfl (.cons ry .nil)) q) (fun w s' ⟨z, H', I', rz, k, ez, qz⟩ => ?_) fun _ _ e => e
  subst ez
  exact ⟨k, rz, .bl (!k), H', I', rfl, qz⟩
end
end Ow

namespace Sk
open PySem L2 Ow
def top (i : Nat) : Stmt := PySem.Challenge.pw_underwords_k05_whole_systems_told.main.body.getD i (.Pass ⟨0, 0, 0, 0⟩)
abbrev s_is_within : Stmt := top 1
theorem sc_is_within : FnScope ["value", "least", "most"] ["value", "least", "most"] (defScope s_is_within) := ⟨rfl, rfl, rfl, by decide +kernel, rfl, by decide +kernel, by decide +kernel⟩
abbrev s_init : Stmt := inClass (top 10) 0
theorem sc_init : FnScope ["self", "letters", "bonds"] ["self", "letters", "bonds"] (defScope s_init) := ⟨rfl, rfl, rfl, by decide +kernel, rfl, by decide +kernel, by decide +kernel⟩
abbrev s_rows : Stmt := inClass (top 10) 1
theorem sc_rows : FnScope ["cls", "places"] ["cls", "places"] (defScope s_rows) := ⟨rfl, rfl, rfl, by decide +kernel, rfl, by decide +kernel, by decide +kernel⟩
abbrev s_signed : Stmt := inClass (top 10) 2
theorem sc_signed : FnScope ["cls", "places"] ["cls", "places"] (defScope s_signed) := ⟨rfl, rfl, rfl, by decide +kernel, rfl, by decide +kernel, by decide +kernel⟩
abbrev s_polygon : Stmt := inClass (top 10) 3
theorem sc_polygon : FnScope ["cls", "bond"] ["cls", "bond"] (defScope s_polygon) := ⟨rfl, rfl, rfl, by decide +kernel, rfl, by decide +kernel, by decide +kernel⟩
abbrev s_twenty : Stmt := inClass (top 10) 4
theorem sc_twenty : FnScope ["cls"] ["cls"] (defScope s_twenty) := ⟨rfl, rfl, rfl, by decide +kernel, rfl, by decide +kernel, by decide +kernel⟩
abbrev s_ring : Stmt := inClass (top 10) 5
theorem sc_ring : FnScope ["cls", "letters"] ["cls", "letters"] (defScope s_ring) := ⟨rfl, rfl, rfl, by decide +kernel, rfl, by decide +kernel, by decide +kernel⟩
abbrev s_letters : Stmt := inClass (top 10) 6
theorem sc_letters : FnScope ["self"] ["self"] (defScope s_letters) := ⟨rfl, rfl, rfl, by decide +kernel, rfl, by decide +kernel, by decide +kernel⟩
abbrev s_bonds : Stmt := inClass (top 10) 7
theorem sc_bonds : FnScope ["self"] ["self"] (defScope s_bonds) := ⟨rfl, rfl, rfl, by decide +kernel, rfl, by decide +kernel, by decide +kernel⟩
abbrev s_bond_of : Stmt := inClass (top 10) 8
theorem sc_bond_of : FnScope ["self", "one", "other", "told", "low", "high", "bond"] ["self", "one", "other"] (defScope s_bond_of) := ⟨rfl, rfl, rfl, by decide +kernel, rfl, by decide +kernel, by decide +kernel⟩
abbrev s_eq : Stmt := inClass (top 10) 9
theorem sc_eq : FnScope ["self", "other"] ["self", "other"] (defScope s_eq) := ⟨rfl, rfl, rfl, by decide +kernel, rfl, by decide +kernel, by decide +kernel⟩
abbrev s_str : Stmt := inClass (top 10) 10
theorem sc_str : FnScope ["self", "bonds", "low", "high", "bond"] ["self"] (defScope s_str) := ⟨rfl, rfl, rfl, by decide +kernel, rfl, by decide +kernel, by decide +kernel⟩
abbrev s_neighbours : Stmt := top 11
theorem sc_neighbours : FnScope ["first", "letters", "letter"] ["first", "letters"] (defScope s_neighbours) := ⟨rfl, rfl, rfl, by decide +kernel, rfl, by decide +kernel, by decide +kernel⟩
abbrev s_are_bonds : Stmt := top 12
theorem sc_are_bonds : FnScope ["letters", "value", "triple", "pairs", "low", "high", "_", "one", "other"] ["letters", "value"] (defScope s_are_bonds) := ⟨rfl, rfl, rfl, by decide +kernel, rfl, by decide +kernel, by decide +kernel⟩
abbrev s_is_triple : Stmt := top 13
theorem sc_is_triple : FnScope ["letters", "value", "low", "high", "bond"] ["letters", "value"] (defScope s_is_triple) := ⟨rfl, rfl, rfl, by decide +kernel, rfl, by decide +kernel, by decide +kernel⟩
abbrev s_vat : Stmt := top 15
theorem sc_vat : FnScope ["_law_script", "_law_spot", "_law_cell", "_law_great", "_law_start"] ["_law_script", "_law_spot"] (defScope s_vat) := ⟨rfl, rfl, rfl, by decide +kernel, rfl, by decide +kernel, by decide +kernel⟩
abbrev s_tap : Stmt := top 16
theorem sc_tap : FnScope ["_law_vat_here", "_law_total", "_law_found", "_law_one", "_law_two"] ["_law_vat_here", "_law_total"] (defScope s_tap) := ⟨rfl, rfl, rfl, by decide +kernel, rfl, by decide +kernel, by decide +kernel⟩
abbrev s_taste : Stmt := top 17
theorem sc_taste : FnScope ["_law_vat_here", "_law_items"] ["_law_vat_here", "_law_items"] (defScope s_taste) := ⟨rfl, rfl, rfl, by decide +kernel, rfl, by decide +kernel, by decide +kernel⟩
abbrev s_told_systems : Stmt := top 18
theorem sc_told_systems : FnScope ["_law_found"] [] (defScope s_told_systems) := ⟨rfl, rfl, rfl, by decide +kernel, rfl, by decide +kernel, by decide +kernel⟩
abbrev s_system : Stmt := top 19
theorem sc_system : FnScope ["_law_vat_here", "_law_letters", "_law_found", "_law_one", "_law_other", "_law_bond_here"] ["_law_vat_here"] (defScope s_system) := ⟨rfl, rfl, rfl, by decide +kernel, rfl, by decide +kernel, by decide +kernel⟩
abbrev s_bond : Stmt := top 20
theorem sc_bond : FnScope ["_law_bonds", "_law_one", "_law_other", "_law_told", "_law_low", "_law_high", "_law_bond_here"] ["_law_bonds", "_law_one", "_law_other"] (defScope s_bond) := ⟨rfl, rfl, rfl, by decide +kernel, rfl, by decide +kernel, by decide +kernel⟩
abbrev s_text : Stmt := top 21
theorem sc_text : FnScope ["_law_letters", "_law_bonds", "_law_found", "_law_one", "_law_other", "_law_bond_here"] ["_law_letters", "_law_bonds"] (defScope s_text) := ⟨rfl, rfl, rfl, by decide +kernel, rfl, by decide +kernel, by decide +kernel⟩
abbrev s_named : Stmt := top 22
theorem sc_named : FnScope ["_law_found", "_law_places", "_law_at", "_law_bond_here"] [] (defScope s_named) := ⟨rfl, rfl, rfl, by decide +kernel, rfl, by decide +kernel, by decide +kernel⟩
abbrev s_right : Stmt := top 23
theorem sc_right : FnScope ["_law_vat_here", "_law_letters", "_law_bonds", "_law_system_here", "_law_one", "_law_other", "_law_more", "_law_some", "_law_odd"] ["_law_vat_here"] (defScope s_right) := ⟨rfl, rfl, rfl, by decide +kernel, rfl, by decide +kernel, by decide +kernel⟩
abbrev s_law : Stmt := top 24
theorem sc_law : FnScope ["_law_script", "_law_spot", "_law_vat_here", "_law_turn", "_law_system_here", "_law_letters", "_law_bonds", "_law_told"] ["_law_script"] (defScope s_law) := ⟨rfl, rfl, rfl, by decide +kernel, rfl, by decide +kernel, by decide +kernel⟩
def MDef (K : PySem.W.Frag) (mg : Str → Option Value) (x : Str) (st : Stmt) : Prop := ∃ f fd, Fun K x x st f fd ∧ mg x = some (.ref f)
def GM (K : PySem.W.Frag) (C : Addr) (m qual : Str) (st : Stmt) : Prop := ∃ f fd, Fun K m qual st f fd ∧ OM K C m f
def GP (K : PySem.W.Frag) (C : Addr) (m qual : Str) (st : Stmt) : Prop := ∃ p g fd, PropOf K C m p g ∧ Fun K m qual st g fd
/-- a built-in class that has nothing to do with C -/
structure TyO (K : PySem.W.Frag) (C : Addr) (T : String) : Prop where
  sub : PySem.W.subIn K (.type T) (.ref C) = some false
  kit : PySem.W.kitOne K (.type T) (.ref C) = some false
def CG (K : PySem.W.Frag) (C : Addr) (m qual : Str) (st : Stmt) : Prop := ∃ p g fd, ClX.CMet K C (.type "type") m p g ∧ Fun K m qual st g fd
structure Txt (K : PySem.W.Frag) (mg : Str → Option Value) (C : Addr) : Prop where
  cl : Cls K C
  oc : OCls K C
  ic : C8.InsC K C
  mgSystem : mg "System" = some (.ref C)
  nL : NoAttr K C "_letters"
  nB : NoAttr K C "_bonds"
  mkS : ∃ f fd e, Mk K C f ∧ FunD K "__init__" "System.__init__" (defArgs s_init) (defBody s_init) (defScope s_init) [.ref e] [] f fd ∧ ∀ H, SqT K H e []
  gML : ∃ u, mg "MAX_LETTERS" = some u ∧ RelV (.int 4) u
  gB : ∃ a, mg "BONDS" = some (.ref a) ∧ ∀ H, SqT K H a [.int 0, .int 2, .int 3, .int 4, .int 5, .int 6]
  yNone : TyO K C "NoneType"
  yInt : TyO K C "int"
  yTup : TyO K C "tuple"
  yStr : TyO K C "str"
  yDict : TyO K C "dict"
  yBool : TyO K C "bool"
  crd : ClX.CRead K C (.type "type")
  cRows : CG K C "rows" "System.rows" s_rows
  cSigned : CG K C "signed" "System.signed" s_signed
  cPolygon : CG K C "polygon" "System.polygon" s_polygon
  cTwenty : CG K C "twenty" "System.twenty" s_twenty
  cRing : CG K C "ring" "System.ring" s_ring
  pL : GP K C "letters" "System.letters" s_letters
  pB : GP K C "bonds" "System.bonds" s_bonds
  mBond : GM K C "bond_of" "System.bond_of" s_bond_of
  mEq : GM K C "__eq__" "System.__eq__" s_eq
  mStr : GM K C "__str__" "System.__str__" s_str
  d_is_within : MDef K mg "is_within" s_is_within
  d_neighbours : MDef K mg "neighbours" s_neighbours
  d_are_bonds : MDef K mg "are_bonds" s_are_bonds
  d_is_triple : MDef K mg "is_triple" s_is_triple
  d_vat : MDef K mg "_law_vat" s_vat
  d_tap : MDef K mg "_law_tap" s_tap
  d_taste : MDef K mg "_law_taste" s_taste
  d_told_systems : MDef K mg "_law_told_systems" s_told_systems
  d_system : MDef K mg "_law_system" s_system
  d_bond : MDef K mg "_law_bond" s_bond
  d_text : MDef K mg "_law_text" s_text
  d_named : MDef K mg "_law_named" s_named
  d_right : MDef K mg "_law_right" s_right
  b_isinstance : mg "isinstance" = none
  b_int : mg "int" = none
  b_bool : mg "bool" = none
  b_str : mg "str" = none
  b_tuple : mg "tuple" = none
  b_len : mg "len" = none
  b_abs : mg "abs" = none
  b_max : mg "max" = none
  b_min : mg "min" = none
  b_sum : mg "sum" = none
  b_all : mg "all" = none
  b_zip : mg "zip" = none
  b_range : mg "range" = none
theorem MDef.cal {P : Program} {w : World} {K : PySem.W.Frag} {mg : Str → Option Value} {base : Heap} {x : Str} {st : Stmt} {k : Nat} {ps : List Str} {sp : Sp} (D : MDef K mg x st)
    (F : ∀ f fd, Fun K x x st f fd → FnOk P w K mg base CX0 k f fd ps sp)
    (h : ∀ (kV doc pm : Value) (an : Option Addr) (cdv ct : Value) (us : List Value), us.length = ps.length → bindArgs (PySem.W.fnOf x x (defArgs st) (defBody st) (defScope st) .none kV doc pm an cdv ct) ⟨us, []⟩ = pure (ps.zip us)) : Cal P w K mg base x k sp := by
  obtain ⟨f, fd, D, m⟩ := D
  exact ⟨⟨f, fd, ps, F f fd D, m, D.kp, D.binds h⟩⟩

/-! data: rows of ints, rows of these -/
theorem upd_upd {H : Hp} {p : Addr} {a b : HO} : upd (upd H p a) p b = upd H p b := by
  funext q
  unfold upd
  by_cases h : q = p
  · rw [if_pos h, if_pos h]
  · rw [if_neg h, if_neg h, if_neg h]
theorem same_new {H : Hp} {p : Addr} {o : HO} (n : H p = none) : Same H (upd H p o) := fun q u e => by rw [upd_ne (ne_of_none e n)]; exact e
theorem sqT_same {K : PySem.W.Frag} {H H' : Hp} {a : Addr} {xs : List V} (s : Same H H') (h : SqT K H a xs) : SqT K H' a xs := SqT.ext h s
/-- a tuple of ints -/
def TI (K : PySem.W.Frag) (H : Hp) (v : V) (ns : List Int) : Prop := ∃ a, v = .ref a ∧ SqT K H a (ns.map V.int)
theorem TI.same {K : PySem.W.Frag} {H H' : Hp} {v : V} {ns : List Int} (h : TI K H v ns) (s : Same H H') : TI K H' v ns := h.elim fun a ⟨e, q⟩ => ⟨a, e, sqT_same s q⟩
def TIs (K : PySem.W.Frag) (H : Hp) : List V → List (List Int) → Prop
  | [], [] => True
  | x :: xs, n :: ns => TI K H x n ∧ TIs K H xs ns
  | _, _ => False
theorem TIs.same {K : PySem.W.Frag} {H H' : Hp} (s : Same H H') : ∀ {xs : List V} {ns : List (List Int)}, TIs K H xs ns → TIs K H' xs ns
  | [], [], _ => trivial
  | _ :: _, _ :: _, h => ⟨h.1.same s, TIs.same s h.2⟩
theorem TIs.len {K : PySem.W.Frag} {H : Hp} : ∀ {xs : List V} {ns : List (List Int)}, TIs K H xs ns → xs.length = ns.length
  | [], [], _ => rfl
  | _ :: _, _ :: _, h => congrArg Nat.succ (TIs.len h.2)
theorem TIs.get {K : PySem.W.Frag} {H : Hp} : ∀ {xs : List V} {ns : List (List Int)} {i : Nat} {x : V}, TIs K H xs ns → xs[i]? = some x → ∃ n, ns[i]? = some n ∧ TI K H x n
  | x :: xs, n :: ns, 0, y, h, e => ⟨n, rfl, (show x = y by simpa using e) ▸ h.1⟩
  | x :: xs, n :: ns, i + 1, y, h, e => (TIs.get (xs := xs) (ns := ns) (i := i) h.2 (by simpa using e)).elim fun m z => ⟨m, by simpa using z.1, z.2⟩
  | [], [], i, y, _, e => by simp at e
theorem TIs.snoc {K : PySem.W.Frag} {H : Hp} : ∀ {xs : List V} {ns : List (List Int)} {x : V} {n : List Int}, TIs K H xs ns → TI K H x n → TIs K H (xs ++ [x]) (ns ++ [n])
  | [], [], _, _, _, h => ⟨h, trivial⟩
  | _ :: _, _ :: _, _, _, h, k => ⟨h.1, TIs.snoc h.2 k⟩
/-- a tuple of tuples of ints -/
def BsAt (K : PySem.W.Frag) (H : Hp) (v : V) (bs : List (List Int)) : Prop := ∃ a xs, v = .ref a ∧ SqT K H a xs ∧ TIs K H xs bs
theorem BsAt.same {K : PySem.W.Frag} {H H' : Hp} {v : V} {bs : List (List Int)} (h : BsAt K H v bs) (s : Same H H') : BsAt K H' v bs := h.elim fun a ⟨xs, e, q, t⟩ => ⟨a, xs, e, sqT_same s q, t.same s⟩
def dT (ns : List Int) : PyData := .tuple (ns.map PyData.int)
def dB (bs : List (List Int)) : PyData := .tuple (bs.map dT)
theorem dInts {K : PySem.W.Frag} {H : Hp} : ∀ ns : List Int, DpAll K H (ns.map V.int) (ns.map PyData.int)
  | [] => .nil
  | n :: ns => .cons (.int n) (dInts ns)
theorem TI.dp {K : PySem.W.Frag} {H : Hp} {v : V} {ns : List Int} (h : TI K H v ns) : Dp K H v (dT ns) := by
  obtain ⟨a, rfl, q⟩ := h
  exact .tup q (dInts ns)
theorem TIs.dp {K : PySem.W.Frag} {H : Hp} : ∀ {xs : List V} {ns : List (List Int)}, TIs K H xs ns → DpAll K H xs (ns.map dT)
  | [], [], _ => .nil
  | _ :: _, _ :: _, h => .cons h.1.dp (TIs.dp h.2)
theorem BsAt.dp {K : PySem.W.Frag} {H : Hp} {v : V} {bs : List (List Int)} (h : BsAt K H v bs) : Dp K H v (dB bs) := by
  obtain ⟨a, xs, rfl, q, t⟩ := h
  exact .tup q t.dp
theorem lay_ints : ∀ ns : List Int, PyData.canLayAll0 (ns.map PyData.int) = true
  | [] => by simp [PyData.canLayAll0]
  | n :: ns => by simp [PyData.canLayAll0, PyData.canLay0, lay_ints ns]
theorem lay_dT (ns : List Int) : (dT ns).canLay0 = true := by simp [dT, PyData.canLay0, lay_ints]
theorem lay_dTs : ∀ bs : List (List Int), PyData.canLayAll0 (bs.map dT) = true
  | [] => by simp [PyData.canLayAll0]
  | n :: ns => by simp [PyData.canLayAll0, lay_dT, lay_dTs ns]
theorem lay_dB (bs : List (List Int)) : (dB bs).canLay0 = true := by simp [dB, PyData.canLay0, lay_dTs]
theorem dep_ints : ∀ ns : List Int, PyData.depthAll (ns.map PyData.int) ≤ 1
  | [] => by simp [PyData.depthAll]
  | n :: ns => by have := dep_ints ns; simp [PyData.depthAll, PyData.depth]; omega
theorem dep_dT (ns : List Int) : (dT ns).depth ≤ 2 := by have := dep_ints ns; simp [dT, PyData.depth]; omega
theorem dep_dTs : ∀ bs : List (List Int), PyData.depthAll (bs.map dT) ≤ 3
  | [] => by simp [PyData.depthAll]
  | n :: ns => by have := dep_dTs ns; have := dep_dT n; simp [PyData.depthAll]; omega
theorem dep_dB (bs : List (List Int)) : (dB bs).depth ≤ 4 := by have := dep_dTs bs; simp [dB, PyData.depth]; omega
theorem sh_dT (ns : List Int) : SeqAt.shaped (dT ns) = true := by
  unfold SeqAt.shaped
  rw [lay_dT, decide_eq_true (Nat.le_trans (dep_dT ns) (by decide))]
  rfl
theorem sh_dB (bs : List (List Int)) : SeqAt.shaped (dB bs) = true := by
  unfold SeqAt.shaped
  rw [lay_dB, decide_eq_true (Nat.le_trans (dep_dB bs) (by decide))]
  rfl
/-! systems, in numbers -/
def trOk (n : Int) (t : List Int) : Prop := ∃ l h b, t = [l, h, b] ∧ 0 ≤ l ∧ l < h ∧ h < n ∧ (b = 0 ∨ b = 3 ∨ b = 4 ∨ b = 5 ∨ b = 6)
structure Valid (n : Int) (bs : List (List Int)) : Prop where
  lo : 1 ≤ n
  hi : n ≤ 4
  tr : ∀ t ∈ bs, trOk n t
  as : (bs.map (·.take 2)).Pairwise (fun p q => HT.lexLt p q = true)
  few : bs.length ≤ 20
def sf (n : Int) (bv : V) : List (Str × V) := putF "_bonds" bv (putF "_letters" (.int n) [])
theorem lb_ : ¬ (("_letters" : Str) = "_bonds") := by decide +kernel
theorem sf_l (n : Int) (bv : V) : (sf n bv).lookup ("_letters" : Str) = some (.int n) := by
  unfold sf
  rw [lookup_putF, if_neg lb_, lookup_putF, if_pos rfl]
theorem sf_b (n : Int) (bv : V) : (sf n bv).lookup ("_bonds" : Str) = some bv := by
  unfold sf
  rw [lookup_putF, if_pos rfl]
theorem sf_no (n : Int) (bv : V) {m : Str} (h1 : ¬ m = "_bonds") (h2 : ¬ m = "_letters") : (sf n bv).lookup m = none := by
  unfold sf
  rw [lookup_putF, if_neg h1, lookup_putF, if_neg h2]
  rfl
def SysAt (K : PySem.W.Frag) (C : Addr) (H : Hp) (p : Addr) (n : Int) (bv : V) (bs : List (List Int)) : Prop := (∃ dx, H p = some (.ins C dx (sf n bv))) ∧ BsAt K H bv bs
theorem SysAt.same {K : PySem.W.Frag} {C : Addr} {H H' : Hp} {p : Addr} {n : Int} {bv : V} {bs : List (List Int)} (g : SysAt K C H p n bv bs) (s : Same H H') : SysAt K C H' p n bv bs := ⟨g.1.elim fun dx h => ⟨dx, s _ _ h⟩, g.2.same s⟩
/-! promises -/
def spWithin : Sp := fun vs H Q _ => ∃ i lo hi : Int, vs = [.int i, .int lo, .int hi] ∧ Q (.bl (decide (lo ≤ i) && decide (i ≤ hi))) H
def spTriple (K : PySem.W.Frag) : Sp := fun vs H Q _ => ∃ (n : Int) (v : V) (t : List Int), vs = [.int n, v] ∧ TI K H v t ∧ trOk n t ∧ Q (.bl true) H
def spBonds (K : PySem.W.Frag) : Sp := fun vs H Q _ => ∃ (n : Int) (v : V) (bs : List (List Int)), vs = [.int n, v] ∧ BsAt K H v bs ∧ Valid n bs ∧ ∀ H' : Hp, Same H H' → Q (.bl true) H'
def spInit (K : PySem.W.Frag) (C : Addr) : Sp := fun vs H Q _ => ∃ (p dx : Addr) (n : Int) (bv : V) (bs : List (List Int)), vs = [.ref p, .int n, bv] ∧ BsAt K H bv bs ∧ Valid n bs ∧ H p = some (.ins C dx []) ∧
  ∀ H' : Hp, Same H H' → Q .non (upd H' p (.ins C dx (sf n bv)))
section
variable {P : Program} {w : World} {K : PySem.W.Frag} {mg : Str → Option Value} {base : Heap} {C : Addr}
theorem cal_is_within (T : Txt K mg C) : Cal P w K mg base "is_within" 1 spWithin := by
  refine T.d_is_within.cal (ps := ["value", "least", "most"]) (fun f fd D => ?_) (fun _ _ _ _ _ _ us hl => match us, hl with | [_, _, _], _ => rfl)
  refine D.ok sc_is_within (fun vs H Q E h => ?_) (fun cdv A outer s H vs Q E hr h => ?_)
  · obtain ⟨i, lo, hi, rfl, _⟩ := h
    rfl
  · obtain ⟨i, lo, hi, rfl, q⟩ := h
    refine ⟨_, (pss_one (ps_ret (pe_and (pe_callB call_isi (by rfl) T.b_isinstance (by decide +kernel) (pa_cons (pv 0) (pa_cons (pe_bltn (v := .ty "int") (by rfl) T.b_int (by decide +kernel) rfl) pa_nil))) (pe_and (pe_not (pe_callB call_isi (by rfl) T.b_isinstance (by decide +kernel) (pa_cons (pv 0) (pa_cons (pe_bltn (v := .ty "bool") (by rfl) T.b_bool (by decide +kernel) rfl) pa_nil)))) (pe_one (pe_chain op_le op_le (pv 1) (pv 0) (pv 2))))))), ?_⟩
    refine ⟨_, rfl, _, _, _, _, true, rfl, .ty "int", .base (.int i), kit_ty (by decide +kernel), _, rfl, iteT ?_⟩
    refine ⟨_, rfl, _, _, _, _, false, rfl, .ty "bool", .base (.int i), kit_ty (by decide +kernel), _, rfl, _, rfl, iteT ?_⟩
    refine ⟨_, rfl, _, rfl, _, _, rfl, rfl, _, rfl, ?_⟩
    by_cases h1 : lo ≤ i
    · rw [decide_eq_true h1] at *
      refine iteT ?_
      exact ⟨_, rfl, _, _, rfl, rfl, q⟩
    · rw [decide_eq_false h1] at *
      exact iteF q
theorem pe_bonds {X : Cx} {x : Str} {pos : Pos} {a : Addr} (hg : Gl X x) (hx : X.mg x = some (.ref a)) (hd : (x == ("__debug__" : Str)) = false := by decide) : PE X (.Name x pos) (tC (.ref a)) := pe_glob (v := .ref a) hg hx rfl hd
/-- within, told -/
theorem win {H : Hp} {Q : VK} {i lo hi : Int} (h1 : lo ≤ i) (h2 : i ≤ hi) (q : Q (.bl true) H) : ∃ a b c : Int, ([V.int i, V.int lo, V.int hi] : List V) = [.int a, .int b, .int c] ∧ Q (.bl (decide (b ≤ a) && decide (a ≤ c))) H :=
  ⟨_, _, _, rfl, by rw [decide_eq_true h1, decide_eq_true h2]; exact q⟩
/-- the type of a tuple that is read -/
theorem tup_ty {H : Hp} {a : Addr} {xs : List V} (h : SqT K H a xs) : TyX K H (.ref a) (.type "tuple") := by
  rcases h with (h | ⟨o, h⟩) | ⟨o, its, n, hk, hc, _⟩
  · exact .base (.tup h)
  · exact .fTuple h
  · exact .kTuple hk hc
theorem iteNT' {A B : Prop} {c : Bool} (e : c = true) (h : B) : if (!c) = true then A else B := by rw [e]; exact iteF h
theorem iteNT {A B : Prop} {c : Bool} (e : c = true) (h : B) : if (!c) = true then A else B := by rw [e]; exact iteF h
theorem cal_is_triple (T : Txt K mg C) : Cal P w K mg base "is_triple" 2 (spTriple K) := by
  refine T.d_is_triple.cal (ps := ["letters", "value"]) (fun f fd D => ?_) (fun _ _ _ _ _ _ us hl => match us, hl with | [_, _], _ => rfl)
  refine D.ok sc_is_triple (fun vs H Q E h => ?_) (fun cdv A outer s H vs Q E hr h => ?_)
  · obtain ⟨n, v, t, rfl, _⟩ := h
    rfl
  · obtain ⟨n, v, t, rfl, ⟨a, rfl, ht⟩, ⟨l, h, b, rfl, h0, h1, h2, h3⟩, q⟩ := h
    obtain ⟨aB, gB, sB⟩ := T.gB
    refine ⟨_, (pss_cons (ps_if (PW.pt (pw_or (pt_not (pt_val (pe_callB call_isi (by rfl) T.b_isinstance (by decide +kernel) (pa_cons (pv 1) (pa_cons (pe_bltn (v := .ty "tuple") (by rfl) T.b_tuple (by decide +kernel) rfl) pa_nil))))) (pw_or1 (pt_cmpR op_ne (pe_callB call_len_seq (by rfl) T.b_len (by decide +kernel) (pa_cons (pv 1) pa_nil)) pe_int (nomark _))))) (pss_one (ps_ret pe_bl)) pss_nil)
      (pss_cons (ps_asg (pv 1) (pg_tup (by rfl) (pgs_cons (pg_name (i := 2) sc_is_triple.nd rfl (Or.inl rfl)) (pgs_cons (pg_name (i := 3) sc_is_triple.nd rfl (Or.inl rfl)) (pgs_cons (pg_name (i := 4) sc_is_triple.nd rfl (Or.inl rfl)) pgs_nil)))))
      (pss_cons (ps_if (PW.pt (pw_or (pt_not (pt_val (pe_cal (cal_is_within T) (hr.mono (by decide)) (by rfl) (pa_cons (pv 2) (pa_cons pe_int (pa_cons (pe_op op_sub (pv 0) pe_int) pa_nil)))))) (pw_or1 (pt_not (pt_val (pe_cal (cal_is_within T) (hr.mono (by decide)) (by rfl) (pa_cons (pv 3) (pa_cons (pe_op op_add (pv 2) pe_int) (pa_cons (pe_op op_sub (pv 0) pe_int) pa_nil))))))))) (pss_one (ps_ret pe_bl)) pss_nil)
      (pss_one (ps_ret (pe_and (pe_cal (cal_is_within T) (hr.mono (by decide)) (by rfl) (pa_cons (pv 4) (pa_cons pe_int (pa_cons pe_int pa_nil)))) (pe_and (pe_cmpR op_ne (pv 4) pe_int (nomark _)) (pe_one (pe_cmpR op_in_seq (pv 4) (pe_bonds (by rfl) gB) (by rfl)))))))))), ?_⟩
    refine ⟨_, rfl, _, _, .type "tuple", _, true, rfl, .ty "tuple", tup_ty ht, kit_ty (by decide +kernel), _, rfl, iteF ?_⟩
    refine ⟨_, rfl, _, _, rfl, .inr ht, rfl, _, rfl, iteNS rfl ?_⟩
    refine ⟨_, rfl, _, _, rfl, ht, rfl, _, _, rfl, _, _, rfl, _, _, rfl, rfl, ?_⟩
    refine ⟨_, rfl, _, rfl, _, _, rfl, rfl, _, _, _, rfl, _, rfl, iteNT' (by rw [decide_eq_true h0, decide_eq_true (show l ≤ n - 1 by omega)]; rfl) ?_⟩
    refine ⟨_, rfl, _, rfl, _, _, rfl, rfl, _, rfl, _, _, rfl, rfl, _, _, _, rfl, _, rfl, iteNT' (by rw [decide_eq_true (show l + 1 ≤ h by omega), decide_eq_true (show h ≤ n - 1 by omega)]; rfl) ?_⟩
    have b6 : 0 ≤ b ∧ b ≤ 6 := by omega
    refine ⟨_, rfl, _, _, _, rfl, _, rfl, ite2 (fun _ => ?_) (fun z => absurd (show (decide (0 ≤ b) && decide (b ≤ 6)) = true by rw [decide_eq_true b6.1, decide_eq_true b6.2]; rfl) z)⟩
    refine ⟨_, rfl, rfl, _, rfl, ite2 (fun _ => ?_) (fun z => absurd (show (!decide (V.int b = V.int 2)) = true by rw [decide_eq_false (fun e => by have := V.int.inj e; omega)]; rfl) z)⟩
    refine ⟨_, rfl, _, _, rfl, .inr (sB H), rfl, rfl, ?_⟩
    have e : inV (.int b) [.int 0, .int 2, .int 3, .int 4, .int 5, .int 6] = true := by
      rcases h3 with rfl | rfl | rfl | rfl | rfl <;> rfl
    show Q (.bl (inV (.int b) [.int 0, .int 2, .int 3, .int 4, .int 5, .int 6])) H
    rw [e]
    exact q
end
end Sk

namespace Sk
open PySem L2 Ow
/-- all but the list at D as it was -/
def Off (D : Addr) (H H' : Hp) : Prop := ∀ q o, q ≠ D → H q = some o → H' q = some o
theorem Off.sqT {K : PySem.W.Frag} {D a : Addr} {H H' : Hp} {xs acc : List V} (o : Off D H H') (hD : H D = some (.lst acc)) (h : SqT K H a xs) : SqT K H' a xs := by
  have ne : ∀ u, H a = some u → u ≠ .lst acc → a ≠ D := fun u e d z => d (by rw [z, hD] at e; exact (Option.some.inj e).symm)
  rcases h with (h | ⟨u, h⟩) | h
  · exact .inl (.inl (o a _ (ne _ h (fun z => nomatch z)) h))
  · exact .inl (.inr ⟨u, o a _ (ne _ h (fun z => nomatch z)) h⟩)
  · exact .inr h
theorem Off.ti {K : PySem.W.Frag} {D : Addr} {H H' : Hp} {acc : List V} {v : V} {ns : List Int} (o : Off D H H') (hD : H D = some (.lst acc)) (h : TI K H v ns) : TI K H' v ns := h.elim fun a ⟨e, q⟩ => ⟨a, e, o.sqT hD q⟩
theorem Off.tis {K : PySem.W.Frag} {D : Addr} {H H' : Hp} {acc : List V} (o : Off D H H') (hD : H D = some (.lst acc)) : ∀ {xs : List V} {ns : List (List Int)}, TIs K H xs ns → TIs K H' xs ns
  | [], [], _ => trivial
  | _ :: _, _ :: _, h => ⟨o.ti hD h.1, o.tis hD h.2⟩
theorem Off.bs {K : PySem.W.Frag} {D : Addr} {H H' : Hp} {acc : List V} {v : V} {bs : List (List Int)} (o : Off D H H') (hD : H D = some (.lst acc)) (h : BsAt K H v bs) : BsAt K H' v bs := h.elim fun a ⟨xs, e, q, t⟩ => ⟨a, xs, e, o.sqT hD q, o.tis hD t⟩
theorem off_upd {D : Addr} {H : Hp} {u : HO} : Off D H (upd H D u) := fun q o n e => by rw [upd_ne n]; exact e
/-- a fresh list's address: what stood stands, through stores to it -/
theorem same_off {H0 H H' : Hp} {D : Addr} (n : H0 D = none) (s : Same H0 H) (o : Off D H H') : Same H0 H' := fun q u e => o q u (ne_of_none e n) (s q u e)
theorem take_snoc {α : Type} {xs : List α} {i : Nat} {x : α} (h : xs[i]? = some x) : xs.take (i + 1) = xs.take i ++ [x] := by
  obtain ⟨hl, e⟩ := List.getElem?_eq_some_iff.mp h
  rw [List.take_add_one, h]
  rfl
section
variable {P : Program} {w : World} {K : PySem.W.Frag} {mg : Str → Option Value} {base : Heap} {C : Addr}
theorem cal_are_bonds (T : Txt K mg C) : Cal P w K mg base "are_bonds" 3 (spBonds K) := by
  refine T.d_are_bonds.cal (ps := ["letters", "value"]) (fun f fd D => ?_) (fun _ _ _ _ _ _ us hl => match us, hl with | [_, _], _ => rfl)
  refine D.ok sc_are_bonds (fun vs H Q E h => ?_) (fun cdv A outer s H vs Q E hr h => ?_)
  · obtain ⟨n, v, bs, rfl, _⟩ := h
    rfl
  · obtain ⟨n, v, bs, rfl, ⟨a, xs, rfl, ha, hx⟩, va, k⟩ := h
    have hlen := hx.len
    have few := va.few
    refine ⟨_, (pss_cons (ps_if (PW.pt (pw_or (pt_not (pt_val (pe_callB call_isi (by rfl) T.b_isinstance (by decide +kernel) (pa_cons (pv 1) (pa_cons (pe_bltn (v := .ty "tuple") (by rfl) T.b_tuple (by decide +kernel) rfl) pa_nil))))) (pw_or1 (pt_not (pt_val (pe_callB (cr_all rfl) (by rfl) T.b_all (by decide +kernel) (pa_cons (pe_lc (own := [("triple", 2)]) (g := gName 2) (tt := tYes) rfl sc_are_bonds.nd (pi_tup (pv 1)) (blkOk_by (own := [("triple", 2)]) (N := ["letters", "value", "triple", "pairs", "low", "high", "_", "one", "other"]) (sc := defScope s_are_bonds) (by decide +kernel)) (fun _ _ _ _ _ => (pg_name (i := 2) sc_are_bonds.nd rfl (Or.inl rfl))) (fun _ _ _ _ _ => pts_nil) (fun _ _ _ _ _ => (pe_cal (cal_is_triple T) (hr.mono (by decide)) (by rfl) (pa_cons (pv 0) (pa_cons (pv 2) pa_nil))))) pa_nil))))))) (pss_one (ps_ret pe_bl)) pss_nil)
      (pss_cons (ps_setLc (i := 3) (own := [("low", 4), ("high", 5), ("_", 6)]) (g := gTup K 3 (gCons (gName 4) (gCons (gName 5) (gCons (gName 6) (gNil))))) (tt := tYes) rfl sc_are_bonds.nd rfl rfl (sw_true rfl rfl rfl (by decide +kernel)) (pi_tup (pv 1)) (blkOk_by (own := [("low", 4), ("high", 5), ("_", 6)]) (N := ["letters", "value", "triple", "pairs", "low", "high", "_", "one", "other"]) (sc := defScope s_are_bonds) (by decide +kernel)) (fun _ _ _ _ _ => (pg_tup (by rfl) (pgs_cons (pg_name (i := 4) sc_are_bonds.nd rfl (Or.inl rfl)) (pgs_cons (pg_name (i := 5) sc_are_bonds.nd rfl (Or.inl rfl)) (pgs_cons (pg_name (i := 6) sc_are_bonds.nd rfl (Or.inl rfl)) pgs_nil))))) (fun _ _ _ _ _ => pts_nil) (fun _ _ _ _ _ => (pe_tup (pa_cons (pv 4) (pa_cons (pv 5) pa_nil)))))
      (pss_one (ps_ret (pe_callB (cr_all rfl) (by rfl) T.b_all (by decide +kernel) (pa_cons (pe_lc (own := [("one", 7), ("other", 8)]) (g := gTup K 2 (gCons (gName 7) (gCons (gName 8) (gNil)))) (tt := tYes) rfl sc_are_bonds.nd (pi_zip (by rfl) T.b_zip (pa_cons (pv 3) (pa_cons (pe_slice sl_list (pv 3) (po_some pe_int) po_none) pa_nil))) (blkOk_by (own := [("one", 7), ("other", 8)]) (N := ["letters", "value", "triple", "pairs", "low", "high", "_", "one", "other"]) (sc := defScope s_are_bonds) (by decide +kernel)) (fun _ _ _ _ _ => (pg_tup (by rfl) (pgs_cons (pg_name (i := 7) sc_are_bonds.nd rfl (Or.inl rfl)) (pgs_cons (pg_name (i := 8) sc_are_bonds.nd rfl (Or.inl rfl)) pgs_nil)))) (fun _ _ _ _ _ => pts_nil) (fun _ _ _ _ _ => (pe_cmpR (show OpR _ _ (rLtT K) from (op_ltT hr.units0)) (pv 7) (pv 8) (nomark _)))) pa_nil)))))), ?_⟩
    refine ⟨_, rfl, _, _, .type "tuple", _, true, rfl, .ty "tuple", tup_ty ha, kit_ty (by decide +kernel), _, rfl, iteF ?_⟩
    refine ⟨_, rfl, a, rfl, ⟨_, ha⟩, fun D nD => lc_tup (K := K) (a := a) (xs := xs) (fun i H' => Same H H' ∧ H' D = some (.lst ((List.replicate i true).map V.bl))) ⟨same_new nD, upd_same⟩ (fun i H' _ h => sqT_same h.1 ha) ?_ ?_⟩
    · rintro i x H2 hi ⟨s2, hD⟩
      obtain ⟨t, ht, tx⟩ := hx.get hi
      have ilt := (List.getElem?_eq_some_iff.mp hi).1
      refine ⟨rfl, _, rfl, _, rfl, n, x, t, rfl, tx.same s2, va.tr t (List.mem_of_getElem? ht), _, hD, ?_, same_off nD s2 off_upd, ?_⟩
      · rw [List.length_map, List.length_replicate]
        exact small1000 (by omega)
      · rw [upd_same, List.replicate_succ', List.map_append]
        rfl
    · rintro H2 ⟨s2, hD⟩
      refine ⟨_, _, rfl, .of hD, _, rfl, iteNT' (by simp) ?_⟩
      -- pairs
      refine ⟨_, rfl, a, rfl, ⟨_, sqT_same s2 ha⟩, fun D2 nD2 => lc_tup (K := K) (a := a) (xs := xs) (fun i H' => Same H2 H' ∧ ∃ ys, H' D2 = some (.lst ys) ∧ TIs K H' ys ((bs.take i).map (·.take 2))) ⟨same_new nD2, [], upd_same, by simp [TIs]⟩ (fun i H' _ h => sqT_same (s2.trans h.1) ha) ?_ ?_⟩
      · rintro i x H3 hi ⟨s3, ys, hD2, hy⟩
        obtain ⟨t, ht, tx⟩ := hx.get hi
        have ilt := (List.getElem?_eq_some_iff.mp hi).1
        obtain ⟨b, rfl, hb⟩ := tx.same (s2.trans s3)
        obtain ⟨l, h, d, rfl, _⟩ := va.tr t (List.mem_of_getElem? ht)
        refine ⟨_, _, rfl, hb, rfl, _, _, rfl, _, _, rfl, _, _, rfl, rfl, rfl, _, rfl, _, rfl, show 2 ≤ sizeLine by decide, fun p np => ?_⟩
        have hD3 : (upd H3 p (.tup [.int l, .int h])) D2 = some (.lst ys) := same_new np _ _ hD2
        refine ⟨_, hD3, ?_, same_off nD2 (s3.trans (same_new np)) off_upd, _, upd_same, ?_⟩
        · have := hy.len
          rw [List.length_map, List.length_take] at this
          exact small1000 (by omega)
        · rw [take_snoc ht, List.map_append]
          exact (off_upd.tis hD3 (hy.same (same_new np))).snoc (off_upd.ti hD3 ⟨p, rfl, .of upd_same⟩)
      · rintro H3 ⟨s3, ys, hD2, hy⟩
        rw [hlen, List.take_length] at hy
        have yl := hy.len
        rw [List.length_map] at yl
        refine ⟨_, rfl, _, rfl, _, rfl, _, _, rfl, .of hD2, fun p np => ?_⟩
        have cut : cutV ys (some 1) none = ys.drop 1 := by
          show (ys.drop (HT.sIx ys.length 0 (some ((1 : Nat) : Int)))).take (ys.length - HT.sIx ys.length 0 (some ((1 : Nat) : Int))) = ys.drop 1
          rw [HT.sIx_nat]
          rcases ys with _ | ⟨y, ys⟩
          · rfl
          · rw [Nat.min_eq_left (by simp)]
            simp
        have hz := walk_zip (K := K) (a := D2) (b := p) (xs := ys) (ys := ys.drop 1) (n := ys.length - 1) (by rw [List.length_drop]; omega)
        rw [cut]
        have hD4 : (upd H3 p (.lst (ys.drop 1))) D2 = some (.lst ys) := same_new np _ _ hD2
        refine ⟨_, _, _, _, rfl, .of hD4, .of upd_same, fun D3 nD3 => lc_it hz (fun i H' => Same (upd H3 p (.lst (ys.drop 1))) H' ∧ H' D3 = some (.lst ((List.replicate i true).map V.bl))) ⟨same_new nD3, upd_same⟩ (fun i H' _ h => ⟨.of (h.1 _ _ hD4), .of (h.1 _ _ upd_same)⟩) ?_ ?_⟩
        · rintro i x H4 H5 hi ⟨s4, hD5⟩ ⟨q, x1, x2, rfl, nq, rfl, e1, e2⟩
          have e2' : ys[i + 1]? = some x2 := by
            have e2b : (List.drop 1 ys)[i]? = some x2 := e2
            rw [List.getElem?_drop] at e2b
            rw [Nat.add_comm]
            exact e2b
          obtain ⟨t1, g1, y1⟩ := hy.get e1
          obtain ⟨t2, g2, y2⟩ := hy.get e2'
          have s5 : Same H3 (upd H4 q (.tup [x1, x2])) := (same_new np).trans (s4.trans (same_new nq))
          obtain ⟨a1, rfl, z1⟩ := y1.same s5
          obtain ⟨a2, rfl, z2⟩ := y2.same s5
          have lt : HT.lexLt t1 t2 = true := by
            obtain ⟨l1, e1⟩ := List.getElem?_eq_some_iff.mp g1
            obtain ⟨l2, e2⟩ := List.getElem?_eq_some_iff.mp g2
            have := List.pairwise_iff_getElem.mp va.as i (i + 1) l1 l2 (by omega)
            rw [e1, e2] at this
            exact this
          refine ⟨_, _, rfl, .of upd_same, rfl, _, _, rfl, _, _, rfl, rfl, rfl, _, rfl, _, rfl, _, _, _, _, rfl, rfl, z1, z2, ?_⟩
          rw [lt]
          have hD6 := same_new (o := .tup [.ref a1, .ref a2]) nq _ _ hD5
          refine ⟨_, hD6, ?_, same_off nD3 (s4.trans (same_new nq)) off_upd, ?_⟩
          · rw [List.length_map, List.length_replicate]
            exact small1000 (by omega)
          · rw [upd_same, List.replicate_succ', List.map_append]
            rfl
        · rintro H4 ⟨s4, hD5⟩
          refine ⟨_, _, rfl, .of hD5, ?_⟩
          have e : (List.replicate (ys.length - 1) true).all id = true := by simp
          rw [e]
          exact k _ (s2.trans (s3.trans ((same_new np).trans s4)))
end
end Sk

namespace Sk
open PySem L2 Ow
/-! the bond of two letters, in numbers -/
def isPr (i j : Int) (t : List Int) : Bool := (t.take 2 == [i, j]) || (t.take 2 == [j, i])
def bondOf (bs : List (List Int)) (i j : Int) : Int := match bs.filter (isPr i j) with
  | [] => 2
  | t :: _ => t.getD 2 0
theorem eqv2 (a b c d : Int) : PyData.eqv (dT [a, b]) (dT [c, d]) = (([a, b] : List Int) == [c, d]) := by
  simp [dT, PyData.eqv, PyData.eqvAll]
section
variable {P : Program} {w : World} {K : PySem.W.Frag} {mg : Str → Option Value} {base : Heap} {C : Addr}
theorem ok_init (T : Txt K mg C) {f e : Addr} {fd : FuncData} (D : FunD K "__init__" "System.__init__" (defArgs s_init) (defBody s_init) (defScope s_init) [.ref e] [] f fd) : FnOk P w K mg base CX0 4 f fd ["self", "letters", "bonds"] (spInit K C) := by
  refine D.ok sc_init (fun vs H Q E h => ?_) (fun cdv A outer s H vs Q E hr h => ?_)
  · obtain ⟨p, dx, n, bv, bs, rfl, _⟩ := h
    rfl
  · obtain ⟨p, dx, n, bv, bs, rfl, hb, va, hp, q⟩ := h
    refine ⟨_, (pss_cons (ps_if (pt_not (pt_val (pe_cal (cal_is_within T) (hr.mono (by decide)) (by rfl) (pa_cons (pv 1) (pa_cons pe_int (pa_cons (C8.pe_gc (v := .int 4) (by rfl) T.gML) pa_nil)))))) (pss_one ps_never) pss_nil)
      (pss_cons (ps_if (pt_not (pt_val (pe_cal (cal_are_bonds T) (hr.mono (by decide)) (by rfl) (pa_cons (pv 1) (pa_cons (pv 2) pa_nil))))) (pss_one ps_never) pss_nil)
      (pss_cons (ps_fld (pv 0) (pv 1) rfl)
      (pss_one (ps_fld (pv 0) (pv 2) rfl))))), ?_⟩
    refine ⟨_, rfl, _, _, _, rfl, _, rfl, iteNT' (by rw [decide_eq_true va.lo, decide_eq_true va.hi]; rfl) ?_⟩
    refine ⟨_, rfl, _, rfl, n, bv, bs, rfl, hb, va, fun H1 s1 => ⟨_, rfl, iteF ?_⟩⟩
    refine ⟨_, rfl, _, rfl, p, C, dx, [], rfl, s1 _ _ hp, T.cl, T.nL, (by decide), _, rfl, _, rfl, p, C, dx, _, rfl, upd_same, T.cl, T.nB, (show 1 < 1000 by decide), ?_⟩
    show Q .non (upd (upd H1 p _) p _)
    rw [upd_upd]
    exact q _ s1
/-- a new system -/
def NewS (K : PySem.W.Frag) (C : Addr) (H : Hp) (Q : VK) (n : Int) (bv : V) (bs : List (List Int)) : Prop := ∀ (r : Addr) (H' : Hp), Same H H' → H r = none → SysAt K C H' r n bv bs → Q (.ref r) H'
def tSys (K : PySem.W.Frag) (C : Addr) (t : TA) : TE := fun σ H Q => t σ H fun vs H1 => ∃ n bv bs, (vs = [.int n, bv] ∨ (vs = [.int n] ∧ bs = [] ∧ ∃ e, bv = .ref e)) ∧ (vs = [.int n, bv] → BsAt K H1 bv bs) ∧ Valid n bs ∧ ∀ bv, NewS K C H1 Q n bv bs
section
variable {X : Cx} {k : Nat} {e : Expr} {es : List Expr} {ta : TE} {t : TA} {p pos : Pos}
theorem run_sys {pins : List (Addr × Obj)} {σ : L2.St} {H1 : Hp} {s1 : Shared} {Q : VK} {us : List Value} {vs : List V} (T : Txt X.K X.mg C) (hr : Room 5 X.A) (I1 : Inv X pins σ H1 s1) (r : Vals vs us) {f fd e0} (M : Mk X.K C f) (D : FunD X.K "__init__" "System.__init__" (defArgs s_init) (defBody s_init) (defScope s_init) [.ref e0] [] f fd) (sE : ∀ H, SqT X.K H e0 [])
    (h : ∃ n bv bs, (vs = [.int n, bv] ∨ (vs = [.int n] ∧ bs = [] ∧ ∃ e, bv = .ref e)) ∧ (vs = [.int n, bv] → BsAt X.K H1 bv bs) ∧ Valid n bs ∧ ∀ bv, NewS X.K C H1 Q n bv bs) : wpAny (model X.prog X.w) X.A (call (.ref C) us) (EP X pins σ Q) X.xe s1 := by
  obtain ⟨n, bv, bs, hvs, hb, va, q⟩ := h
  have b2 : ∃ ds, Vals (([.ref e0] : List V).drop 1) ds ∧ Binds X.K fd ["self", "letters", "bonds"] ds := by
    refine D.binds1 3 1 (by simp) rfl fun T kV doc pm an cdv ct us its hl hi => ?_
    match us, hl, its, hi with
    | [_, _, _], _, [_], _ => exact ⟨_, rfl, rfl⟩
  have b1 : ∃ ds, Vals (([.ref e0] : List V).drop 0) ds ∧ Binds X.K fd ["self", "letters", "bonds"] ds := by
    refine D.binds1 2 0 (by simp) rfl fun T kV doc pm an cdv ct us its hl hi => ?_
    match us, hl, its, hi with
    | [_, _], _, [_], _ => exact ⟨_, rfl, rfl⟩
  obtain ⟨d2, v2, b2⟩ := b2
  obtain ⟨d1, v1, b1⟩ := b1
  have fin : ∀ bv, BsAt X.K H1 bv bs → ∀ x dx, H1 x = none → H1 dx = none → dx ≠ x → spInit X.K C [.ref x, .int n, bv] (upd (upd H1 dx (.own x)) x (.ins C dx [])) (fun v H2 => v = .non ∧ Q (.ref x) H2) E0 := fun bv hb x dx nx ndx ne => by
    have s0 : Same H1 (upd (upd H1 dx (.own x)) x (.ins C dx [])) := fun c o e => by
      rw [upd_ne (ne_of_none e nx), upd_ne (ne_of_none e ndx)]
      exact e
    refine ⟨x, dx, n, bv, bs, rfl, hb.same s0, va, upd_same, fun H' s' => ⟨rfl, ?_⟩⟩
    have sx : Same H1 (upd H' x (.ins C dx (sf n bv))) := fun c o e => by
      rw [upd_ne (ne_of_none e nx)]
      exact s' _ _ (s0 _ _ e)
    exact q bv x _ sx nx ⟨⟨dx, upd_same⟩, hb.same sx⟩
  rcases hvs with rfl | ⟨rfl, rfl, _⟩
  · exact run_make M (ok_init T D) hr b2 v2 pass0 I1 r (fin bv (hb rfl))
  · exact run_make M (ok_init T D) hr b1 v1 pass0 I1 r (fin (.ref e0) ⟨e0, [], rfl, sE _, trivial⟩)
theorem pe_sys (T : Txt X.K X.mg C) (hr : Room 5 X.A) (hg : Gl X "System") (ha : PA X (e :: es) t)
    (he : starEach (e :: es) X.env = (false, eval e X.env) :: starEach es X.env := by rfl) (hpl : (backTo pos (starEach es X.env)).any (·.1) = false := by rfl) : PE X (.Call (.Name "System" p) (e :: es) [] pos) (tSys X.K C t) := by
  obtain ⟨f, fd, e0, M, D, sE⟩ := T.mkS
  refine ⟨fun pins s σ H Q I h => ?_⟩
  refine wpAny_Call_Name_kw (ld_glob I hg T.mgSystem ?_ (by decide))
  refine PySem.W.callWith_K (h₀ := X.base) I.ok.mod.kin M.kp (thn (ha.run pos pins s σ H _ I h) fun us s1 ⟨vs, H1, I1, r, q⟩ => ⟨I1.kIn, run_sys T hr I1 r M D sE q⟩) he hpl
end
def spL (K : PySem.W.Frag) (C : Addr) : Sp := fun vs H Q _ => ∃ (p : Addr) (n : Int) (bv : V) (bs : List (List Int)), vs = [.ref p] ∧ SysAt K C H p n bv bs ∧ Q (.int n) H
def spB (K : PySem.W.Frag) (C : Addr) : Sp := fun vs H Q _ => ∃ (p : Addr) (n : Int) (bv : V) (bs : List (List Int)), vs = [.ref p] ∧ SysAt K C H p n bv bs ∧ Q bv H
def spBondOf (K : PySem.W.Frag) (C : Addr) : Sp := fun vs H Q _ => ∃ (p : Addr) (n : Int) (bv : V) (bs : List (List Int)) (i j : Int), vs = [.ref p, .int i, .int j] ∧ SysAt K C H p n bv bs ∧ Valid n bs ∧ 0 ≤ i ∧ i < n ∧ 0 ≤ j ∧ j < n ∧ i ≠ j ∧
  ∀ H' : Hp, Same H H' → Q (.int (bondOf bs i j)) H'
def spEq (K : PySem.W.Frag) (C : Addr) : Sp := fun vs H Q _ => ∃ (p : Addr) (x : V) (n : Int) (bv : V) (bs : List (List Int)), vs = [.ref p, x] ∧ SysAt K C H p n bv bs ∧
  ((∃ q m cv cs, x = .ref q ∧ SysAt K C H q m cv cs ∧ Q (.bl (decide (n = m) && PyData.eqv (dB bs) (dB cs))) H) ∨ (∃ t, TyX K H x t ∧ PySem.W.kitOne K t (.ref C) = some false ∧ Q (.bl false) H))
theorem ok_letters (T : Txt K mg C) {f : Addr} {fd : FuncData} (D : Fun K "letters" "System.letters" s_letters f fd) : FnOk P w K mg base CX0 1 f fd ["self"] (spL K C) := by
  refine D.ok sc_letters (fun vs H Q E h => ?_) (fun cdv A outer s H vs Q E hr h => ?_)
  · obtain ⟨p, n, bv, bs, rfl, _⟩ := h
    rfl
  · obtain ⟨p, n, bv, bs, rfl, ⟨⟨dx, g⟩, hb⟩, q⟩ := h
    exact ⟨_, (pss_one (ps_ret (pe_fld (pv 0) rfl))), _, rfl, _, _, _, _, _, rfl, g, T.cl, T.nL, sf_l _ _, q⟩
theorem ok_bonds (T : Txt K mg C) {f : Addr} {fd : FuncData} (D : Fun K "bonds" "System.bonds" s_bonds f fd) : FnOk P w K mg base CX0 1 f fd ["self"] (spB K C) := by
  refine D.ok sc_bonds (fun vs H Q E h => ?_) (fun cdv A outer s H vs Q E hr h => ?_)
  · obtain ⟨p, n, bv, bs, rfl, _⟩ := h
    rfl
  · obtain ⟨p, n, bv, bs, rfl, ⟨⟨dx, g⟩, hb⟩, q⟩ := h
    exact ⟨_, (pss_one (ps_ret (pe_fld (pv 0) rfl))), _, rfl, _, _, _, _, _, rfl, g, T.cl, T.nB, sf_b _ _, q⟩
theorem ok_eq (T : Txt K mg C) {f : Addr} {fd : FuncData} (D : Fun K "__eq__" "System.__eq__" s_eq f fd) : FnOk P w K mg base CX0 1 f fd ["self", "other"] (spEq K C) := by
  refine D.ok sc_eq (fun vs H Q E h => ?_) (fun cdv A outer s H vs Q E hr h => ?_)
  · obtain ⟨p, x, n, bv, bs, rfl, _⟩ := h
    rfl
  · obtain ⟨p, x, n, bv, bs, rfl, ⟨⟨dx, g⟩, hb⟩, k⟩ := h
    refine ⟨_, (pss_one (ps_ret (pe_and (pe_callB call_isi (by rfl) T.b_isinstance (by decide +kernel) (pa_cons (pv 1) (pa_cons (pe_glob (v := .ref C) (by rfl) T.mgSystem rfl) pa_nil))) (pe_and (pe_cmpR op_eq (pe_fld (pv 0) rfl) (pe_fld (pv 1) rfl) (nomark _)) (pe_one (pe_cmpR (op_eqD hr.units) (pe_fld (pv 0) rfl) (pe_fld (pv 1) rfl) (nomark _))))))), ?_⟩
    rcases k with ⟨q, m, cv, cs, rfl, ⟨⟨dy, g'⟩, hc⟩, k⟩ | ⟨t, ty, kt, k⟩
    · refine ⟨_, rfl, _, _, _, _, true, rfl, .own C, .base (.ins g' T.cl T.ic.ha T.ic.hn T.ic.htk T.ic.hm), T.ic.me, _, rfl, iteT ?_⟩
      refine ⟨_, rfl, _, _, _, _, _, rfl, g, T.cl, T.nL, sf_l _ _, _, rfl, _, _, _, _, _, rfl, g', T.cl, T.nL, sf_l _ _, rfl, _, rfl, ?_⟩
      rw [show decide (n = m) = decide (V.int n = V.int m) from decide_eq_decide.mpr ⟨fun h => by rw [h], V.int.inj⟩] at k
      refine ite2 (fun h => ?_) (fun h => ?_)
      · rw [h, Bool.true_and] at k
        exact ⟨_, rfl, _, _, _, _, _, rfl, g, T.cl, T.nB, sf_b _ _, _, rfl, _, _, _, _, _, rfl, g', T.cl, T.nB, sf_b _ _, _, _, hb.dp, hc.dp, sh_dB _, sh_dB _, k⟩
      · rw [Bool.eq_false_iff.mpr h] at k
        exact k
    · exact ⟨_, rfl, _, _, _, _, false, rfl, .own C, ty, kt, _, rfl, iteF k⟩
theorem ok_bond_of (T : Txt K mg C) {f : Addr} {fd : FuncData} (D : Fun K "bond_of" "System.bond_of" s_bond_of f fd) : FnOk P w K mg base CX0 2 f fd ["self", "one", "other"] (spBondOf K C) := by
  refine D.ok sc_bond_of (fun vs H Q E h => ?_) (fun cdv A outer s H vs Q E hr h => ?_)
  · obtain ⟨p, n, bv, bs, i, j, rfl, _⟩ := h
    rfl
  · obtain ⟨p, n, bv, bs, i, j, rfl, ⟨⟨dx, g⟩, hb⟩, va, i0, i1, j0, j1, ne, k⟩ := h
    refine ⟨_, (pss_cons (ps_if (pt_not (pt_val (pe_cal (cal_is_within T) (hr.mono (by decide)) (by rfl) (pa_cons (pv 1) (pa_cons pe_int (pa_cons (pe_op op_sub (pe_fld (pv 0) rfl) pe_int) pa_nil)))))) (pss_one ps_never) pss_nil)
      (pss_cons (ps_if (pt_not (pt_val (pe_cal (cal_is_within T) (hr.mono (by decide)) (by rfl) (pa_cons (pv 2) (pa_cons pe_int (pa_cons (pe_op op_sub (pe_fld (pv 0) rfl) pe_int) pa_nil)))))) (pss_one ps_never) pss_nil)
      (pss_cons (ps_if (pt_cmpR op_eq (pv 1) (pv 2) (nomark _)) (pss_one ps_never) pss_nil)
      (pss_cons (ps_setLc (i := 3) (own := [("low", 4), ("high", 5), ("bond", 6)]) (g := gTup K 3 (gCons (gName 4) (gCons (gName 5) (gCons (gName 6) (gNil))))) rfl sc_bond_of.nd rfl rfl (sw_true rfl rfl rfl (by decide +kernel)) (pi_tup (pe_fld (pv 0) rfl)) (blkOk_by (own := [("low", 4), ("high", 5), ("bond", 6)]) (N := ["self", "one", "other", "told", "low", "high", "bond"]) (sc := defScope s_bond_of) (by decide +kernel)) (fun _ _ _ _ _ => (pg_tup (by rfl) (pgs_cons (pg_name (i := 4) sc_bond_of.nd rfl (Or.inl rfl)) (pgs_cons (pg_name (i := 5) sc_bond_of.nd rfl (Or.inl rfl)) (pgs_cons (pg_name (i := 6) sc_bond_of.nd rfl (Or.inl rfl)) pgs_nil))))) (fun _ _ _ _ _ => (pts_one (pt_cmpR (show OpR _ _ (rInT K) from (op_inT (u65 hr))) (pe_tup (pa_cons (pv 4) (pa_cons (pv 5) pa_nil))) (pe_tup (pa_cons (pe_tup (pa_cons (pv 1) (pa_cons (pv 2) pa_nil))) (pa_cons (pe_tup (pa_cons (pv 2) (pa_cons (pv 1) pa_nil))) pa_nil))) (by rfl)))) (fun _ _ _ _ _ => (pv 6)))
      (pss_one (ps_ret (pe_ifExp (pt_truth (pv 3) (by intro _; rfl)) (pe_ix ix_list (pv 3) pe_int (fun _ _ => rfl)) pe_int))))))), ?_⟩
    refine ⟨_, rfl, _, rfl, _, _, _, _, _, rfl, g, T.cl, T.nL, sf_l _ _, _, _, rfl, rfl, _, _, _, rfl, _, rfl, iteNT' (by rw [decide_eq_true i0, decide_eq_true (show i ≤ n - 1 by omega)]; rfl) ?_⟩
    refine ⟨_, rfl, _, rfl, _, _, _, _, _, rfl, g, T.cl, T.nL, sf_l _ _, _, _, rfl, rfl, _, _, _, rfl, _, rfl, iteNT' (by rw [decide_eq_true j0, decide_eq_true (show j ≤ n - 1 by omega)]; rfl) ?_⟩
    refine ⟨_, rfl, _, rfl, rfl, _, rfl, ite2 (fun h => absurd (V.int.inj (of_decide_eq_true h)) ne) (fun _ => ?_)⟩
    obtain ⟨a, xs, rfl, ha, hx⟩ := hb
    have hlen := hx.len
    have few := va.few
    refine ⟨_, rfl, _, _, _, _, _, rfl, g, T.cl, T.nB, sf_b _ _, a, rfl, ⟨_, ha⟩, fun D nD => lc_tup (K := K) (a := a) (xs := xs) (fun m H' => Same H H' ∧ H' D = some (.lst (((bs.take m).filter (isPr i j)).map fun t => V.int (t.getD 2 0)))) ⟨same_new nD, upd_same⟩ (fun m H' _ h => sqT_same h.1 ha) ?_ ?_⟩
    · rintro m x H2 hm ⟨s2, hD⟩
      obtain ⟨t, ht, tx⟩ := hx.get hm
      have ilt := (List.getElem?_eq_some_iff.mp hm).1
      obtain ⟨b, rfl, hb⟩ := tx.same s2
      obtain ⟨l, h, d, rfl, _⟩ := va.tr t (List.mem_of_getElem? ht)
      refine ⟨_, _, rfl, hb, rfl, _, _, rfl, _, _, rfl, _, _, rfl, rfl, rfl, ?_⟩
      refine ⟨_, rfl, _, rfl, show 2 ≤ sizeLine by decide, fun p1 n1 => ?_⟩
      refine ⟨_, rfl, _, rfl, show 2 ≤ sizeLine by decide, fun p2 n2 => ?_⟩
      refine ⟨_, rfl, _, rfl, show 2 ≤ sizeLine by decide, fun p3 n3 => ?_⟩
      refine ⟨show 2 ≤ sizeLine by decide, fun p4 n4 => ?_⟩
      have S4 : Same H2 (upd (upd (upd (upd H2 p1 (.tup [.int l, .int h])) p2 (.tup [.int i, .int j])) p3 (.tup [.int j, .int i])) p4 (.tup [.ref p2, .ref p3])) := (same_new n1).trans ((same_new n2).trans ((same_new n3).trans (same_new n4)))
      have g1 : (upd (upd (upd (upd H2 p1 (.tup [.int l, .int h])) p2 (.tup [.int i, .int j])) p3 (.tup [.int j, .int i])) p4 (.tup [.ref p2, .ref p3])) p1 = some (.tup [.int l, .int h]) := same_new n4 _ _ (same_new n3 _ _ (same_new n2 _ _ upd_same))
      have g2 : (upd (upd (upd (upd H2 p1 (.tup [.int l, .int h])) p2 (.tup [.int i, .int j])) p3 (.tup [.int j, .int i])) p4 (.tup [.ref p2, .ref p3])) p2 = some (.tup [.int i, .int j]) := same_new n4 _ _ (same_new n3 _ _ upd_same)
      have g3 : (upd (upd (upd (upd H2 p1 (.tup [.int l, .int h])) p2 (.tup [.int i, .int j])) p3 (.tup [.int j, .int i])) p4 (.tup [.ref p2, .ref p3])) p3 = some (.tup [.int j, .int i]) := same_new n4 _ _ upd_same
      have g4 : (upd (upd (upd (upd H2 p1 (.tup [.int l, .int h])) p2 (.tup [.int i, .int j])) p3 (.tup [.int j, .int i])) p4 (.tup [.ref p2, .ref p3])) p4 = some (.tup [.ref p2, .ref p3]) := upd_same
      generalize (upd (upd (upd (upd H2 p1 (.tup [.int l, .int h])) p2 (.tup [.int i, .int j])) p3 (.tup [.int j, .int i])) p4 (.tup [.ref p2, .ref p3])) = H4 at S4 g1 g2 g3 g4
      have dz : ∀ {q : Addr} {u v : Int}, H4 q = some (.tup [.int u, .int v]) → Dp K H4 (.ref q) (dT [u, v]) := fun {q u v} g => TI.dp (ns := [u, v]) ⟨q, rfl, .of g⟩
      refine ⟨dT [l, h], [dT [i, j], dT [j, i]], dz g1, .tup (.of g4) (.cons (dz g2) (.cons (dz g3) .nil)), sh_dT _, sh_dB [[i, j], [j, i]], _, rfl, ?_⟩
      have hD4 := S4 _ _ hD
      have et : ([dT [i, j], dT [j, i]].any fun z => PyData.eqv z (dT [l, h])) = isPr i j [l, h, d] := by
        simp only [List.any_cons, List.any_nil, Bool.or_false, eqv2]
        unfold isPr
        rw [show ([l, h, d] : List Int).take 2 = [l, h] from rfl]
        congr 1 <;> exact Bool.beq_comm
      rw [et]
      refine ite2 (fun hp => ?_) (fun hp => ?_)
      · refine ⟨_, rfl, _, hD4, ?_, same_off nD (s2.trans S4) off_upd, ?_⟩
        · rw [List.length_map]
          have := List.length_filter_le (isPr i j) (bs.take m)
          rw [List.length_take] at this
          exact small1000 (by omega)
        · rw [upd_same, take_snoc ht, List.filter_append, List.map_append, List.filter_cons_of_pos hp]
          rfl
      · refine ⟨s2.trans S4, ?_⟩
        rw [take_snoc ht, List.filter_append, List.filter_cons_of_neg hp, List.filter_nil, List.append_nil]
        exact hD4
    · rintro H2 ⟨s2, hD⟩
      rw [hlen, List.take_length] at hD
      refine ⟨_, rfl, _, .inl ⟨_, .of hD, rfl⟩, ?_⟩
      have kk := k _ s2
      unfold bondOf at kk
      cases hf : bs.filter (isPr i j) with
      | nil =>
        rw [hf] at kk
        exact iteF kk
      | cons t ts =>
        rw [hf] at kk hD
        refine iteT ?_
        exact ⟨_, rfl, _, _, _, _, rfl, rfl, .of hD, at_of (j := 0) rfl rfl, kk⟩
end
end Sk

namespace Sk
open PySem L2 Ow
/-! texts -/
def tx (i : Int) : Str := toString i
def itT (t : List Int) : Str := (((((Str.empty ++ ", ") ++ tx (t.getD 2 0)) ++ " of ") ++ tx (t.getD 0 0)) ++ " ") ++ tx (t.getD 1 0)
def bT : List (List Int) → Str
  | [] => Str.empty
  | t :: ts => itT t ++ bT ts
def sT (n : Int) (bs : List (List Int)) : Str := ((Str.empty ++ tx n) ++ " letters") ++ bT bs
theorem tx_len {i : Int} (h0 : 0 ≤ i) (h1 : i ≤ 9) : (tx i).length = 1 := by
  have : i = 0 ∨ i = 1 ∨ i = 2 ∨ i = 3 ∨ i = 4 ∨ i = 5 ∨ i = 6 ∨ i = 7 ∨ i = 8 ∨ i = 9 := by omega
  rcases this with rfl | rfl | rfl | rfl | rfl | rfl | rfl | rfl | rfl | rfl <;> decide +kernel
theorem lg {i : Int} (h0 : 0 ≤ i) (h1 : i ≤ 9) : i.natAbs.log2 < 1920 := by
  have : i = 0 ∨ i = 1 ∨ i = 2 ∨ i = 3 ∨ i = 4 ∨ i = 5 ∨ i = 6 ∨ i = 7 ∨ i = 8 ∨ i = 9 := by omega
  rcases this with rfl | rfl | rfl | rfl | rfl | rfl | rfl | rfl | rfl | rfl <;> decide +kernel
theorem itT_len {n : Int} {t : List Int} (hn : n ≤ 4) (h : trOk n t) : (itT t).length = 10 := by
  obtain ⟨l, h, b, rfl, h0, h1, h2, h3⟩ := h
  unfold itT
  simp only [Str.length_append]
  have e1 : (tx (([l, h, b] : List Int).getD 2 0)).length = 1 := tx_len (show 0 ≤ b by omega) (show b ≤ 9 by omega)
  have e2 : (tx (([l, h, b] : List Int).getD 0 0)).length = 1 := tx_len (show 0 ≤ l by omega) (show l ≤ 9 by omega)
  have e3 : (tx (([l, h, b] : List Int).getD 1 0)).length = 1 := tx_len (show 0 ≤ h by omega) (show h ≤ 9 by omega)
  have l1 : (Str.ofString ", ").length = 2 := by decide +kernel
  have l2 : (Str.ofString " of ").length = 4 := by decide +kernel
  have l3 : (Str.ofString " ").length = 1 := by decide +kernel
  have l0 : Str.empty.length = 0 := rfl
  omega
theorem bT_len {n : Int} (hn : n ≤ 4) : ∀ {bs : List (List Int)}, (∀ t ∈ bs, trOk n t) → (bT bs).length = 10 * bs.length
  | [], _ => rfl
  | t :: ts, h => by
    have e := bT_len hn (bs := ts) fun x hx => h x (List.mem_cons_of_mem _ hx)
    unfold bT
    rw [Str.length_append, itT_len hn (h t (List.mem_cons_self ..)), e, List.length_cons]
    omega
theorem bT_snoc (t : List Int) : ∀ bs : List (List Int), bT (bs ++ [t]) = bT bs ++ itT t
  | [] => by
    show itT t ++ Str.empty = Str.empty ++ itT t
    rw [Str.append_empty, Str.empty_append]
  | b :: bs => by
    show itT b ++ bT (bs ++ [t]) = (itT b ++ bT bs) ++ itT t
    rw [bT_snoc t bs, Str.append_assoc]
theorem join_bT : ∀ bs : List (List Int), Txt.join Str.empty (bs.map itT) = bT bs := fun bs => by
  show Builtin.Str.glued Str.empty (bs.map itT) = bT bs
  rw [StrLaws.glued_eq_join]
  induction bs with
  | nil => rfl
  | cons t ts ih =>
    cases ts with
    | nil =>
      show itT t = itT t ++ Str.empty
      rw [Str.append_empty]
    | cons u us =>
      show itT t ++ Str.empty ++ Str.join Str.empty ((u :: us).map itT) = itT t ++ bT (u :: us)
      rw [ih, Str.append_empty]
def spStr (K : PySem.W.Frag) (C : Addr) : Sp := fun vs H Q _ => ∃ (p : Addr) (n : Int) (bv : V) (bs : List (List Int)), vs = [.ref p] ∧ SysAt K C H p n bv bs ∧ Valid n bs ∧ ∀ H' : Hp, Same H H' → Q (.str (sT n bs)) H'
section
variable {P : Program} {w : World} {K : PySem.W.Frag} {mg : Str → Option Value} {base : Heap} {C : Addr}
theorem szl {n : Nat} (h : n ≤ 1000) : n ≤ sizeLine := Nat.le_trans h (by decide)
theorem ok_str (T : Txt K mg C) {f : Addr} {fd : FuncData} (D : Fun K "__str__" "System.__str__" s_str f fd) : FnOk P w K mg base CX0 1 f fd ["self"] (spStr K C) := by
  refine D.ok sc_str (fun vs H Q E h => ?_) (fun cdv A outer s H vs Q E hr h => ?_)
  · obtain ⟨p, n, bv, bs, rfl, _⟩ := h
    rfl
  · obtain ⟨p, n, bv, bs, rfl, ⟨⟨dx, g⟩, hb⟩, va, k⟩ := h
    refine ⟨_, (pss_cons (ps_set (i := 1) sc_str.nd rfl (Or.inl rfl) (pe_join pe_str (pe_lc (own := [("low", 2), ("high", 3), ("bond", 4)]) (g := gTup K 3 (gCons (gName 2) (gCons (gName 3) (gCons (gName 4) (gNil))))) (tt := tYes) rfl sc_str.nd (pi_tup (pe_fld (pv 0) rfl)) (blkOk_by (own := [("low", 2), ("high", 3), ("bond", 4)]) (N := ["self", "bonds", "low", "high", "bond"]) (sc := defScope s_str) (by decide +kernel)) (fun _ _ _ _ _ => (pg_tup (by rfl) (pgs_cons (pg_name (i := 2) sc_str.nd rfl (Or.inl rfl)) (pgs_cons (pg_name (i := 3) sc_str.nd rfl (Or.inl rfl)) (pgs_cons (pg_name (i := 4) sc_str.nd rfl (Or.inl rfl)) pgs_nil))))) (fun _ _ _ _ _ => pts_nil) (fun _ _ _ _ _ => (pe_fstr (.cons pe_str (.cons (pe_fmt (pv 4)) (.cons pe_str (.cons (pe_fmt (pv 2)) (.cons pe_str (.cons (pe_fmt (pv 3)) .nil)))))))))))
      (pss_one (ps_ret (pe_fstr (.cons (pe_fmt (pe_fld (pv 0) rfl)) (.cons pe_str (.cons (pe_fmt (pv 1)) .nil))))))), ?_⟩
    obtain ⟨a, xs, rfl, ha, hx⟩ := hb
    have hlen := hx.len
    have few := va.few
    have l1 : (Str.ofString ", ").length = 2 := by decide +kernel
    have l2 : (Str.ofString " of ").length = 4 := by decide +kernel
    have l3 : (Str.ofString " ").length = 1 := by decide +kernel
    have l4 : (Str.ofString " letters").length = 8 := by decide +kernel
    have l0 : Str.empty.length = 0 := rfl
    refine ⟨⟨_, rfl⟩, _, rfl, _, _, _, _, _, rfl, g, T.cl, T.nB, sf_b _ _, a, rfl, ⟨_, ha⟩, fun D nD => lc_tup (K := K) (a := a) (xs := xs) (fun m H' => Same H H' ∧ H' D = some (.lst (((bs.take m).map itT).map V.str))) ⟨same_new nD, upd_same⟩ (fun m H' _ h => sqT_same h.1 ha) ?_ ?_⟩
    · rintro m x H2 hm ⟨s2, hD⟩
      obtain ⟨t, ht, tx'⟩ := hx.get hm
      have ilt := (List.getElem?_eq_some_iff.mp hm).1
      obtain ⟨b, rfl, hb⟩ := tx'.same s2
      obtain ⟨l, h, d, rfl, t0, t1, t2, t3⟩ := va.tr t (List.mem_of_getElem? ht)
      have vh := va.hi
      have e1 := tx_len (show 0 ≤ d by omega) (show d ≤ 9 by omega)
      have e2 := tx_len (show 0 ≤ l by omega) (show l ≤ 9 by omega)
      have e3 := tx_len (show 0 ≤ h by omega) (show h ≤ 9 by omega)
      refine ⟨_, _, rfl, hb, rfl, _, _, rfl, _, _, rfl, _, _, rfl, rfl, rfl, ?_⟩
      refine ⟨_, rfl, szl (by simp only [Str.length_append]; omega), _, rfl, .inr ⟨d, rfl, lg (by omega) (by omega), tx d, rfl, szl (by simp only [Str.length_append]; omega), ?_⟩⟩
      refine ⟨_, rfl, szl (by simp only [Str.length_append]; omega), _, rfl, .inr ⟨l, rfl, lg (by omega) (by omega), tx l, rfl, szl (by simp only [Str.length_append]; omega), ?_⟩⟩
      refine ⟨_, rfl, szl (by simp only [Str.length_append]; omega), _, rfl, .inr ⟨h, rfl, lg (by omega) (by omega), tx h, rfl, szl (by simp only [Str.length_append]; omega), ?_⟩⟩
      refine ⟨_, hD, ?_, same_off nD s2 off_upd, ?_⟩
      · rw [List.length_map, List.length_map, List.length_take]
        exact small1000 (by omega)
      · rw [upd_same, take_snoc ht, List.map_append, List.map_append]
        rfl
    · rintro H2 ⟨s2, hD⟩
      rw [hlen, List.take_length] at hD
      have bl := bT_len va.hi va.tr
      have n1 := va.lo
      have n4 := va.hi
      have e0 := tx_len (show 0 ≤ n by omega) (show n ≤ 9 by omega)
      refine ⟨_, _, bs.map itT, rfl, rfl, .inl (.of hD), ?_, ?_⟩
      · have : ((bs.map itT).map (·.length)).sum = 10 * bs.length := by
          rw [List.map_map]
          have : ∀ (bs : List (List Int)), (∀ t ∈ bs, trOk n t) → (bs.map ((·.length) ∘ itT)).sum = 10 * bs.length := fun bs => by
            induction bs with
            | nil => intro _; rfl
            | cons t ts ih =>
              intro h
              rw [List.map_cons, List.sum_cons, ih fun x hx => h x (List.mem_cons_of_mem _ hx)]
              show (itT t).length + _ = _
              rw [itT_len n4 (h t (List.mem_cons_self ..)), List.length_cons]
              omega
          exact this bs va.tr
        rw [this, List.length_map]
        show 10 * bs.length + bs.length * 0 ≤ 16777216
        omega
      · rw [show Txt.join (Str.ofString "") (bs.map itT) = bT bs from join_bT bs]
        refine ⟨_, rfl, _, _, _, _, _, rfl, s2 _ _ g, T.cl, T.nL, sf_l _ _, .inr ⟨n, rfl, lg (by omega) (by omega), tx n, rfl, szl (by simp only [Str.length_append]; omega), ?_⟩⟩
        refine ⟨_, rfl, szl (by simp only [Str.length_append]; omega), _, rfl, .inl ⟨_, rfl, szl (by omega), _, rfl, szl (by simp only [Str.length_append]; omega), ?_⟩⟩
        exact k _ s2
theorem cal_text (T : Txt K mg C) : Cal P w K mg base "_law_text" 1 (fun vs H Q _ => ∃ (n : Int) (v : V) (bs : List (List Int)), vs = [.int n, v] ∧ BsAt K H v bs ∧ Valid n bs ∧ Q (.str (sT n bs)) H) := by
  refine T.d_text.cal (ps := ["_law_letters", "_law_bonds"]) (fun f fd D => ?_) (fun _ _ _ _ _ _ us hl => match us, hl with | [_, _], _ => rfl)
  refine D.ok sc_text (fun vs H Q E h => ?_) (fun cdv A outer s H vs Q E hr h => ?_)
  · obtain ⟨n, v, bs, rfl, _⟩ := h
    rfl
  · obtain ⟨n, v, bs, rfl, ⟨a, xs, rfl, ha, hx⟩, va, k⟩ := h
    refine ⟨_, (pss_cons (ps_set (i := 2) sc_text.nd rfl (Or.inl rfl) (pe_op op_add_str (pe_callTy call_str_int (by rfl) T.b_str (by decide +kernel) (pa_cons (pv 0) pa_nil)) pe_str))
      (pss_cons (ps_for PassesOwn.never rfl (pi_tup (pv 1)) (pg_tup (by rfl) (pgs_cons (pg_name (i := 3) sc_text.nd rfl (Or.inl rfl)) (pgs_cons (pg_name (i := 4) sc_text.nd rfl (Or.inl rfl)) (pgs_cons (pg_name (i := 5) sc_text.nd rfl (Or.inl rfl)) pgs_nil)))) (pss_one (ps_set (i := 2) sc_text.nd rfl (Or.inl rfl) (pe_op op_add_str (pe_op op_add_str (pe_op op_add_str (pe_op op_add_str (pe_op op_add_str (pe_op op_add_str (pv 2) pe_str) (pe_callTy call_str_int (by rfl) T.b_str (by decide +kernel) (pa_cons (pv 5) pa_nil))) pe_str) (pe_callTy call_str_int (by rfl) T.b_str (by decide +kernel) (pa_cons (pv 3) pa_nil))) pe_str) (pe_callTy call_str_int (by rfl) T.b_str (by decide +kernel) (pa_cons (pv 4) pa_nil))))))
      (pss_one (ps_ret (pv 2))))), ?_⟩
    have hlen := hx.len
    have few := va.few
    have n1 := va.lo
    have n4 := va.hi
    have e0 := tx_len (show 0 ≤ n by omega) (show n ≤ 9 by omega)
    have l1 : (Str.ofString ", ").length = 2 := by decide +kernel
    have l2 : (Str.ofString " of ").length = 4 := by decide +kernel
    have l3 : (Str.ofString " ").length = 1 := by decide +kernel
    have l4 : (Str.ofString " letters").length = 8 := by decide +kernel
    refine ⟨_, rfl, n, rfl, lg (by omega) (by omega), _, _, rfl, rfl, szl (by show (tx n).length + _ ≤ 1000; omega), ?_⟩
    refine ⟨_, rfl, a, rfl, ⟨_, ha⟩, for_tup (K := K) (a := a) (xs := xs) (fun m σ H' => H' = H ∧ ∃ v1 v2 v3, σ = [some (.int n), some (.ref a), some (.str ((tx n ++ " letters") ++ bT (bs.take m))), v1, v2, v3]) ⟨rfl, none, none, none, by rw [List.take_zero]; show _ = [some (V.int n), some (V.ref a), some (V.str ((tx n ++ " letters") ++ Str.empty)), none, none, none]; rw [Str.append_empty]; rfl⟩ ?_ ?_ ?_⟩
    · rintro m σ H' _ ⟨rfl, _⟩
      exact ha
    · rintro m x σ H' hm ⟨rfl, v1, v2, v3, rfl⟩
      obtain ⟨t, ht, tx'⟩ := hx.get hm
      have ilt := (List.getElem?_eq_some_iff.mp hm).1
      obtain ⟨b, rfl, hb⟩ := tx'
      obtain ⟨l, h, d, rfl, t0, t1, t2, t3⟩ := va.tr t (List.mem_of_getElem? ht)
      have e1 := tx_len (show 0 ≤ d by omega) (show d ≤ 9 by omega)
      have e2 := tx_len (show 0 ≤ l by omega) (show l ≤ 9 by omega)
      have e3 := tx_len (show 0 ≤ h by omega) (show h ≤ 9 by omega)
      have bl := bT_len va.hi (bs := bs.take m) fun t h => va.tr t (List.mem_of_mem_take h)
      rw [List.length_take] at bl
      refine ⟨_, _, rfl, hb, rfl, _, _, rfl, _, _, rfl, _, _, rfl, rfl, ?_⟩
      refine ⟨_, rfl, _, _, rfl, rfl, szl (by simp only [Str.length_append]; omega), _, rfl, d, rfl, lg (by omega) (by omega), _, _, rfl, rfl, szl (by show _ + (tx d).length ≤ 1000; simp only [Str.length_append]; omega), ?_⟩
      refine ⟨_, _, rfl, rfl, szl (by show (_ ++ tx d).length + _ ≤ 1000; simp only [Str.length_append]; omega), _, rfl, l, rfl, lg (by omega) (by omega), _, _, rfl, rfl, szl (by show ((_ ++ tx d) ++ _).length + (tx l).length ≤ 1000; simp only [Str.length_append]; omega), ?_⟩
      refine ⟨_, _, rfl, rfl, szl (by show (((_ ++ tx d) ++ _) ++ tx l).length + _ ≤ 1000; simp only [Str.length_append]; omega), _, rfl, h, rfl, lg (by omega) (by omega), _, _, rfl, rfl, szl (by show ((((_ ++ tx d) ++ _) ++ tx l) ++ _).length + (tx h).length ≤ 1000; simp only [Str.length_append]; omega), ?_⟩
      refine ⟨rfl, some (.int l), some (.int h), some (.int d), ?_⟩
      rw [take_snoc ht, bT_snoc]
      have e : (tx n ++ " letters") ++ (bT (bs.take m) ++ itT [l, h, d]) = ((((((tx n ++ " letters") ++ bT (bs.take m)) ++ ", ") ++ tx d) ++ " of ") ++ tx l ++ " ") ++ tx h := by
        unfold itT
        simp only [Str.append_assoc, Str.empty_append]
        rfl
      rw [e]
      rfl
    · rintro σ H' ⟨rfl, v1, v2, v3, rfl⟩
      refine ⟨_, rfl, ?_⟩
      rw [hlen, List.take_length]
      unfold sT at k
      rw [Str.empty_append] at k
      exact k
end
end Sk

namespace Sk
open PySem L2 Ow
theorem cut1 (ns : List Int) : cutV (ns.map V.int) none (some 1) = (ns.take 1).map V.int := by
  show ((ns.map V.int).drop 0).take (HT.sIx (ns.map V.int).length (ns.map V.int).length (some ((1 : Nat) : Int)) - 0) = (ns.take 1).map V.int
  rw [HT.sIx_nat]
  cases ns with
  | nil => rfl
  | cons n ns =>
    rw [Nat.min_eq_left (by simp)]
    rfl
/-! the draws -/
def BasAt (H : Hp) (p : Addr) : Prop := ∃ b0 b1 b2 : Int, H p = some (.lst [.int b0, .int b1, .int b2])
theorem fm {i n : Int} (h : 0 < n) : 0 ≤ i.fmod n ∧ i.fmod n < n := by
  rw [Int.fmod_eq_emod_of_nonneg i (Int.le_of_lt h)]
  exact ⟨Int.emod_nonneg i (by omega), Int.emod_lt_of_pos i h⟩
theorem em {i n : Int} (h : 0 < n) : 0 ≤ i % n ∧ i % n < n := ⟨Int.emod_nonneg i (by omega), Int.emod_lt_of_pos i h⟩
theorem Off.trans {p : Addr} {H H1 H2 : Hp} (a : Off p H H1) (b : Off p H1 H2) : Off p H H2 := fun q o n h => b q o n (a q o n h)
theorem Off.of_same {p : Addr} {H H1 : Hp} (a : Same H H1) : Off p H H1 := fun q o _ h => a q o h
theorem Off.refl {p : Addr} {H : Hp} : Off p H H := fun _ _ _ h => h
/-- a pair of a number of letters and bonds -/
def SysD (K : PySem.W.Frag) (H : Hp) (v : V) (n : Int) (bs : List (List Int)) : Prop := ∃ a bv, v = .ref a ∧ SqT K H a [.int n, bv] ∧ BsAt K H bv bs
theorem SysD.same {K : PySem.W.Frag} {H H' : Hp} {v : V} {n : Int} {bs : List (List Int)} (h : SysD K H v n bs) (s : Same H H') : SysD K H' v n bs := h.elim fun a ⟨bv, e, q, b⟩ => ⟨a, bv, e, sqT_same s q, b.same s⟩
theorem SysD.off {K : PySem.W.Frag} {D : Addr} {H H' : Hp} {acc : List V} {v : V} {n : Int} {bs : List (List Int)} (h : SysD K H v n bs) (o : Off D H H') (hD : H D = some (.lst acc)) : SysD K H' v n bs := h.elim fun a ⟨bv, e, q, b⟩ => ⟨a, bv, e, o.sqT hD q, o.bs hD b⟩
def spVat (K : PySem.W.Frag) : Sp := fun vs H Q _ => ∃ (sa : Addr) (at_ : Int) (ns : List Int), vs = [.ref sa, .int at_] ∧ SqL K H sa (ns.map V.int) ∧ 0 ≤ at_ ∧
  ∀ (p : Addr) (H' : Hp), Same H H' → H p = none → BasAt H' p → Q (.ref p) H'
def spTap : Sp := fun vs H Q _ => ∃ (p : Addr) (n : Int), vs = [.ref p, .int n] ∧ 0 < n ∧ n ≤ 1000 ∧ BasAt H p ∧ ∀ (r : Int) (H' : Hp), 0 ≤ r → r < n → Off p H H' → BasAt H' p → Q (.int r) H'
def spTaste : Sp := fun vs H Q _ => ∃ (p l : Addr) (xs : List V), vs = [.ref p, .ref l] ∧ BasAt H p ∧ H l = some (.lst xs) ∧ l ≠ p ∧ 0 < xs.length ∧ xs.length ≤ 1000 ∧
  ∀ (v : V) (H' : Hp), v ∈ xs → Off p H H' → BasAt H' p → Q v H'
section
variable {P : Program} {w : World} {K : PySem.W.Frag} {mg : Str → Option Value} {base : Heap} {C : Addr}
theorem cal_tap (T : Txt K mg C) : Cal P w K mg base "_law_tap" 1 spTap := by
  refine T.d_tap.cal (ps := ["_law_vat_here", "_law_total"]) (fun f fd D => ?_) (fun _ _ _ _ _ _ us hl => match us, hl with | [_, _], _ => rfl)
  refine D.ok sc_tap (fun vs H Q E h => ?_) (fun cdv A outer s H vs Q E hr h => ?_)
  · obtain ⟨p, n, rfl, _⟩ := h
    rfl
  · obtain ⟨p, n, rfl, hn, hm, ⟨b0, b1, b2, hp⟩, k⟩ := h
    refine ⟨_, (pss_cons (ps_if (pt_cmpR op_gt (pe_ix ix_list (pv 0) pe_int (fun _ _ => rfl)) pe_int (nomark _)) (pss_cons (ps_set (i := 2) sc_tap.nd rfl (Or.inl rfl) (pe_op op_modN (pe_callTy call_int1 (by rfl) T.b_int (by decide +kernel) (pa_cons (pe_ix ix_list (pv 0) pe_int (fun _ _ => rfl)) pa_nil)) (pv 1)))
      (pss_cons (ps_asg (pe_op op_fdivW (pe_ix ix_list (pv 0) pe_int (fun _ _ => rfl)) (pv 1)) (pg_sub (pv 0) pe_int set_list))
      (pss_one (ps_ret (pv 2))))) pss_nil)
      (pss_cons (ps_asg (pe_op op_add (pe_ix ix_list (pv 0) pe_int (fun _ _ => rfl)) pe_int) (pg_sub (pv 0) pe_int set_list))
      (pss_cons (ps_set (i := 3) sc_tap.nd rfl (Or.inl rfl) (pe_op op_mod (pe_callTy call_int1 (by rfl) T.b_int (by decide +kernel) (pa_cons (pe_op op_add (pe_ix ix_list (pv 0) pe_int (fun _ _ => rfl)) (pe_op op_mul pe_int (pe_ix ix_list (pv 0) pe_int (fun _ _ => rfl)))) pa_nil)) pe_int))
      (pss_cons (ps_set (i := 4) sc_tap.nd rfl (Or.inl rfl) (pe_op op_mod (pe_callTy call_int1 (by rfl) T.b_int (by decide +kernel) (pa_cons (pe_op op_add (pe_op op_add (pe_op op_mulW (pv 3) (pv 3)) (pe_op op_mul pe_int (pe_ix ix_list (pv 0) pe_int (fun _ _ => rfl)))) pe_int) pa_nil)) pe_int))
      (pss_one (ps_ret (pe_op op_modN (pe_callTy call_int1 (by rfl) T.b_int (by decide +kernel) (pa_cons (pe_op op_fdiv (pe_op op_mulW (pv 4) (pe_op op_add (pe_op op_mod (pv 3) pe_int) pe_int)) pe_int) pa_nil)) (pv 1)))))))), ?_⟩
    have bn : n.natAbs < 2 ^ 10 := by omega
    refine ⟨_, rfl, _, _, _, _, rfl, rfl, .of hp, rfl, _, _, rfl, rfl, _, rfl, ite2 (fun hpos => ?_) (fun _ => ?_)⟩
    · refine ⟨_, rfl, _, _, _, _, rfl, rfl, .of hp, rfl, .inl ⟨_, rfl, _, rfl, _, _, rfl, rfl, (by omega), ?_⟩⟩
      refine ⟨_, rfl, _, _, _, _, rfl, rfl, .of hp, rfl, _, rfl, _, _, rfl, rfl, wide_div hn bn (by decide) (by decide), _, rfl, _, _, _, _, rfl, rfl, hp, rfl, ?_⟩
      refine ⟨_, rfl, k _ _ (fm hn).1 (fm hn).2 off_upd ⟨_, _, _, upd_same⟩⟩
    · refine ⟨_, rfl, _, _, _, _, rfl, rfl, .of hp, rfl, _, _, rfl, rfl, _, rfl, _, _, _, _, rfl, rfl, hp, rfl, ?_⟩
      have hq : upd H p (.lst [.int b0, .int b1, .int (b2 + 1)]) p = some (.lst [.int b0, .int b1, .int (b2 + 1)]) := upd_same
      refine ⟨_, rfl, _, _, _, _, rfl, rfl, .of hq, rfl, _, rfl, _, _, _, _, rfl, rfl, .of hq, rfl, _, _, rfl, rfl, .inl ⟨by decide, by decide⟩, _, _, rfl, rfl, .inl ⟨_, rfl, _, _, rfl, rfl, show (0 : Int) < 2305843009213693669 by decide, ?_⟩⟩
      have b61 : ∀ i m : Int, 0 < m → m ≤ 2305843009213693951 → (i % m).natAbs < 2 ^ 61 := fun i m h0 h1 => by
        have := em (i := i) h0
        omega
      have bo := b61 (b1 + 67867967 * (b2 + 1)) 2305843009213693669 (by decide) (by decide)
      refine ⟨_, rfl, _, rfl, _, _, rfl, rfl, wide_mul bo bo (by decide) (by decide) (by decide), _, rfl, _, _, _, _, rfl, rfl, .of hq, rfl, _, _, rfl, rfl, .inl ⟨by decide, by decide⟩, _, _, rfl, rfl, _, _, rfl, rfl, .inl ⟨_, rfl, _, _, rfl, rfl, show (0 : Int) < 2305843009213693613 by decide, ?_⟩⟩
      refine ⟨_, rfl, _, rfl, _, _, rfl, rfl, show (0 : Int) < 773 by decide, _, _, rfl, rfl, _, _, rfl, rfl, wide_mul (b := 11) (b61 _ _ (by decide) (by decide)) ?_ (by decide) (by decide) (by decide), _, _, rfl, rfl, ⟨by decide, by decide⟩, .inl ⟨_, rfl, _, rfl, _, _, rfl, rfl, (by omega), ?_⟩⟩
      · have := em (i := (b1 + 67867967 * (b2 + 1)) % 2305843009213693669) (n := 773) (by decide)
        omega
      · exact k _ _ (fm hn).1 (fm hn).2 off_upd ⟨_, _, _, upd_same⟩
theorem cal_taste (T : Txt K mg C) : Cal P w K mg base "_law_taste" 2 spTaste := by
  refine T.d_taste.cal (ps := ["_law_vat_here", "_law_items"]) (fun f fd D => ?_) (fun _ _ _ _ _ _ us hl => match us, hl with | [_, _], _ => rfl)
  refine D.ok sc_taste (fun vs H Q E h => ?_) (fun cdv A outer s H vs Q E hr h => ?_)
  · obtain ⟨p, l, xs, rfl, _⟩ := h
    rfl
  · obtain ⟨p, l, xs, rfl, hb, hl, ne, h0, h1, k⟩ := h
    refine ⟨_, (pss_one (ps_ret (pe_ix ix_list (pv 1) (pe_cal (cal_tap T) (hr.mono (by decide)) (by rfl) (pa_cons (pv 0) (pa_cons (pe_callB call_len_seq (by rfl) T.b_len (by decide +kernel) (pa_cons (pv 1) pa_nil)) pa_nil))) (fun _ _ => rfl)))), ?_⟩
    refine ⟨_, rfl, _, rfl, _, rfl, _, _, rfl, .inl (.of hl), p, _, rfl, by omega, by omega, hb, fun r H1 r0 r1 same b1 => ?_⟩
    have hi : r.toNat < xs.length := by omega
    refine ⟨_, _, _, _, rfl, rfl, .of (same _ _ ne hl), at_of (j := r.toNat) (by omega) (List.getElem?_eq_getElem hi), k _ _ (List.getElem_mem hi) same b1⟩
theorem cal_vat (T : Txt K mg C) : Cal P w K mg base "_law_vat" 1 (spVat K) := by
  refine T.d_vat.cal (ps := ["_law_script", "_law_spot"]) (fun f fd D => ?_) (fun _ _ _ _ _ _ us hl => match us, hl with | [_, _], _ => rfl)
  refine D.ok sc_vat (fun vs H Q E h => ?_) (fun cdv A outer s H vs Q E hr h => ?_)
  · obtain ⟨p, n, ns, rfl, _⟩ := h
    rfl
  · obtain ⟨sa, z, ns, rfl, hs, hz, k⟩ := h
    refine ⟨_, (pss_cons (ps_set (i := 2) sc_vat.nd rfl (Or.inl rfl) (pe_ifExp (pt_cmpR op_lt (pv 1) (pe_callB call_len_seq (by rfl) T.b_len (by decide +kernel) (pa_cons (pv 0) pa_nil)) (nomark _)) (pe_callTy call_int1 (by rfl) T.b_int (by decide +kernel) (pa_cons (pe_ix ix_list (pv 0) (pv 1) (fun _ _ => rfl)) pa_nil)) (pe_op op_add (pe_op op_add (pe_op op_mul pe_int (pv 1)) pe_int) (pe_op op_mod (pe_callTy call_int1 (by rfl) T.b_int (by decide +kernel) (pa_cons (pe_callB (cr_sum rfl) (by rfl) T.b_sum (by decide +kernel) (pa_cons (pe_slice sl_list (pv 0) po_none (po_some pe_int)) pa_nil)) pa_nil)) pe_int))))
      (pss_cons (ps_set (i := 3) sc_vat.nd rfl (Or.inl rfl) (pe_op op_modN (pe_callB call_abs (by rfl) T.b_abs (by decide +kernel) (pa_cons (pv 2) pa_nil)) (pe_op op_powW (pe_op op_pow pe_int pe_int) pe_int)))
      (pss_cons (ps_set (i := 4) sc_vat.nd rfl (Or.inl rfl) (pe_op op_add (pe_op op_add (pe_op op_add (pe_op op_mul (pe_op op_mod (pv 3) pe_int) pe_int) (pe_op op_mul pe_int (pv 1))) (pe_op op_mul pe_int (pe_callTy call_int1 (by rfl) T.b_int (by decide +kernel) (pa_cons (pe_cmpR op_lt (pv 2) pe_int (nomark _)) pa_nil)))) pe_int))
      (pss_one (ps_ret (pe_lst (pa_cons (pe_callB (call_max2 rfl) (by rfl) T.b_max (by decide +kernel) (pa_cons pe_int (pa_cons (pe_op op_sub (pv 3) (pe_op op_pow pe_int pe_int)) pa_nil))) (pa_cons (pv 4) (pa_cons pe_int pa_nil))))))))), ?_⟩
    have hP : CPowW ((10 : Int) ^ (55 : Int).toNat) 8 := ⟨by decide, by decide +kernel⟩
    have hQ : ((10 : Int) ^ (55 : Int).toNat) ^ (8 : Int).toNat ≠ 0 := by decide +kernel
    refine ⟨_, rfl, _, rfl, _, _, rfl, .inl hs, _, _, rfl, rfl, _, rfl, ite2 (fun h => ?_) (fun h => ?_)⟩
    · have hlt : z < ((ns.map V.int).length : Int) := of_decide_eq_true h
      rw [List.length_map] at hlt
      have hi : z.toNat < ns.length := by omega
      have hget : atI (ns.map V.int) z = some (.int ns[z.toNat]) := at_of (j := z.toNat) (by omega) (by rw [List.getElem?_map, List.getElem?_eq_getElem hi]; rfl)
      refine ⟨_, rfl, _, rfl, _, _, _, _, rfl, rfl, hs, hget, .inl ⟨_, rfl, ?_⟩⟩
      refine ⟨_, rfl, _, rfl, _, _, rfl, rfl, ⟨by decide, by decide, by decide⟩, _, _, rfl, rfl, hP, _, _, rfl, rfl, hQ, ?_⟩
      refine ⟨_, rfl, _, _, rfl, rfl, show (0 : Int) < 1152921504606846703 by decide, _, _, rfl, rfl, .inr ⟨by decide, by decide⟩, _, rfl, _, _, rfl, rfl, .inl ⟨by decide, by decide⟩, _, _, rfl, rfl, _, rfl, _, _, rfl, rfl, .inr ⟨_, rfl, _, _, rfl, rfl, .inl ⟨by decide, by decide⟩, _, _, rfl, rfl, _, _, rfl, rfl, ?_⟩⟩
      refine ⟨_, rfl, _, _, rfl, rfl, ⟨by decide, by decide, by decide⟩, _, _, rfl, rfl, _, _, rfl, _, rfl, show 3 ≤ sizeLine by decide, fun p np => ?_⟩
      exact k p _ (same_new np) np ⟨_, _, _, upd_same⟩
    · refine ⟨_, rfl, _, _, rfl, rfl, .inl ⟨by decide, by decide⟩, _, _, rfl, rfl, _, rfl, _, rfl, _, _, rfl, hs, fun p0 n0 => ?_⟩
      refine ⟨_, ns.take 1, rfl, .of (by rw [upd_same, cut1]), .inl ⟨_, rfl, _, _, rfl, rfl, show (0 : Int) < 1000121 by decide, _, _, rfl, rfl, ?_⟩⟩
      refine ⟨_, rfl, _, rfl, _, _, rfl, rfl, ⟨by decide, by decide, by decide⟩, _, _, rfl, rfl, hP, _, _, rfl, rfl, hQ, ?_⟩
      refine ⟨_, rfl, _, _, rfl, rfl, show (0 : Int) < 1152921504606846703 by decide, _, _, rfl, rfl, .inr ⟨by decide, by decide⟩, _, rfl, _, _, rfl, rfl, .inl ⟨by decide, by decide⟩, _, _, rfl, rfl, _, rfl, _, _, rfl, rfl, .inr ⟨_, rfl, _, _, rfl, rfl, .inl ⟨by decide, by decide⟩, _, _, rfl, rfl, _, _, rfl, rfl, ?_⟩⟩
      refine ⟨_, rfl, _, _, rfl, rfl, ⟨by decide, by decide, by decide⟩, _, _, rfl, rfl, _, _, rfl, _, rfl, show 3 ≤ sizeLine by decide, fun p np => ?_⟩
      exact k p _ ((same_new n0).trans (same_new np)) ((same_new n0).free np) ⟨_, _, _, upd_same⟩
end
end Sk

namespace Sk
open PySem L2 Ow
/-! written data -/
abbrev Dat := Int × List (List Int)
def Ds (K : PySem.W.Frag) (H : Hp) : List V → List Dat → Prop
  | [], [] => True
  | x :: xs, d :: ds => SysD K H x d.1 d.2 ∧ Ds K H xs ds
  | _, _ => False
theorem Ds.same {K : PySem.W.Frag} {H H' : Hp} (s : Same H H') : ∀ {xs : List V} {ds : List Dat}, Ds K H xs ds → Ds K H' xs ds
  | [], [], _ => trivial
  | _ :: _, _ :: _, h => ⟨h.1.same s, Ds.same s h.2⟩
theorem Ds.app {K : PySem.W.Frag} {H : Hp} : ∀ {xs ys : List V} {ds es : List Dat}, Ds K H xs ds → Ds K H ys es → Ds K H (xs ++ ys) (ds ++ es)
  | [], _, [], _, _, k => k
  | _ :: _, _, _ :: _, _, h, k => ⟨h.1, Ds.app h.2 k⟩
theorem Ds.len {K : PySem.W.Frag} {H : Hp} : ∀ {xs : List V} {ds : List Dat}, Ds K H xs ds → xs.length = ds.length
  | [], [], _ => rfl
  | _ :: _, _ :: _, h => congrArg Nat.succ (Ds.len h.2)
theorem Ds.mem {K : PySem.W.Frag} {H : Hp} : ∀ {xs : List V} {ds : List Dat} {x : V}, Ds K H xs ds → x ∈ xs → ∃ d ∈ ds, SysD K H x d.1 d.2
  | x :: xs, d :: ds, y, h, m => by
    rcases List.mem_cons.mp m with e | m
    · exact ⟨d, List.mem_cons_self .., e ▸ h.1⟩
    · obtain ⟨d', m', h'⟩ := Ds.mem h.2 m
      exact ⟨d', List.mem_cons_of_mem _ m', h'⟩
  | [], [], y, _, m => by cases m
/-- any value of which R holds, all that stood kept -/
def tD (R : Hp → V → Prop) : TE := fun _ H Q => ∀ (v : V) (H' : Hp), Same H H' → R H' v → Q v H'
def tDs (R : Hp → List V → Prop) : TA := fun _ H Q => ∀ (xs : List V) (H' : Hp), Same H H' → R H' xs → Q xs H'
theorem pe_imp {X : Cx} {e : Expr} {t t' : TE} (h : PE X e t) (i : ∀ σ H Q, t' σ H Q → t σ H Q) : PE X e t' := ⟨fun pins s σ H Q I q => h.run pins s σ H Q I (i _ _ _ q)⟩
theorem pa_imp {X : Cx} {es : List Expr} {t t' : TA} (h : PA X es t) (i : ∀ σ H Q, t' σ H Q → t σ H Q) : PA X es t' := ⟨fun pos pins s σ H Q I q => h.run pos pins s σ H Q I (i _ _ _ q)⟩
section
variable {X : Cx} {e : Expr} {es : List Expr} {pos : Pos} {x1 : Nat}
theorem pe_ti3 {a b c : Int} {k1 k2 k3 : Nat} {p1 p2 p3 : Pos} : PE X (.Tuple [.Constant (.int a) k1 p1, .Constant (.int b) k2 p2, .Constant (.int c) k3 p3] x1 pos) (tD fun H v => TI X.K H v [a, b, c]) :=
  pe_imp (pe_tup (pa_cons pe_int (pa_cons pe_int (pa_cons pe_int pa_nil)))) fun σ H Q q => ⟨show 3 ≤ sizeLine by decide, fun p np => q _ _ (same_new np) ⟨p, rfl, .of upd_same⟩⟩
theorem pas_nil : PA X [] (tDs fun H xs => TIs X.K H xs []) := pa_imp pa_nil fun σ H Q q => q [] H (.refl H) trivial
theorem pas_cons {t : List Int} {bs : List (List Int)} (h : PE X e (tD fun H v => TI X.K H v t)) (r : PA X es (tDs fun H xs => TIs X.K H xs bs)) (hs : starEach (e :: es) X.env = (false, eval e X.env) :: starEach es X.env := by rfl) : PA X (e :: es) (tDs fun H xs => TIs X.K H xs (t :: bs)) :=
  pa_imp (pa_cons h r hs) fun σ H Q q v H1 s1 r1 xs H2 s2 r2 => q (v :: xs) H2 (s1.trans s2) ⟨r1.same s2, r2⟩
theorem pe_bs {bs : List (List Int)} (h : PA X es (tDs fun H xs => TIs X.K H xs bs)) (hl : bs.length ≤ 1000 := by decide) : PE X (.Tuple es x1 pos) (tD fun H v => BsAt X.K H v bs) :=
  pe_imp (pe_tup h) fun σ H Q q xs H1 s1 r1 => ⟨Nat.le_trans (r1.len ▸ hl) (by decide), fun p np => q _ _ (s1.trans (same_new np)) ⟨p, xs, rfl, .of upd_same, r1.same (same_new np)⟩⟩
theorem pe_sd {n : Int} {k1 : Nat} {p1 : Pos} {bs : List (List Int)} (h : PE X e (tD fun H v => BsAt X.K H v bs)) (hs : starEach [.Constant (.int n) k1 p1, e] X.env = (false, eval (.Constant (.int n) k1 p1) X.env) :: starEach [e] X.env := by rfl)
    (hs2 : starEach [e] X.env = (false, eval e X.env) :: starEach [] X.env := by rfl) : PE X (.Tuple [.Constant (.int n) k1 p1, e] x1 pos) (tD fun H v => SysD X.K H v n bs) :=
  pe_imp (pe_tup (pa_cons pe_int (pa_cons h pa_nil hs2) hs)) fun σ H Q q v H1 s1 r1 => ⟨show 2 ≤ sizeLine by decide, fun p np => q _ _ (s1.trans (same_new np)) ⟨p, v, rfl, .of upd_same, r1.same (same_new np)⟩⟩
theorem pads_nil : PA X [] (tDs fun H xs => Ds X.K H xs []) := pa_imp pa_nil fun σ H Q q => q [] H (.refl H) trivial
theorem pads_cons {n : Int} {bs : List (List Int)} {ds : List Dat} (h : PE X e (tD fun H v => SysD X.K H v n bs)) (r : PA X es (tDs fun H xs => Ds X.K H xs ds)) (hs : starEach (e :: es) X.env = (false, eval e X.env) :: starEach es X.env := by rfl) : PA X (e :: es) (tDs fun H xs => Ds X.K H xs ((n, bs) :: ds)) :=
  pa_imp (pa_cons h r hs) fun σ H Q q v H1 s1 r1 xs H2 s2 r2 => q (v :: xs) H2 (s1.trans s2) ⟨r1.same s2, r2⟩
/-- a written list of such: new -/
def tL (K : PySem.W.Frag) (ds : List Dat) : TE := fun _ H Q => ∀ (p : Addr) (xs : List V) (H' : Hp), Same H H' → H p = none → H' p = some (.lst xs) → Ds K H' xs ds → Q (.ref p) H'
theorem pe_lsd {ds : List Dat} (h : PA X es (tDs fun H xs => Ds X.K H xs ds)) (hl : ds.length ≤ 1000 := by decide) : PE X (.List es pos) (tL X.K ds) :=
  pe_imp (pe_lst h) fun σ H Q q xs H1 s1 r1 => ⟨Nat.le_trans (r1.len ▸ hl) (by decide), fun p np => q p xs _ (s1.trans (same_new np)) (s1.free np) upd_same (r1.same (same_new np))⟩
end
/-- whether numbers are those of a system -/
def okB (d : Dat) : Bool := decide (1 ≤ d.1) && decide (d.1 ≤ 4) && d.2.all (fun t => match t with
  | [l, h, b] => decide (0 ≤ l) && decide (l < h) && decide (h < d.1) && (decide (b = 0) || decide (b = 3) || decide (b = 4) || decide (b = 5) || decide (b = 6))
  | _ => false) && decide ((d.2.map (·.take 2)).Pairwise (fun p q => HT.lexLt p q = true)) && decide (d.2.length ≤ 20)
theorem okB_valid {d : Dat} (h : okB d = true) : Valid d.1 d.2 := by
  unfold okB at h
  simp only [Bool.and_eq_true, decide_eq_true_eq, List.all_eq_true] at h
  obtain ⟨⟨⟨⟨h1, h2⟩, h3⟩, h4⟩, h5⟩ := h
  refine ⟨h1, h2, fun t ht => ?_, h4, h5⟩
  have := h3 t ht
  split at this
  · rename_i l hh b
    simp only [Bool.and_eq_true, Bool.or_eq_true, decide_eq_true_eq] at this
    exact ⟨l, hh, b, rfl, by omega, by omega, by omega, by omega⟩
  · cases this
def spTold (K : PySem.W.Frag) : Sp := fun vs H Q _ => vs = [] ∧ ∀ (p : Addr) (xs : List V) (H' : Hp), Same H H' → H p = none → H' p = some (.lst xs) → (∀ v ∈ xs, ∃ d : Dat, SysD K H' v d.1 d.2 ∧ Valid d.1 d.2) → 0 < xs.length → xs.length ≤ 1000 → Q (.ref p) H'
section
variable {P : Program} {w : World} {K : PySem.W.Frag} {mg : Str → Option Value} {base : Heap} {C : Addr}
theorem cal_told_systems (T : Txt K mg C) : Cal P w K mg base "_law_told_systems" 1 (spTold K) := by
  refine T.d_told_systems.cal (ps := []) (fun f fd D => ?_) (fun _ _ _ _ _ _ us hl => match us, hl with | [], _ => rfl)
  refine D.ok sc_told_systems (fun vs H Q E h => ?_) (fun cdv A outer s H vs Q E hr h => ?_)
  · obtain ⟨rfl, _⟩ := h
    rfl
  · obtain ⟨rfl, k⟩ := h
    refine ⟨_, (pss_cons (ps_set (i := 0) sc_told_systems.nd rfl (Or.inl rfl) (pe_lsd (pads_cons (pe_sd (pe_bs pas_nil)) (pads_cons (pe_sd (pe_bs (pas_cons pe_ti3 pas_nil))) (pads_cons (pe_sd (pe_bs (pas_cons pe_ti3 (pas_cons pe_ti3 pas_nil)))) (pads_cons (pe_sd (pe_bs (pas_cons pe_ti3 (pas_cons pe_ti3 (pas_cons pe_ti3 pas_nil))))) pads_nil))))))
      (pss_cons (ps_set (i := 0) sc_told_systems.nd rfl (Or.inl rfl) (pe_op op_cat (pv 0) (pe_lsd (pads_cons (pe_sd (pe_bs (pas_cons pe_ti3 pas_nil))) (pads_cons (pe_sd (pe_bs (pas_cons pe_ti3 (pas_cons pe_ti3 pas_nil)))) (pads_cons (pe_sd (pe_bs (pas_cons pe_ti3 (pas_cons pe_ti3 pas_nil)))) (pads_cons (pe_sd (pe_bs (pas_cons pe_ti3 pas_nil))) pads_nil)))))))
      (pss_cons (ps_set (i := 0) sc_told_systems.nd rfl (Or.inl rfl) (pe_op op_cat (pv 0) (pe_lsd (pads_cons (pe_sd (pe_bs (pas_cons pe_ti3 pas_nil))) (pads_cons (pe_sd (pe_bs (pas_cons pe_ti3 pas_nil))) (pads_cons (pe_sd (pe_bs (pas_cons pe_ti3 (pas_cons pe_ti3 (pas_cons pe_ti3 pas_nil))))) (pads_cons (pe_sd (pe_bs pas_nil)) (pads_cons (pe_sd (pe_bs pas_nil)) pads_nil))))))))
      (pss_one (ps_ret (pe_op op_cat (pv 0) (pe_lsd (pads_cons (pe_sd (pe_bs (pas_cons pe_ti3 pas_nil))) (pads_cons (pe_sd (pe_bs (pas_cons pe_ti3 (pas_cons pe_ti3 pas_nil)))) (pads_cons (pe_sd (pe_bs (pas_cons pe_ti3 (pas_cons pe_ti3 (pas_cons pe_ti3 pas_nil))))) pads_nil)))))))))), ?_⟩
    intro p1 x1 H1 s1 _ h1 d1
    have l1 : x1.length = 4 := d1.len
    refine ⟨_, rfl, fun p2 x2 H2 s2 _ h2 d2 => ?_⟩
    have l2 : x2.length = 4 := d2.len
    refine ⟨_, _, _, _, rfl, rfl, s2 _ _ h1, h2, szl (by omega), fun p3 n3 => ?_⟩
    have D3 := Ds.app (d1.same s2) d2
    have S3 := (s1.trans s2).trans (same_new (o := .lst (x1 ++ x2)) n3)
    refine ⟨_, rfl, fun p4 x4 H4 s4 _ h4 d4 => ?_⟩
    have l4 : x4.length = 5 := d4.len
    refine ⟨_, _, _, _, rfl, rfl, s4 _ _ upd_same, h4, szl (by rw [List.length_append]; omega), fun p5 n5 => ?_⟩
    have D5 := Ds.app ((D3.same (same_new n3)).same s4) d4
    have S5 := (S3.trans s4).trans (same_new (o := .lst (x1 ++ x2 ++ x4)) n5)
    refine ⟨_, rfl, fun p6 x6 H6 s6 _ h6 d6 => ?_⟩
    have l6 : x6.length = 3 := d6.len
    refine ⟨_, _, _, _, rfl, rfl, s6 _ _ upd_same, h6, szl (by rw [List.length_append, List.length_append]; omega), fun p7 n7 => ?_⟩
    have D7 := (Ds.app ((D5.same (same_new n5)).same s6) d6).same (same_new (o := .lst (x1 ++ x2 ++ x4 ++ x6)) n7)
    have S7 := (S5.trans s6).trans (same_new (o := .lst (x1 ++ x2 ++ x4 ++ x6)) n7)
    refine k p7 _ _ S7 ((S5.trans s6).free n7) upd_same (fun v hv => ?_) (by simp only [List.length_append]; omega) (by simp only [List.length_append]; omega)
    obtain ⟨d, hd, hs⟩ := D7.mem hv
    refine ⟨d, hs, okB_valid ?_⟩
    refine List.all_eq_true.mp ?_ d hd
    decide
end
end Sk

namespace Sk
open PySem L2 Ow
def spSystem (K : PySem.W.Frag) : Sp := fun vs H Q _ => ∃ p : Addr, vs = [.ref p] ∧ BasAt H p ∧ ∀ (v : V) (n : Int) (bs : List (List Int)) (H' : Hp), Off p H H' → BasAt H' p → SysD K H' v n bs → Valid n bs → Q v H'
theorem BasAt.same {H H' : Hp} {p : Addr} (b : BasAt H p) (s : Same H H') : BasAt H' p := b.elim fun b0 ⟨b1, b2, e⟩ => ⟨b0, b1, b2, s _ _ e⟩
theorem fresh_ne {H : Hp} {p q : Addr} (b : BasAt H p) (n : H q = none) : q ≠ p := fun e => by
  obtain ⟨_, _, _, h⟩ := b
  rw [e, h] at n
  cases n
theorem BasAt.off {H H' : Hp} {p D : Addr} (b : BasAt H p) (o : Off D H H') (n : p ≠ D) : BasAt H' p := b.elim fun b0 ⟨b1, b2, e⟩ => ⟨b0, b1, b2, o _ _ n e⟩
section
variable {P : Program} {w : World} {K : PySem.W.Frag} {mg : Str → Option Value} {base : Heap} {C : Addr}
theorem cal_system (T : Txt K mg C) : Cal P w K mg base "_law_system" 3 (spSystem K) := by
  refine T.d_system.cal (ps := ["_law_vat_here"]) (fun f fd D => ?_) (fun _ _ _ _ _ _ us hl => match us, hl with | [_], _ => rfl)
  refine D.ok sc_system (fun vs H Q E h => ?_) (fun cdv A outer s H vs Q E hr h => ?_)
  · obtain ⟨p, rfl, _⟩ := h
    rfl
  · obtain ⟨p, rfl, hb, k⟩ := h
    refine ⟨_, (pss_cons (ps_if (pt_cmpR op_gt (pe_cal (cal_tap T) (hr.mono (by decide)) (by rfl) (pa_cons (pv 0) (pa_cons pe_int pa_nil))) pe_int (nomark _)) (pss_one (ps_ret (pe_cal (cal_taste T) (hr.mono (by decide)) (by rfl) (pa_cons (pv 0) (pa_cons (pe_cal0 (cal_told_systems T) (hr.mono (by decide)) (by rfl)) pa_nil))))) pss_nil)
      (pss_cons (ps_par (i := 1) (j := 2) rfl sc_system.nd rfl rfl (by decide) rfl rfl (pa_cons (pe_op op_add pe_int (pe_cal (cal_tap T) (hr.mono (by decide)) (by rfl) (pa_cons (pv 0) (pa_cons pe_int pa_nil)))) (pa_cons (pe_lst pa_nil) pa_nil)) rfl)
      (pss_cons (ps_for PassesOwn.never rfl (pi_range1 (by rfl) T.b_range (pa_cons (pv 1) pa_nil)) (pg_name (i := 3) sc_system.nd rfl (Or.inl rfl)) (pss_one (ps_for PassesOwn.never rfl (pi_range2 (by rfl) T.b_range (pa_cons (pe_op op_add (pv 3) pe_int) (pa_cons (pv 1) pa_nil))) (pg_name (i := 4) sc_system.nd rfl (Or.inl rfl)) (pss_cons (ps_set (i := 5) sc_system.nd rfl (Or.inl rfl) (pe_cal (cal_taste T) (hr.mono (by decide)) (by rfl) (pa_cons (pv 0) (pa_cons (pe_lst (pa_cons pe_int (pa_cons pe_int (pa_cons pe_int (pa_cons pe_int (pa_cons pe_int (pa_cons pe_int (pa_cons pe_int (pa_cons pe_int pa_nil))))))))) pa_nil))))
      (pss_one (ps_if (pt_cmpR op_ne (pv 5) pe_int (nomark _)) (pss_one (ps_expr (pe_bm PySem.F.plainAttrs_list PySem.F.slot_list_append PySem.F.type_list_append mt_append (pv 2) (pa_cons (pe_tup (pa_cons (pv 3) (pa_cons (pv 4) (pa_cons (pv 5) pa_nil)))) pa_nil)))) pss_nil))))))
      (pss_one (ps_ret (pe_tup (pa_cons (pv 1) (pa_cons (pe_callTy call_tuple_of (by rfl) T.b_tuple (by decide +kernel) (pa_cons (pv 2) pa_nil)) pa_nil)))))))), ?_⟩
    refine ⟨_, rfl, p, _, rfl, by decide, by decide, hb, fun r H1 r0 r1 o1 b1 => ?_⟩
    refine ⟨_, _, rfl, rfl, _, rfl, ite2 (fun _ => ?_) (fun _ => ?_)⟩
    · refine ⟨_, rfl, rfl, fun l xs H2 s2 n2 h2 hv l0 l1 => ?_⟩
      have b2 := b1.same s2
      refine ⟨p, l, xs, rfl, b2, h2, fresh_ne b1 n2, l0, l1, fun v H3 hm o3 b3 => ?_⟩
      obtain ⟨d, hd, va⟩ := hv v hm
      obtain ⟨c0, c1, c2, e2⟩ := b2
      exact k v _ _ H3 (o1.trans ((Off.of_same s2).trans o3)) b3 (hd.off o3 e2) va
    · refine ⟨_, rfl, p, _, rfl, by decide, by decide, b1, fun r2 H2 q0 q1 o2 b2 => ?_⟩
      refine ⟨_, _, rfl, rfl, Nat.zero_le _, fun l nl => ⟨_, _, rfl, ?_⟩⟩
      have nlp := fresh_ne b2 nl
      have nlH : ∀ z, H l ≠ some z := fun z e => by
        have := (o1.trans o2) l z nlp e
        rw [nl] at this
        cases this
      refine ⟨_, rfl, _, rfl, by omega, by omega, for_range (lo := 0) (n := (1 + r2).toNat) (fun i σ H' => ∃ (xs : List V) (bs : List (List Int)) (v3 v4 v5 : Option V), σ = [some (.ref p), some (.int (1 + r2)), some (.ref l), v3, v4, v5] ∧ Off p H H' ∧ BasAt H' p ∧ H' l = some (.lst xs) ∧ TIs K H' xs bs ∧
        (∀ t ∈ bs, trOk (1 + r2) t ∧ t.getD 0 0 < (i : Int)) ∧ (bs.map (·.take 2)).Pairwise (fun p q => HT.lexLt p q = true) ∧ bs.length ≤ 4 * i) ?_ ?_ ?_⟩
      · refine ⟨[], [], none, none, none, rfl, ?_, b2.same (same_new nl), upd_same, trivial, (fun t h => by cases h), List.Pairwise.nil, Nat.zero_le _⟩
        exact (o1.trans o2).trans (.of_same (same_new nl))
      · rintro i σ H' hi ⟨xs, bs, v3, v4, v5, rfl, oo, bb, hl, hx, hbs, hpw, hln⟩
        refine ⟨_, rfl, _, _, rfl, rfl, _, rfl, _, _, rfl, ⟨by omega, by omega, by omega, by omega⟩, for_range (lo := 0 + (i : Int) + 1) (n := (1 + r2 - (0 + (i : Int) + 1)).toNat) (fun j σ H' => ∃ (xs : List V) (bs : List (List Int)) (v4 v5 : Option V), σ = [some (.ref p), some (.int (1 + r2)), some (.ref l), some (.int (0 + (i : Int))), v4, v5] ∧ Off p H H' ∧ BasAt H' p ∧ H' l = some (.lst xs) ∧ TIs K H' xs bs ∧
          (∀ t ∈ bs, trOk (1 + r2) t ∧ (t.getD 0 0 < (i : Int) ∨ (t.getD 0 0 = (i : Int) ∧ t.getD 1 0 < (i : Int) + 1 + (j : Int)))) ∧ (bs.map (·.take 2)).Pairwise (fun p q => HT.lexLt p q = true) ∧ bs.length ≤ 4 * i + j) ?_ ?_ ?_⟩
        · exact ⟨xs, bs, v4, v5, rfl, oo, bb, hl, hx, fun t h => ⟨(hbs t h).1, .inl (hbs t h).2⟩, hpw, hln⟩
        · rintro j σ H3 hj ⟨xs, bs, v4, v5, rfl, oo, bb, hl, hx, hbs, hpw, hln⟩
          refine ⟨_, rfl, show 8 ≤ sizeLine by decide, fun m nm => ?_⟩
          refine ⟨p, m, _, rfl, bb.same (same_new nm), upd_same, fresh_ne bb nm, (by show 0 < 8; decide), (by show 8 ≤ 1000; decide), fun v H4 hv o4 b4 => ?_⟩
          obtain ⟨b, rfl, hb2⟩ : ∃ b : Int, v = .int b ∧ (b = 2 ∨ b = 0 ∨ b = 3 ∨ b = 4 ∨ b = 5 ∨ b = 6) := by
            simp only [List.mem_cons, List.not_mem_nil, or_false] at hv
            rcases hv with rfl | rfl | rfl | rfl | rfl | rfl | rfl | rfl
            all_goals exact ⟨_, rfl, by decide⟩
          have S4 : Off p H3 H4 := (Off.of_same (same_new nm)).trans o4
          have hl4 : H4 l = some (.lst xs) := S4 _ _ nlp hl
          have hx4 : TIs K H4 xs bs := by
            obtain ⟨c0, c1, c2, e2⟩ := bb.same (same_new (o := .lst [.int 2, .int 2, .int 3, .int 3, .int 4, .int 5, .int 6, .int 0]) nm)
            exact o4.tis e2 (hx.same (same_new nm))
          have oo4 := oo.trans S4
          refine ⟨_, rfl, rfl, _, rfl, ?_⟩
          have grow : ∀ t ∈ bs, trOk (1 + r2) t ∧ (t.getD 0 0 < (i : Int) ∨ (t.getD 0 0 = (i : Int) ∧ t.getD 1 0 < (i : Int) + 1 + ((j + 1 : Nat) : Int))) := fun t h => ⟨(hbs t h).1, by have := (hbs t h).2; omega⟩
          refine ite2 (fun hne => ?_) (fun _ => ?_)
          · have b2' : b ≠ 2 := fun e => by rw [e] at hne; exact absurd hne (by decide)
            refine ⟨_, rfl, .inl ⟨rfl, _, .of hl4⟩, _, rfl, _, rfl, _, rfl, show 3 ≤ sizeLine by decide, fun q nq => ?_⟩
            have hl5 := same_new (o := .tup [.int (0 + (i : Int)), .int (0 + (i : Int) + 1 + (j : Int)), .int b]) nq _ _ hl4
            refine ⟨l, _, _, rfl, rfl, hl5, ?_, ?_⟩
            · rw [hx4.len]
              exact small1000 (by omega)
            · have t0 : trOk (1 + r2) [0 + (i : Int), 0 + (i : Int) + 1 + (j : Int), b] := ⟨_, _, _, rfl, by omega, by omega, by omega, by omega⟩
              refine ⟨xs ++ [.ref q], bs ++ [[0 + (i : Int), 0 + (i : Int) + 1 + (j : Int), b]], _, _, rfl, ?_, (b4.same (same_new nq)).off off_upd nlp.symm, upd_same, ?_, ?_, ?_, ?_⟩
              · intro u z hu hz
                have := same_new (o := .tup [.int (0 + (i : Int)), .int (0 + (i : Int) + 1 + (j : Int)), .int b]) nq _ _ (oo4 u z hu hz)
                rw [upd_ne (show u ≠ l from fun e => nlH z (by rw [← e]; exact hz))]
                exact this
              · exact (off_upd.tis hl5 (hx4.same (same_new nq))).snoc (off_upd.ti hl5 ⟨q, rfl, .of upd_same⟩)
              · intro t ht
                rcases List.mem_append.mp ht with ht | ht
                · exact grow t ht
                · obtain rfl := List.mem_singleton.mp ht
                  exact ⟨t0, .inr ⟨by show 0 + (i : Int) = i; omega, by show 0 + (i : Int) + 1 + (j : Int) < _; omega⟩⟩
              · rw [List.map_append, List.pairwise_append]
                refine ⟨hpw, List.pairwise_singleton _ _, fun x hx y hy => ?_⟩
                obtain rfl := List.mem_singleton.mp hy
                obtain ⟨t, ht, rfl⟩ := List.mem_map.mp hx
                obtain ⟨⟨a, c, d, rfl, _⟩, hh⟩ := hbs t ht
                show HT.lexLt [a, c] [0 + (i : Int), 0 + (i : Int) + 1 + (j : Int)] = true
                have hh' : a < (i : Int) ∨ (a = (i : Int) ∧ c < (i : Int) + 1 + (j : Int)) := hh
                rw [HT.lexLt_cons]
                split
                · rw [HT.lexLt_cons]
                  split
                  · omega
                  · exact decide_eq_true (by omega)
                · exact decide_eq_true (by omega)
              · rw [List.length_append, List.length_singleton]
                omega
          · exact ⟨xs, bs, _, _, rfl, oo4, b4, hl4, hx4, grow, hpw, by omega⟩
        · rintro σ H3 ⟨xs, bs, v4, v5, rfl, oo, bb, hl, hx, hbs, hpw, hln⟩
          refine ⟨xs, bs, _, _, _, rfl, oo, bb, hl, hx, fun t h => ⟨(hbs t h).1, ?_⟩, hpw, ?_⟩
          · have := (hbs t h).2
            omega
          · omega
      · rintro σ H' ⟨xs, bs, v3, v4, v5, rfl, oo, bb, hl, hx, hbs, hpw, hln⟩
        refine ⟨_, rfl, _, rfl, _, _, rfl, .inl ⟨.of hl, fun q nq => ⟨show 2 ≤ sizeLine by decide, fun u nu => ?_⟩⟩⟩
        have S := (same_new (o := .tup xs) nq).trans (same_new (o := .tup [.int (1 + r2), .ref q]) nu)
        refine k _ (1 + r2) bs _ (oo.trans (.of_same S)) (bb.same S) ⟨u, .ref q, rfl, .of upd_same, q, xs, rfl, .of (same_new nu _ _ upd_same), hx.same S⟩ ⟨by omega, by omega, fun t h => (hbs t h).1, hpw, by omega⟩
end
end Sk

namespace Sk
open PySem L2 Ow
theorem sh_L (ns : List Int) : SeqAt.shaped (.list (ns.map PyData.int)) = true := by
  unfold SeqAt.shaped
  have h1 : (PyData.list (ns.map PyData.int)).canLay0 = true := by simp [PyData.canLay0, lay_ints]
  have h2 : (PyData.list (ns.map PyData.int)).depth ≤ 64 := by have := dep_ints ns; simp [PyData.depth]; omega
  rw [h1, decide_eq_true h2]
  rfl
theorem isPr_eq {l h d i j : Int} (lh : l < h) (ne : i ≠ j) : PyData.eqv (dT [l, h]) (dT [if j < i then j else i, if j > i then j else i]) = isPr i j [l, h, d] := by
  rw [eqv2]
  unfold isPr
  rw [show ([l, h, d] : List Int).take 2 = [l, h] from rfl]
  by_cases c : j < i
  · rw [if_pos c, if_neg (by omega)]
    have : (([l, h] : List Int) == [i, j]) = false := by
      rw [beq_eq_false_iff_ne]
      intro e
      injection e with e1 e2
      injection e2 with e2 _
      omega
    rw [this, Bool.false_or]
  · rw [if_neg c, if_pos (by omega)]
    have : (([l, h] : List Int) == [j, i]) = false := by
      rw [beq_eq_false_iff_ne]
      intro e
      injection e with e1 e2
      injection e2 with e2 _
      omega
    rw [this, Bool.or_false]
section
variable {P : Program} {w : World} {K : PySem.W.Frag} {mg : Str → Option Value} {base : Heap} {C : Addr}
theorem cal_bond (T : Txt K mg C) : Cal P w K mg base "_law_bond" 1 (fun vs H Q _ => ∃ (n : Int) (bv : V) (bs : List (List Int)) (i j : Int), vs = [bv, .int i, .int j] ∧ BsAt K H bv bs ∧ Valid n bs ∧ i ≠ j ∧ ∀ H' : Hp, Same H H' → Q (.int (bondOf bs i j)) H') := by
  refine T.d_bond.cal (ps := ["_law_bonds", "_law_one", "_law_other"]) (fun f fd D => ?_) (fun _ _ _ _ _ _ us hl => match us, hl with | [_, _, _], _ => rfl)
  refine D.ok sc_bond (fun vs H Q E h => ?_) (fun cdv A outer s H vs Q E hr h => ?_)
  · obtain ⟨n, bv, bs, i, j, rfl, _⟩ := h
    rfl
  · obtain ⟨n, bv, bs, i, j, rfl, ⟨a, xs, rfl, ha, hx⟩, va, ne, k⟩ := h
    refine ⟨_, (pss_cons (ps_setLc (i := 3) (own := [("_law_low", 4), ("_law_high", 5), ("_law_bond_here", 6)]) (g := gTup K 3 (gCons (gName 4) (gCons (gName 5) (gCons (gName 6) (gNil))))) rfl sc_bond.nd rfl rfl (sw_true rfl rfl rfl (by decide +kernel)) (pi_tup (pv 0)) (blkOk_by (own := [("_law_low", 4), ("_law_high", 5), ("_law_bond_here", 6)]) (N := ["_law_bonds", "_law_one", "_law_other", "_law_told", "_law_low", "_law_high", "_law_bond_here"]) (sc := defScope s_bond) (by decide +kernel)) (fun _ _ _ _ _ => (pg_tup (by rfl) (pgs_cons (pg_name (i := 4) sc_bond.nd rfl (Or.inl rfl)) (pgs_cons (pg_name (i := 5) sc_bond.nd rfl (Or.inl rfl)) (pgs_cons (pg_name (i := 6) sc_bond.nd rfl (Or.inl rfl)) pgs_nil))))) (fun _ _ _ _ _ => (pts_one (pt_cmpR (show OpR _ _ (rEqD K) from (op_eqD hr.units)) (pe_tup (pa_cons (pv 4) (pa_cons (pv 5) pa_nil))) (pe_tup (pa_cons (pe_callB (call_min2 rfl) (by rfl) T.b_min (by decide +kernel) (pa_cons (pv 1) (pa_cons (pv 2) pa_nil))) (pa_cons (pe_callB (call_max2 rfl) (by rfl) T.b_max (by decide +kernel) (pa_cons (pv 1) (pa_cons (pv 2) pa_nil))) pa_nil))) (nomark _)))) (fun _ _ _ _ _ => (pv 6)))
      (pss_one (ps_ret (pe_ifExp (pt_cmpR (op_neD hr.units) (pv 3) (pe_lst pa_nil) (nomark _)) (pe_ix ix_list (pv 3) pe_int (fun _ _ => rfl)) pe_int)))), ?_⟩
    have hlen := hx.len
    have few := va.few
    refine ⟨_, rfl, a, rfl, ⟨_, ha⟩, fun D nD => lc_tup (K := K) (a := a) (xs := xs) (fun m H' => Same H H' ∧ H' D = some (.lst ((((bs.take m).filter (isPr i j)).map (·.getD 2 0)).map V.int))) ⟨same_new nD, upd_same⟩ (fun m H' _ h => sqT_same h.1 ha) ?_ ?_⟩
    · rintro m x H2 hm ⟨s2, hD⟩
      obtain ⟨t, ht, tx⟩ := hx.get hm
      have ilt := (List.getElem?_eq_some_iff.mp hm).1
      obtain ⟨b, rfl, hb⟩ := tx.same s2
      obtain ⟨l, h, d, rfl, t0, t1, _⟩ := va.tr t (List.mem_of_getElem? ht)
      refine ⟨_, _, rfl, hb, rfl, _, _, rfl, _, _, rfl, _, _, rfl, rfl, rfl, ?_⟩
      refine ⟨_, rfl, _, rfl, show 2 ≤ sizeLine by decide, fun p1 n1 => ?_⟩
      refine ⟨_, rfl, _, rfl, _, _, rfl, _, rfl, _, rfl, _, _, rfl, show 2 ≤ sizeLine by decide, fun p2 n2 => ?_⟩
      have S4 : Same H2 (upd (upd H2 p1 (.tup [.int l, .int h])) p2 (.tup [.int (if j < i then j else i), .int (if j > i then j else i)])) := (same_new n1).trans (same_new n2)
      have g1 : (upd (upd H2 p1 (.tup [.int l, .int h])) p2 (.tup [.int (if j < i then j else i), .int (if j > i then j else i)])) p1 = some (.tup [.int l, .int h]) := same_new n2 _ _ upd_same
      have g2 : (upd (upd H2 p1 (.tup [.int l, .int h])) p2 (.tup [.int (if j < i then j else i), .int (if j > i then j else i)])) p2 = some (.tup [.int (if j < i then j else i), .int (if j > i then j else i)]) := upd_same
      generalize (upd (upd H2 p1 (.tup [.int l, .int h])) p2 (.tup [.int (if j < i then j else i), .int (if j > i then j else i)])) = H4 at S4 g1 g2
      refine ⟨dT [l, h], dT [if j < i then j else i, if j > i then j else i], TI.dp (ns := [l, h]) ⟨p1, rfl, .of g1⟩, TI.dp (ns := [if j < i then j else i, if j > i then j else i]) ⟨p2, rfl, .of g2⟩, sh_dT _, sh_dT _, _, rfl, ?_⟩
      have hD4 := S4 _ _ hD
      rw [isPr_eq (d := d) t1 ne]
      refine ite2 (fun hp => ?_) (fun hp => ?_)
      · refine ⟨_, rfl, _, hD4, ?_, same_off nD (s2.trans S4) off_upd, ?_⟩
        · rw [List.length_map, List.length_map]
          have := List.length_filter_le (isPr i j) (bs.take m)
          rw [List.length_take] at this
          exact small1000 (by omega)
        · rw [upd_same, take_snoc ht, List.filter_append, List.map_append, List.map_append, List.filter_cons_of_pos hp]
          rfl
      · refine ⟨s2.trans S4, ?_⟩
        rw [take_snoc ht, List.filter_append, List.filter_cons_of_neg hp, List.filter_nil, List.append_nil]
        exact hD4
    · rintro H2 ⟨s2, hD⟩
      rw [hlen, List.take_length] at hD
      refine ⟨_, rfl, Nat.zero_le _, fun e ne' => ?_⟩
      have hD3 := same_new (o := .lst []) ne' _ _ hD
      refine ⟨_, .list [], .lst (.of hD3) (dInts _), .lst (.of upd_same) .nil, sh_L _, sh_L [], _, rfl, ?_⟩
      have kk := k _ (s2.trans (same_new (o := .lst []) ne'))
      unfold bondOf at kk
      cases hf : bs.filter (isPr i j) with
      | nil =>
        rw [hf] at kk
        exact iteF kk
      | cons t ts =>
        rw [hf] at kk hD3
        refine iteT ?_
        exact ⟨_, rfl, _, _, _, _, rfl, rfl, .of hD3, at_of (j := 0) rfl rfl, kk⟩
section
variable {X : Cx} {e : Expr} {es : List Expr} {ta : TE} {t : TA} {apos pos : Pos}
theorem pe_sletters (T : Txt X.K X.mg C) (hr : Room 2 X.A) (he : PE X e ta) (hab : attributeBase e "letters" X.env (eval e X.env) = eval e X.env := by rfl) : PE X (.Attribute e "letters" pos) (tProp C (spL X.K C) [] E0 ta) := by
  obtain ⟨_, _, _, hp, D⟩ := T.pL
  exact pe_prop he T.cl hp (ok_letters T D) hr (D.binds fun _ _ _ _ _ _ us hl => match us, hl with | [_], _ => rfl) .nil pass0 hab
theorem pe_sbonds (T : Txt X.K X.mg C) (hr : Room 2 X.A) (he : PE X e ta) (hab : attributeBase e "bonds" X.env (eval e X.env) = eval e X.env := by rfl) : PE X (.Attribute e "bonds" pos) (tProp C (spB X.K C) [] E0 ta) := by
  obtain ⟨_, _, _, hp, D⟩ := T.pB
  exact pe_prop he T.cl hp (ok_bonds T D) hr (D.binds fun _ _ _ _ _ _ us hl => match us, hl with | [_], _ => rfl) .nil pass0 hab
theorem call_gStr (T : Txt X.K X.mg C) (hr : Room 3 X.A) : CallR X (.type "str") (rStrO C (spStr X.K C) E0) := by
  obtain ⟨_, _, D, m⟩ := T.mStr
  exact call_strO m (ok_str T D) hr (D.binds fun _ _ _ _ _ _ us hl => match us, hl with | [_], _ => rfl) pass0
theorem op_gEq (T : Txt X.K X.mg C) (hr : Room 1 X.A) : OpR X (compareOp .Eq) (rBin C (spEq X.K C) E0) := by
  obtain ⟨_, _, D, m⟩ := T.mEq
  exact op_eqO T.oc m (ok_eq T D) hr (D.binds fun _ _ _ _ _ _ us hl => match us, hl with | [_, _], _ => rfl) pass0
theorem op_gNotEq (T : Txt X.K X.mg C) (hr : Room 2 X.A) : OpR X (compareOp .NotEq) (rBinN C (spEq X.K C) E0) := by
  obtain ⟨_, _, D, m⟩ := T.mEq
  exact op_neO T.oc m (ok_eq T D) hr (D.binds fun _ _ _ _ _ _ us hl => match us, hl with | [_, _], _ => rfl) pass0
theorem pe_bond_of {pl : Sem Bool} {o : Expr} (T : Txt X.K X.mg C) (hr : Room 2 X.A) (he : PE X o ta) (ha : PA X (e :: es) t)
    (hst : starEach (e :: es) X.env = (false, eval e X.env) :: starEach es X.env := by rfl) (hpl : (backTo pos (starEach es X.env)).any (·.1) = false := by rfl)
    (ht : eval (.Call (.Attribute o "bond_of" apos) (e :: es) [] pos) X.env = (do
      let ov ← eval o X.env
      standAt apos.atName
      let (f, first) ← holding [ov] (getMethod ov "bond_of" pl)
      callWith pos f first (backTo pos (starEach (e :: es) X.env)) (backToKw pos (keywordEach [] X.env))) := by rfl) :
    PE X (.Call (.Attribute o "bond_of" apos) (e :: es) [] pos) (tMeth C "bond_of" (spBondOf X.K C) [] E0 ta t) := by
  obtain ⟨_, _, D, m⟩ := T.mBond
  exact pe_meth he T.cl ⟨m.at_, m.fn, D.kp⟩ (ok_bond_of T D) hr (D.binds fun _ _ _ _ _ _ us hl => match us, hl with | [_, _, _], _ => rfl) .nil pass0 ha hst hpl ht
end
end
end Sk

namespace Sk
open PySem L2 Ow
/-! calls of the class held by a local name; classmethods -/
def tSysL (K : PySem.W.Frag) (i : Nat) (C : Addr) (t : TA) : TE := fun σ H Q => σ[i]? = some (some (.ref C)) ∧ tSys K C t σ H Q
section
variable {X : Cx} {k i : Nat} {C : Addr} {e o : Expr} {es : List Expr} {ta : TE} {t : TA} {p pos apos : Pos} {x : Str}
theorem pe_cls (T : Txt X.K X.mg C) (hr : Room 5 X.A) (hN : X.N[i]? = some x) (hv : Vis X.env.scope x) (ha : PA X (e :: es) t)
    (hdb : (x == ("__debug__" : Str)) = false := by decide) (hcd : (x == ("__classdict__" : Str)) = false := by decide)
    (he : starEach (e :: es) X.env = (false, eval e X.env) :: starEach es X.env := by rfl) (hpl : (backTo pos (starEach es X.env)).any (·.1) = false := by rfl) : PE X (.Call (.Name x p) (e :: es) [] pos) (tSysL X.K i C t) := by
  obtain ⟨f, fd, e0, M, D, sE⟩ := T.mkS
  refine ⟨fun pins s σ H Q I h => ?_⟩
  obtain ⟨hs, ht⟩ := h
  refine wpAny_Call_Name_kw (thn ((pe_var (pos := p) hN hv hdb hcd).run pins s σ H (fun v H1 => v = .ref C ∧ H1 = H) I ⟨.ref C, hs, rfl, rfl⟩) fun u s1 ⟨v, H1, I1, r1, q1⟩ => ?_)
  obtain ⟨rfl, rfl⟩ := q1
  cases r1
  refine PySem.W.callWith_K (h₀ := X.base) I.ok.mod.kin M.kp (thn (ha.run pos pins s1 σ _ _ I1 ht) fun us s2 ⟨vs, H2, I2, r, q⟩ => ⟨I2.kIn, run_sys T hr I2 r M D sE q⟩) he hpl
def tCMeth0 (C : Addr) (sp : Sp) (E : XK) (ta : TE) : TE := fun σ H Q => ta σ H fun x H1 => x = .ref C ∧ sp [.ref C] H1 Q E
theorem pe_cmeth0 {CX : CXT} {sp : Sp} {E : XK} {m : Str} {mc : Value} {q g : Addr} {pl : Sem Bool} (he : PE X o ta) (r : ClX.CRead X.K C mc) (c : ClX.CMet X.K C mc m q g) (F : FnR X.prog X.w X.K X.mg X.base CX k g sp) (hr : Room k X.A) (hx : Passes CX X E)
    (ht : eval (.Call (.Attribute o m apos) [] [] pos) X.env = (do
      let ov ← eval o X.env
      standAt apos.atName
      let (f, first) ← holding [ov] (getMethod ov m pl)
      callWith pos f first (backTo pos (starEach [] X.env)) (backToKw pos (keywordEach [] X.env))) := by rfl) :
    PE X (.Call (.Attribute o m apos) [] [] pos) (tCMeth0 C sp E ta) := by
  refine ⟨fun pins s σ H Q I h => ?_⟩
  refine PySem.W.methodCall_KW (pl := pl) (thn (he.run pins s σ H _ I h) fun u s1 ⟨x, H1, I1, rx, ex, q⟩ => ?_) ht
  subst ex
  obtain rfl : u = Value.ref C := rx
  refine ClX.getmethcm_ok I1 r c fun s2 I2 => ?_
  refine PySem.W.callWith_M0 (K := X.K) (first := []) ⟨ClX.pin_at I2, I2.kIn⟩ c.fi ?_
  exact ClX.run_cm (us := []) (vs := []) F hr hx I2 .nil q
/-- the systems that have names -/
def nb (a b : Int) : List (List Int) := (List.range (b - 1 - a).toNat).map fun i : Nat => [a + (i : Int), a + (i : Int) + 1, 3]
def rowsD (p : Int) : Dat := (p - 1, nb 0 (p - 1))
def signedD (p : Int) : Dat := (p, [0, 1, 4] :: nb 1 p)
def polyD (b : Int) : Dat := (2, if b = 2 then [] else [[0, 1, b]])
def ringD (p : Int) : Dat := if p = 2 then (2, [[0, 1, 0]]) else (3, [[0, 1, 3], [0, 2, 3], [1, 2, 3]])
def twentyD : Dat := (3, [[0, 1, 5], [1, 2, 3]])
def bondP (b : Int) : Prop := b = 0 ∨ b = 2 ∨ b = 3 ∨ b = 4 ∨ b = 5 ∨ b = 6
def NewD (K : PySem.W.Frag) (C : Addr) (H : Hp) (Q : VK) (d : Dat) : Prop := ∀ (r : Addr) (bv : V) (H' : Hp), Same H H' → H r = none → SysAt K C H' r d.1 bv d.2 → Q (.ref r) H'
def spC (K : PySem.W.Frag) (C : Addr) (dom : Int → Prop) (d : Int → Dat) : Sp := fun vs H Q _ => ∃ i, vs = [.ref C, .int i] ∧ dom i ∧ NewD K C H Q (d i)
def spNb (K : PySem.W.Frag) : Sp := fun vs H Q _ => ∃ a b, vs = [.int a, .int b] ∧ a ≤ 9 ∧ b ≤ 9 ∧ 0 ≤ a ∧ 0 ≤ b ∧ ∀ (v : V) (H' : Hp), Same H H' → BsAt K H' v (nb a b) → Q v H'
theorem NewD.sys {K : PySem.W.Frag} {H H1 : Hp} {Q : VK} {d : Dat} {n : Int} {bs : List (List Int)} (q : NewD K C H Q d) (s : Same H H1) (e : d = (n, bs)) : ∀ bv, NewS K C H1 Q n bv bs := fun bv r H' s' n0 a => q r bv H' (s.trans s') (s.free n0) (by rw [e]; exact a)
end
section
variable {P : Program} {w : World} {K : PySem.W.Frag} {mg : Str → Option Value} {base : Heap} {C : Addr}
theorem cal_neighbours (T : Txt K mg C) : Cal P w K mg base "neighbours" 1 (spNb K) := by
  refine T.d_neighbours.cal (ps := ["first", "letters"]) (fun f fd D => ?_) (fun _ _ _ _ _ _ us hl => match us, hl with | [_, _], _ => rfl)
  refine D.ok sc_neighbours (fun vs H Q E h => ?_) (fun cdv A outer s H vs Q E hr h => ?_)
  · obtain ⟨a, b, rfl, _⟩ := h
    rfl
  · obtain ⟨a, b, rfl, a9, b9, a0, b0, k⟩ := h
    refine ⟨_, (pss_one (ps_ret (pe_callTy call_tuple_of (by rfl) T.b_tuple (by decide +kernel) (pa_cons (pe_lc (own := [("letter", 2)]) (g := gName 2) (tt := tYes) rfl sc_neighbours.nd (pi_range2 (by rfl) T.b_range (pa_cons (pv 0) (pa_cons (pe_op op_sub (pv 1) pe_int) pa_nil))) (blkOk_by (own := [("letter", 2)]) (N := ["first", "letters", "letter"]) (sc := defScope s_neighbours) (by decide +kernel)) (fun _ _ _ _ _ => (pg_name (i := 2) sc_neighbours.nd rfl (Or.inl rfl))) (fun _ _ _ _ _ => pts_nil) (fun _ _ _ _ _ => (pe_tup (pa_cons (pv 2) (pa_cons (pe_op op_add (pv 2) pe_int) (pa_cons pe_int pa_nil)))))) pa_nil)))), ?_⟩
    refine ⟨_, rfl, _, rfl, _, _, rfl, rfl, _, _, rfl, ⟨by omega, by omega, by omega, by omega⟩, fun D nD => lc_range (lo := a) (n := (b - 1 - a).toNat) (fun i H' => ∃ xs, Same H H' ∧ H' D = some (.lst xs) ∧ TIs K H' xs ((List.range i).map fun i : Nat => [a + (i : Int), a + (i : Int) + 1, 3])) ⟨[], same_new nD, upd_same, trivial⟩ ?_ ?_⟩
    · rintro i H2 hi ⟨xs, s2, hD, hx⟩
      refine ⟨rfl, ?_⟩
      refine ⟨_, rfl, _, rfl, _, _, rfl, rfl, show 3 ≤ sizeLine by decide, fun q nq => ?_⟩
      have hl := hx.len
      rw [List.length_map, List.length_range] at hl
      have hD3 := same_new (o := .tup [.int (a + i), .int (a + i + 1), .int 3]) nq _ _ hD
      refine ⟨_, hD3, small1000 (by omega), _, same_off nD (s2.trans (same_new nq)) off_upd, upd_same, ?_⟩
      rw [List.range_succ, List.map_append]
      exact (off_upd.tis hD3 (hx.same (same_new nq))).snoc (off_upd.ti hD3 ⟨q, rfl, .of upd_same⟩)
    · rintro H2 ⟨xs, s2, hD, hx⟩
      refine ⟨_, xs, rfl, .inl ⟨.of hD, fun q nq => ?_⟩⟩
      exact k _ _ (s2.trans (same_new nq)) ⟨q, xs, rfl, .of upd_same, hx.same (same_new nq)⟩
theorem ok_rows (T : Txt K mg C) {f : Addr} {fd : FuncData} (D : Fun K "rows" "System.rows" s_rows f fd) : FnOk P w K mg base CX0 6 f fd ["cls", "places"] (spC K C (fun p => 2 ≤ p ∧ p ≤ 5) rowsD) := by
  refine D.ok sc_rows (fun vs H Q E h => ?_) (fun cdv A outer s H vs Q E hr h => ?_)
  · obtain ⟨i, rfl, _⟩ := h
    rfl
  · obtain ⟨i, rfl, ⟨h2, h5⟩, q⟩ := h
    refine ⟨_, (pss_cons (ps_if (pt_not (pt_val (pe_cal (cal_is_within T) (hr.mono (by decide)) (by rfl) (pa_cons (pv 1) (pa_cons pe_int (pa_cons (pe_op op_add (C8.pe_gc (v := .int 4) (by rfl) T.gML) pe_int) pa_nil)))))) (pss_one ps_never) pss_nil)
      (pss_one (ps_ret (pe_cls (i := 0) T (hr.mono (by decide)) rfl (Or.inl rfl) (pa_cons (pe_op op_sub (pv 1) pe_int) (pa_cons (pe_cal (cal_neighbours T) (hr.mono (by decide)) (by rfl) (pa_cons pe_int (pa_cons (pe_op op_sub (pv 1) pe_int) pa_nil))) pa_nil)))))), ?_⟩
    refine ⟨_, rfl, _, _, rfl, rfl, _, _, _, rfl, _, rfl, iteNT' (by rw [decide_eq_true h2, decide_eq_true (show i ≤ 4 + 1 by omega)]; rfl) ?_⟩
    refine ⟨rfl, _, rfl, _, _, rfl, rfl, _, rfl, _, _, rfl, rfl, _, _, rfl, by omega, by omega, by omega, by omega, fun v H1 s1 hb => ?_⟩
    refine ⟨_, v, nb 0 (i - 1), .inl rfl, fun _ => hb, okB_valid (d := rowsD i) ?_, q.sys s1 rfl⟩
    have : i = 2 ∨ i = 3 ∨ i = 4 ∨ i = 5 := by omega
    rcases this with rfl | rfl | rfl | rfl <;> decide
theorem ok_signed (T : Txt K mg C) {f : Addr} {fd : FuncData} (D : Fun K "signed" "System.signed" s_signed f fd) : FnOk P w K mg base CX0 6 f fd ["cls", "places"] (spC K C (fun p => 2 ≤ p ∧ p ≤ 3) signedD) := by
  refine D.ok sc_signed (fun vs H Q E h => ?_) (fun cdv A outer s H vs Q E hr h => ?_)
  · obtain ⟨i, rfl, _⟩ := h
    rfl
  · obtain ⟨i, rfl, ⟨h2, h5⟩, q⟩ := h
    refine ⟨_, (pss_cons (ps_if (pt_not (pt_val (pe_cal (cal_is_within T) (hr.mono (by decide)) (by rfl) (pa_cons (pv 1) (pa_cons pe_int (pa_cons pe_int pa_nil)))))) (pss_one ps_never) pss_nil)
      (pss_one (ps_ret (pe_cls (i := 0) T (hr.mono (by decide)) rfl (Or.inl rfl) (pa_cons (pv 1) (pa_cons (pe_tup (pa_cons pe_ti3 (StX.pa_star (pe_cal (cal_neighbours T) (hr.mono (by decide)) (by rfl) (pa_cons pe_int (pa_cons (pv 1) pa_nil))) pa_nil))) pa_nil)))))), ?_⟩
    refine ⟨_, rfl, _, _, _, rfl, _, rfl, iteNT' (by rw [decide_eq_true h2, decide_eq_true h5]; rfl) ?_⟩
    refine ⟨rfl, _, rfl, fun v1 H1 s1 t1 => ?_⟩
    refine ⟨_, rfl, _, _, rfl, by omega, by omega, by omega, by omega, fun v2 H2 s2 hb => ?_⟩
    obtain ⟨a, xs, rfl, ha, hx⟩ := hb
    refine ⟨a, xs, rfl, .inl ha, ?_⟩
    have hl := hx.len
    have hn : (nb 1 i).length ≤ 4 := by
      unfold nb
      rw [List.length_map, List.length_range]
      omega
    refine ⟨szl (by simp only [List.length_cons, List.length_append, List.length_nil]; omega), fun p np => ?_⟩
    refine ⟨_, .ref p, [0, 1, 4] :: nb 1 i, .inl rfl, fun _ => ⟨p, _, rfl, .of upd_same, ?_⟩, okB_valid (d := signedD i) ?_, q.sys (s1.trans (s2.trans (same_new np))) rfl⟩
    · rw [List.append_nil]
      exact ⟨(t1.same s2).same (same_new np), hx.same (same_new np)⟩
    · have : i = 2 ∨ i = 3 := by omega
      rcases this with rfl | rfl <;> decide
theorem ok_polygon (T : Txt K mg C) {f : Addr} {fd : FuncData} (D : Fun K "polygon" "System.polygon" s_polygon f fd) : FnOk P w K mg base CX0 6 f fd ["cls", "bond"] (spC K C bondP polyD) := by
  refine D.ok sc_polygon (fun vs H Q E h => ?_) (fun cdv A outer s H vs Q E hr h => ?_)
  · obtain ⟨i, rfl, _⟩ := h
    rfl
  · obtain ⟨i, rfl, hi, q⟩ := h
    obtain ⟨aB, gB, sB⟩ := T.gB
    refine ⟨_, (pss_cons (ps_if (PW.pt (pw_or (pt_not (pt_val (pe_cal (cal_is_within T) (hr.mono (by decide)) (by rfl) (pa_cons (pv 1) (pa_cons pe_int (pa_cons pe_int pa_nil)))))) (pw_or1 (pt_cmpR op_notIn_seq (pv 1) (pe_bonds (by rfl) gB) (by rfl))))) (pss_one ps_never) pss_nil)
      (pss_one (ps_ret (pe_cls (i := 0) T (hr.mono (by decide)) rfl (Or.inl rfl) (pa_cons pe_int (pa_cons (pe_ifExp (pt_cmpR op_eq (pv 1) pe_int (nomark _)) (pe_bs pas_nil) (pe_tup (pa_cons (pe_tup (pa_cons pe_int (pa_cons pe_int (pa_cons (pv 1) pa_nil)))) pa_nil))) pa_nil)))))), ?_⟩
    have b6 : 0 ≤ i ∧ i ≤ 6 := by rcases hi with h | h | h | h | h | h <;> omega
    refine ⟨_, rfl, _, _, _, rfl, _, rfl, iteNT' (by rw [decide_eq_true b6.1, decide_eq_true b6.2]; rfl) ?_⟩
    have e : inV (.int i) [.int 0, .int 2, .int 3, .int 4, .int 5, .int 6] = true := by
      rcases hi with rfl | rfl | rfl | rfl | rfl | rfl <;> rfl
    refine ⟨_, rfl, _, _, rfl, .inr (sB H), rfl, rfl, _, rfl, iteNT' e ?_⟩
    refine ⟨rfl, _, rfl, rfl, _, rfl, ite2 (fun h => ?_) (fun h => ?_)⟩
    · obtain rfl : i = 2 := V.int.inj (of_decide_eq_true h)
      exact fun v H1 s1 hb => ⟨_, v, [], .inl rfl, fun _ => hb, okB_valid (d := polyD 2) (by decide), q.sys s1 rfl⟩
    · have h' : i ≠ 2 := fun e => h (by rw [e]; rfl)
      refine ⟨_, rfl, show 3 ≤ sizeLine by decide, fun p1 n1 => ⟨show 1 ≤ sizeLine by decide, fun p2 n2 => ?_⟩⟩
      refine ⟨_, .ref p2, [[0, 1, i]], .inl rfl, fun _ => ⟨p2, [.ref p1], rfl, .of upd_same, ⟨p1, rfl, .of (same_new n2 _ _ upd_same)⟩, trivial⟩, okB_valid (d := (2, [[0, 1, i]])) ?_, q.sys ((same_new n1).trans (same_new n2)) (by unfold polyD; rw [if_neg h'])⟩
      rcases hi with rfl | rfl | rfl | rfl | rfl | rfl
      all_goals first | exact absurd rfl h' | decide
theorem ok_twenty (T : Txt K mg C) {f : Addr} {fd : FuncData} (D : Fun K "twenty" "System.twenty" s_twenty f fd) : FnOk P w K mg base CX0 6 f fd ["cls"] (fun vs H Q _ => vs = [.ref C] ∧ NewD K C H Q twentyD) := by
  refine D.ok sc_twenty (fun vs H Q E h => ?_) (fun cdv A outer s H vs Q E hr h => ?_)
  · obtain ⟨rfl, _⟩ := h
    rfl
  · obtain ⟨rfl, q⟩ := h
    refine ⟨_, (pss_one (ps_ret (pe_cls (i := 0) T (hr.mono (by decide)) rfl (Or.inl rfl) (pa_cons pe_int (pa_cons (pe_bs (pas_cons pe_ti3 (pas_cons pe_ti3 pas_nil))) pa_nil))))), ?_⟩
    exact ⟨rfl, fun v H1 s1 hb => ⟨_, v, _, .inl rfl, fun _ => hb, okB_valid (d := twentyD) (by decide), q.sys s1 rfl⟩⟩
theorem ok_ring (T : Txt K mg C) {f : Addr} {fd : FuncData} (D : Fun K "ring" "System.ring" s_ring f fd) : FnOk P w K mg base CX0 6 f fd ["cls", "letters"] (spC K C (fun p => 2 ≤ p ∧ p ≤ 3) ringD) := by
  refine D.ok sc_ring (fun vs H Q E h => ?_) (fun cdv A outer s H vs Q E hr h => ?_)
  · obtain ⟨i, rfl, _⟩ := h
    rfl
  · obtain ⟨i, rfl, ⟨h2, h5⟩, q⟩ := h
    refine ⟨_, (pss_cons (ps_if (pt_not (pt_val (pe_cal (cal_is_within T) (hr.mono (by decide)) (by rfl) (pa_cons (pv 1) (pa_cons pe_int (pa_cons pe_int pa_nil)))))) (pss_one ps_never) pss_nil)
      (pss_one (ps_ret (pe_ifExp (pt_cmpR op_eq (pv 1) pe_int (nomark _)) (pe_cls (i := 0) T (hr.mono (by decide)) rfl (Or.inl rfl) (pa_cons pe_int (pa_cons (pe_bs (pas_cons pe_ti3 pas_nil)) pa_nil))) (pe_cls (i := 0) T (hr.mono (by decide)) rfl (Or.inl rfl) (pa_cons pe_int (pa_cons (pe_bs (pas_cons pe_ti3 (pas_cons pe_ti3 (pas_cons pe_ti3 pas_nil)))) pa_nil))))))), ?_⟩
    refine ⟨_, rfl, _, _, _, rfl, _, rfl, iteNT' (by rw [decide_eq_true h2, decide_eq_true h5]; rfl) ?_⟩
    refine ⟨_, rfl, rfl, _, rfl, ite2 (fun h => ?_) (fun h => ?_)⟩
    · obtain rfl : i = 2 := V.int.inj (of_decide_eq_true h)
      exact ⟨rfl, fun v H1 s1 hb => ⟨_, v, _, .inl rfl, fun _ => hb, okB_valid (d := ringD 2) (by decide), q.sys s1 rfl⟩⟩
    · obtain rfl : i = 3 := by
        have : i ≠ 2 := fun e => h (by rw [e]; rfl)
        omega
      exact ⟨rfl, fun v H1 s1 hb => ⟨_, v, _, .inl rfl, fun _ => hb, okB_valid (d := ringD 3) (by decide), q.sys s1 rfl⟩⟩
theorem unraw {CX : CXT} {n : Nat} {g : Addr} {fd : FuncData} {ps : List Str} {sp : Sp} (F : FnOk P w K mg base CX n g fd ps sp) (hb : Binds K fd ps []) : FnR P w K mg base CX n g sp := (F.raw hb .nil).imp fun vs H Q E h => by rw [List.append_nil]; exact h
section
variable {X : Cx} {o e : Expr} {ta : TE} {t : TA} {apos pos : Pos}
theorem pe_cRows {pl : Sem Bool} (T : Txt X.K X.mg C) (hr : Room 6 X.A) (he : PE X o ta) (ha : PA X [e] t)
    (hst : starEach [e] X.env = (false, eval e X.env) :: starEach [] X.env := by rfl)
    (ht : eval (.Call (.Attribute o "rows" apos) [e] [] pos) X.env = (do
      let ov ← eval o X.env
      standAt apos.atName
      let (f, first) ← holding [ov] (getMethod ov "rows" pl)
      callWith pos f first (backTo pos (starEach [e] X.env)) (backToKw pos (keywordEach [] X.env))) := by rfl) :
    PE X (.Call (.Attribute o "rows" apos) [e] [] pos) (ClX.tCMeth C (spC X.K C (fun p => 2 ≤ p ∧ p ≤ 5) rowsD) E0 ta t) := by
  obtain ⟨_, _, _, c, D⟩ := T.cRows
  exact ClX.pe_cmeth he T.crd c (unraw (ok_rows T D) (D.binds fun _ _ _ _ _ _ us hl => match us, hl with | [_, _], _ => rfl)) hr pass0 ha hst rfl ht
theorem pe_cSigned {pl : Sem Bool} (T : Txt X.K X.mg C) (hr : Room 6 X.A) (he : PE X o ta) (ha : PA X [e] t)
    (hst : starEach [e] X.env = (false, eval e X.env) :: starEach [] X.env := by rfl)
    (ht : eval (.Call (.Attribute o "signed" apos) [e] [] pos) X.env = (do
      let ov ← eval o X.env
      standAt apos.atName
      let (f, first) ← holding [ov] (getMethod ov "signed" pl)
      callWith pos f first (backTo pos (starEach [e] X.env)) (backToKw pos (keywordEach [] X.env))) := by rfl) :
    PE X (.Call (.Attribute o "signed" apos) [e] [] pos) (ClX.tCMeth C (spC X.K C (fun p => 2 ≤ p ∧ p ≤ 3) signedD) E0 ta t) := by
  obtain ⟨_, _, _, c, D⟩ := T.cSigned
  exact ClX.pe_cmeth he T.crd c (unraw (ok_signed T D) (D.binds fun _ _ _ _ _ _ us hl => match us, hl with | [_, _], _ => rfl)) hr pass0 ha hst rfl ht
theorem pe_cPolygon {pl : Sem Bool} (T : Txt X.K X.mg C) (hr : Room 6 X.A) (he : PE X o ta) (ha : PA X [e] t)
    (hst : starEach [e] X.env = (false, eval e X.env) :: starEach [] X.env := by rfl)
    (ht : eval (.Call (.Attribute o "polygon" apos) [e] [] pos) X.env = (do
      let ov ← eval o X.env
      standAt apos.atName
      let (f, first) ← holding [ov] (getMethod ov "polygon" pl)
      callWith pos f first (backTo pos (starEach [e] X.env)) (backToKw pos (keywordEach [] X.env))) := by rfl) :
    PE X (.Call (.Attribute o "polygon" apos) [e] [] pos) (ClX.tCMeth C (spC X.K C bondP polyD) E0 ta t) := by
  obtain ⟨_, _, _, c, D⟩ := T.cPolygon
  exact ClX.pe_cmeth he T.crd c (unraw (ok_polygon T D) (D.binds fun _ _ _ _ _ _ us hl => match us, hl with | [_, _], _ => rfl)) hr pass0 ha hst rfl ht
theorem pe_cRing {pl : Sem Bool} (T : Txt X.K X.mg C) (hr : Room 6 X.A) (he : PE X o ta) (ha : PA X [e] t)
    (hst : starEach [e] X.env = (false, eval e X.env) :: starEach [] X.env := by rfl)
    (ht : eval (.Call (.Attribute o "ring" apos) [e] [] pos) X.env = (do
      let ov ← eval o X.env
      standAt apos.atName
      let (f, first) ← holding [ov] (getMethod ov "ring" pl)
      callWith pos f first (backTo pos (starEach [e] X.env)) (backToKw pos (keywordEach [] X.env))) := by rfl) :
    PE X (.Call (.Attribute o "ring" apos) [e] [] pos) (ClX.tCMeth C (spC X.K C (fun p => 2 ≤ p ∧ p ≤ 3) ringD) E0 ta t) := by
  obtain ⟨_, _, _, c, D⟩ := T.cRing
  exact ClX.pe_cmeth he T.crd c (unraw (ok_ring T D) (D.binds fun _ _ _ _ _ _ us hl => match us, hl with | [_, _], _ => rfl)) hr pass0 ha hst rfl ht
theorem pe_cTwenty {pl : Sem Bool} (T : Txt X.K X.mg C) (hr : Room 6 X.A) (he : PE X o ta)
    (ht : eval (.Call (.Attribute o "twenty" apos) [] [] pos) X.env = (do
      let ov ← eval o X.env
      standAt apos.atName
      let (f, first) ← holding [ov] (getMethod ov "twenty" pl)
      callWith pos f first (backTo pos (starEach [] X.env)) (backToKw pos (keywordEach [] X.env))) := by rfl) :
    PE X (.Call (.Attribute o "twenty" apos) [] [] pos) (tCMeth0 C (fun vs H Q _ => vs = [.ref C] ∧ NewD X.K C H Q twentyD) E0 ta) := by
  obtain ⟨_, _, _, c, D⟩ := T.cTwenty
  exact pe_cmeth0 he T.crd c (unraw (ok_twenty T D) (D.binds fun _ _ _ _ _ _ us hl => match us, hl with | [_], _ => rfl)) hr pass0 ht
theorem op_gEqX (T : Txt X.K X.mg C) (hr : Room 1 X.A) : OpR X (compareOp .Eq) (rBinX X.K C (spEq X.K C) E0) := by
  obtain ⟨_, _, D, m⟩ := T.mEq
  exact op_eqX m (ok_eq T D) hr (D.binds fun _ _ _ _ _ _ us hl => match us, hl with | [_, _], _ => rfl) pass0
theorem op_gNotEqX (T : Txt X.K X.mg C) (hr : Room 2 X.A) : OpR X (compareOp .NotEq) (rBinNX X.K C (spEq X.K C) E0) := by
  obtain ⟨_, _, D, m⟩ := T.mEq
  exact op_neX T.oc m (ok_eq T D) hr (D.binds fun _ _ _ _ _ _ us hl => match us, hl with | [_, _], _ => rfl) pass0
end
end
end Sk

namespace Sk
open PySem L2 Ow
theorem eqv_ints : ∀ a b : List Int, PyData.eqvAll (a.map PyData.int) (b.map PyData.int) = decide (a = b)
  | [], [] => by simp [PyData.eqvAll]
  | [], _ :: _ => by simp [PyData.eqvAll]
  | _ :: _, [] => by simp [PyData.eqvAll]
  | x :: a, y :: b => by
    have h := eqv_ints a b
    by_cases e : x = y
    · subst e
      simp [PyData.eqvAll, PyData.eqv, h]
    · simp [PyData.eqvAll, PyData.eqv, h, e]
theorem eqv_dT (a b : List Int) : PyData.eqv (dT a) (dT b) = decide (a = b) := by
  unfold dT
  rw [show PyData.eqv (.tuple (a.map PyData.int)) (.tuple (b.map PyData.int)) = PyData.eqvAll (a.map PyData.int) (b.map PyData.int) from by simp [PyData.eqv]]
  exact eqv_ints a b
theorem eqv_dTs : ∀ a b : List (List Int), PyData.eqvAll (a.map dT) (b.map dT) = decide (a = b)
  | [], [] => by simp [PyData.eqvAll]
  | [], _ :: _ => by simp [PyData.eqvAll]
  | _ :: _, [] => by simp [PyData.eqvAll]
  | x :: a, y :: b => by
    have h := eqv_dTs a b
    have h2 := eqv_dT x y
    by_cases e : x = y
    · subst e
      simp [PyData.eqvAll, h2, h]
    · simp [PyData.eqvAll, h2, h, e]
theorem eqv_dB (a b : List (List Int)) : PyData.eqv (dB a) (dB b) = decide (a = b) := by
  unfold dB
  rw [show PyData.eqv (.tuple (a.map dT)) (.tuple (b.map dT)) = PyData.eqvAll (a.map dT) (b.map dT) from by simp [PyData.eqv]]
  exact eqv_dTs a b
theorem eqv_dBr (a : List (List Int)) : PyData.eqv (dB a) (dB a) = true := by
  rw [eqv_dB]
  exact decide_eq_true rfl
/-- a pair of a number and bonds, as data -/
def dP (n : Int) (bs : List (List Int)) : PyData := .tuple [.int n, dB bs]
theorem eqv_dP (n m : Int) (bs cs : List (List Int)) : PyData.eqv (dP n bs) (dP m cs) = (decide (n = m) && PyData.eqv (dB bs) (dB cs)) := by
  unfold dP
  rw [show PyData.eqv (.tuple [.int n, dB bs]) (.tuple [.int m, dB cs]) = PyData.eqvAll [.int n, dB bs] [.int m, dB cs] from by simp [PyData.eqv]]
  by_cases e : n = m
  · subst e
    simp [PyData.eqvAll, PyData.eqv]
  · simp [PyData.eqvAll, PyData.eqv, e]
theorem sh_dP (n : Int) (bs : List (List Int)) : SeqAt.shaped (dP n bs) = true := by
  unfold SeqAt.shaped
  have h1 : (dP n bs).canLay0 = true := by simp [dP, PyData.canLay0, PyData.canLayAll0, lay_dB]
  have h2 : (dP n bs).depth ≤ 64 := by
    have := dep_dB bs
    simp [dP, PyData.depth, PyData.depthAll]
    omega
  rw [h1, decide_eq_true h2]
  rfl
theorem pair_dp {K : PySem.W.Frag} {H : Hp} {q : Addr} {n : Int} {bv : V} {bs : List (List Int)} (h : H q = some (.tup [.int n, bv])) (b : BsAt K H bv bs) : Dp K H (.ref q) (dP n bs) := .tup (.of h) (.cons (.int n) (.cons b.dp .nil))
theorem SysAt.off {K : PySem.W.Frag} {C D : Addr} {H H' : Hp} {p : Addr} {n : Int} {bv : V} {bs : List (List Int)} {acc : List V} (g : SysAt K C H p n bv bs) (o : Off D H H') (hD : H D = some (.lst acc)) : SysAt K C H' p n bv bs :=
  ⟨g.1.elim fun dx h => ⟨dx, o _ _ (fun e => by rw [e, hD] at h; cases h) h⟩, o.bs hD g.2⟩
structure KS (K : PySem.W.Frag) (C p r : Addr) (n : Int) (bv bw : V) (bs : List (List Int)) (H : Hp) : Prop where
  b : BasAt H p
  t : BsAt K H bv bs
  y : SysAt K C H r n bw bs
theorem KS.same {K : PySem.W.Frag} {C p r : Addr} {n : Int} {bv bw : V} {bs : List (List Int)} {H H' : Hp} (k : KS K C p r n bv bw bs H) (s : Same H H') : KS K C p r n bv bw bs H' := ⟨k.b.same s, k.t.same s, k.y.same s⟩
theorem KS.off {K : PySem.W.Frag} {C p r : Addr} {n : Int} {bv bw : V} {bs : List (List Int)} {H H' : Hp} (k : KS K C p r n bv bw bs H) (o : Off p H H') (b : BasAt H' p) : KS K C p r n bv bw bs H' := by
  obtain ⟨_, _, _, e⟩ := k.b
  exact ⟨b, o.bs e k.t, k.y.off o e⟩
def spRight : Sp := fun vs H Q _ => ∃ p : Addr, vs = [.ref p] ∧ BasAt H p ∧ ∀ H' : Hp, Off p H H' → BasAt H' p → Q (.bl true) H'
section
variable {P : Program} {w : World} {K : PySem.W.Frag} {mg : Str → Option Value} {base : Heap} {C : Addr}
theorem cal_right (T : Txt K mg C) : Cal P w K mg base "_law_right" 6 spRight := by
  refine T.d_right.cal (ps := ["_law_vat_here"]) (fun f fd D => ?_) (fun _ _ _ _ _ _ us hl => match us, hl with | [_], _ => rfl)
  refine D.ok sc_right (fun vs H Q E h => ?_) (fun cdv A outer s H vs Q E hr h => ?_)
  · obtain ⟨p, rfl, _⟩ := h
    rfl
  · obtain ⟨p, rfl, hb, k⟩ := h
    refine ⟨_, (pss_cons (ps_asg (pe_cal (cal_system T) (hr.mono (by decide)) (by rfl) (pa_cons (pv 0) pa_nil)) (pg_tup (by rfl) (pgs_cons (pg_name (i := 1) sc_right.nd rfl (Or.inl rfl)) (pgs_cons (pg_name (i := 2) sc_right.nd rfl (Or.inl rfl)) pgs_nil))))
      (pss_cons (ps_set (i := 3) sc_right.nd rfl (Or.inl rfl) (pe_sys T (hr.mono (by decide)) (by rfl) (pa_cons (pv 1) (pa_cons (pv 2) pa_nil))))
      (pss_cons (ps_if (PW.pt (pw_or (pt_cmpR op_ne (pe_sletters T (hr.mono (by decide)) (pv 3)) (pv 1) (nomark _)) (pw_or (pt_cmpR (op_neD hr.units) (pe_sbonds T (hr.mono (by decide)) (pv 3)) (pv 2) (nomark _)) (pw_or1 (pt_cmpR op_ne (pe_callTy (call_gStr T (hr.mono (by decide))) (by rfl) T.b_str (by decide +kernel) (pa_cons (pv 3) pa_nil)) (pe_cal (cal_text T) (hr.mono (by decide)) (by rfl) (pa_cons (pv 1) (pa_cons (pv 2) pa_nil))) (nomark _)))))) (pss_one (ps_ret pe_bl)) pss_nil)
      (pss_cons (ps_for PassesOwn.never rfl (pi_range1 (by rfl) T.b_range (pa_cons (pv 1) pa_nil)) (pg_name (i := 4) sc_right.nd rfl (Or.inl rfl)) (pss_one (ps_for PassesOwn.never rfl (pi_range1 (by rfl) T.b_range (pa_cons (pv 1) pa_nil)) (pg_name (i := 5) sc_right.nd rfl (Or.inl rfl)) (pss_one (ps_if (PW.pt (pw_and (pt_cmpR op_ne (pv 4) (pv 5) (nomark _)) (pw_and1 (pt_cmpR op_ne (pe_bond_of T (hr.mono (by decide)) (pv 3) (pa_cons (pv 4) (pa_cons (pv 5) pa_nil))) (pe_cal (cal_bond T) (hr.mono (by decide)) (by rfl) (pa_cons (pv 2) (pa_cons (pv 4) (pa_cons (pv 5) pa_nil)))) (nomark _))))) (pss_one (ps_ret pe_bl)) pss_nil)))))
      (pss_cons (ps_asg (pe_cal (cal_system T) (hr.mono (by decide)) (by rfl) (pa_cons (pv 0) pa_nil)) (pg_tup (by rfl) (pgs_cons (pg_name (i := 6) sc_right.nd rfl (Or.inl rfl)) (pgs_cons (pg_name (i := 7) sc_right.nd rfl (Or.inl rfl)) pgs_nil))))
      (pss_cons (ps_if (PW.pt (pw_or (pt_cmpR op_ne (pe_cmpR (op_gEq T (hr.mono (by decide))) (pv 3) (pe_sys T (hr.mono (by decide)) (by rfl) (pa_cons (pv 6) (pa_cons (pv 7) pa_nil))) (nomark _)) (pe_cmpR (op_eqD hr.units) (pe_tup (pa_cons (pv 1) (pa_cons (pv 2) pa_nil))) (pe_tup (pa_cons (pv 6) (pa_cons (pv 7) pa_nil))) (nomark _)) (nomark _)) (pw_or1 (pt_cmpR (op_gNotEq T (hr.mono (by decide))) (pv 3) (pe_sys T (hr.mono (by decide)) (by rfl) (pa_cons (pv 1) (pa_cons (pv 2) pa_nil))) (nomark _))))) (pss_one (ps_ret pe_bl)) pss_nil)
      (pss_cons (ps_if (PW.pt (pw_and (pt_cmpR (op_eqD hr.units) (pv 2) (pe_bs pas_nil) (nomark _)) (pw_and1 (pt_cmpR (op_gNotEq T (hr.mono (by decide))) (pv 3) (pe_sys T (hr.mono (by decide)) (by rfl) (pa_cons (pv 1) pa_nil)) (nomark _))))) (pss_one (ps_ret pe_bl)) pss_nil)
      (pss_cons (ps_set (i := 8) sc_right.nd rfl (Or.inl rfl) (pe_cal (cal_taste T) (hr.mono (by decide)) (by rfl) (pa_cons (pv 0) (pa_cons (pe_lst (pa_cons pe_non (pa_cons (pv 1) (pa_cons (pv 2) (pa_cons (pe_tup (pa_cons (pv 1) (pa_cons (pv 2) pa_nil))) (pa_cons (pe_callTy (call_gStr T (hr.mono (by decide))) (by rfl) T.b_str (by decide +kernel) (pa_cons (pv 3) pa_nil)) (pa_cons pe_dnewK (pa_cons pe_bl pa_nil)))))))) pa_nil))))
      (pss_one (ps_ret (pe_and (pe_not (pe_cmpR (op_gEqX T (hr.mono (by decide))) (pv 3) (pv 8) (nomark _))) (pe_one (pe_cmpR (op_gNotEqX T (hr.mono (by decide))) (pv 3) (pv 8) (nomark _)))))))))))))), ?_⟩
    refine ⟨_, rfl, p, rfl, hb, fun v n bs H1 o1 b1 hv va => ?_⟩
    obtain ⟨a, bv, rfl, ha, hbv⟩ := hv
    refine ⟨_, _, rfl, ha, rfl, _, _, rfl, _, _, rfl, rfl, ?_⟩
    refine ⟨_, rfl, _, rfl, n, bv, bs, .inl rfl, fun _ => hbv, va, fun bw r H2 s2 n2 sys => ?_⟩
    have ks : KS K C p r n bv bw bs H2 := ⟨b1.same s2, hbv.same s2, sys⟩
    have o2 : Off p H H2 := o1.trans (.of_same s2)
    have nlo := va.lo
    have nhi := va.hi
    have ge : ∃ dx, H2 r = some (.ins C dx (sf n bw)) := sys.1
    obtain ⟨dx, g⟩ := ge
    refine ⟨_, rfl, r, dx, _, rfl, g, r, n, bw, bs, rfl, sys, _, rfl, rfl, _, rfl, iteNS rfl ?_⟩
    refine ⟨_, rfl, r, dx, _, rfl, g, r, n, bw, bs, rfl, sys, _, rfl, _, _, sys.2.dp, ks.t.dp, sh_dB _, sh_dB _, _, rfl, iteNT' (eqv_dBr _) ?_⟩
    refine ⟨_, rfl, r, dx, _, rfl, g, r, n, bw, bs, rfl, sys, va, fun H3 s3 => ⟨_, rfl, ?_⟩⟩
    have k3 := ks.same s3
    refine ⟨_, rfl, _, rfl, n, bv, bs, rfl, k3.t, va, rfl, _, rfl, iteNS rfl ?_⟩
    have o3 : Off p H H3 := o2.trans (.of_same s3)
    clear s2 n2 sys ks g o2 dx
    refine ⟨_, rfl, _, rfl, by omega, by omega, for_range (lo := 0) (n := n.toNat) (fun i σ H' => ∃ v4 v5, σ = [some (.ref p), some (.int n), some bv, some (.ref r), v4, v5, none, none, none] ∧ Off p H H' ∧ KS K C p r n bv bw bs H') ?_ ?_ ?_⟩
    · exact ⟨none, none, rfl, o3, k3⟩
    · rintro i σ H4 hi ⟨v4, v5, rfl, o4, k4⟩
      refine ⟨_, rfl, _, rfl, by omega, by omega, for_range (lo := 0) (n := n.toNat) (fun j σ H' => ∃ v5, σ = [some (.ref p), some (.int n), some bv, some (.ref r), some (.int (0 + (i : Int))), v5, none, none, none] ∧ Off p H H' ∧ KS K C p r n bv bw bs H') ?_ ?_ ?_⟩
      · exact ⟨v5, rfl, o4, k4⟩
      · rintro j σ H5 hj ⟨v5, rfl, o5, k5⟩
        refine ⟨_, rfl, _, rfl, rfl, _, rfl, ite2 (fun hne => ?_) (fun _ => ?_)⟩
        · have ne : (0 + (i : Int)) ≠ 0 + (j : Int) := fun e => by
            rw [e] at hne
            revert hne
            simp
          have ge : ∃ dx, H5 r = some (.ins C dx (sf n bw)) := k5.y.1
          obtain ⟨dx, g⟩ := ge
          refine ⟨_, rfl, r, dx, _, rfl, g, sf_no _ _ (by decide +kernel) (by decide +kernel), _, rfl, _, rfl, r, n, bw, bs, _, _, rfl, k5.y, va, by omega, by omega, by omega, by omega, ne, fun H6 s6 => ?_⟩
          have k6 := k5.same s6
          refine ⟨_, rfl, _, rfl, _, rfl, n, bv, bs, _, _, rfl, k6.t, va, ne, fun H7 s7 => ⟨rfl, _, rfl, iteNS rfl ?_⟩⟩
          exact ⟨_, rfl, o5.trans (.of_same (s6.trans s7)), k6.same s7⟩
        · exact ⟨_, rfl, o5, k5⟩
      · rintro σ H5 ⟨v5, rfl, o5, k5⟩
        exact ⟨_, _, rfl, o5, k5⟩
    · rintro σ H4 ⟨v4, v5, rfl, o4, k4⟩
      refine ⟨_, rfl, p, rfl, k4.b, fun v m cs H5 o5 b5 hv vb => ?_⟩
      obtain ⟨a2, cv, rfl, ha2, hcv⟩ := hv
      have k5 := k4.off o5 b5
      refine ⟨_, _, rfl, ha2, rfl, _, _, rfl, _, _, rfl, rfl, ?_⟩
      refine ⟨_, rfl, _, rfl, _, rfl, m, cv, cs, .inl rfl, fun _ => hcv, vb, fun cw r2 H6 s6 n6 sys2 => ?_⟩
      have k6 := k5.same s6
      have ge : ∃ dx, H6 r = some (.ins C dx (sf n bw)) := k6.y.1
      obtain ⟨dx, g⟩ := ge
      have ge : ∃ dx, H6 r2 = some (.ins C dx (sf m cw)) := sys2.1
      obtain ⟨dy, g2⟩ := ge
      refine ⟨r, r2, dx, _, dy, _, rfl, rfl, g, g2, r, .ref r2, n, bw, bs, rfl, k6.y, .inl ⟨r2, m, cw, cs, rfl, sys2, ?_⟩⟩
      refine ⟨_, rfl, _, rfl, show 2 ≤ sizeLine by decide, fun q1 nq1 => ⟨_, rfl, _, rfl, show 2 ≤ sizeLine by decide, fun q2 nq2 => ?_⟩⟩
      have s8 := (same_new (o := .tup [.int n, bv]) nq1).trans (same_new (o := .tup [.int m, cv]) nq2)
      have k8 := k6.same s8
      refine ⟨dP n bs, dP m cs, pair_dp (same_new nq2 _ _ upd_same) k8.t, pair_dp upd_same (hcv.same (s6.trans s8)), sh_dP _ _, sh_dP _ _, rfl, _, rfl, iteNS (by rw [eqv_dP]) ?_⟩
      have o8 : Off p H _ := (o4.trans o5).trans (.of_same (s6.trans s8))
      refine ⟨_, rfl, _, rfl, _, rfl, n, bv, bs, .inl rfl, fun _ => k8.t, va, fun bw3 r3 H9 s9 n9 sys3 => ?_⟩
      have k9 := k8.same s9
      have o9 := o8.trans (.of_same s9)
      have ge : ∃ dx, H9 r = some (.ins C dx (sf n bw)) := k9.y.1
      obtain ⟨dx, g⟩ := ge
      have ge : ∃ dx, H9 r3 = some (.ins C dx (sf n bw3)) := sys3.1
      obtain ⟨dy, g3⟩ := ge
      have yes : (decide (n = n) && PyData.eqv (dB bs) (dB bs)) = true := by rw [eqv_dBr, decide_eq_true rfl]; rfl
      refine ⟨r, r3, dx, _, dy, _, rfl, rfl, g, g3, r, .ref r3, n, bw, bs, rfl, k9.y, .inl ⟨r3, n, bw3, bs, rfl, sys3, _, rfl, _, rfl, iteNT' yes ?_⟩⟩
      clear g g2 g3 s9 n9 sys3 s8 nq1 nq2 k8 o8 n6 sys2 s6
      -- no bonds
      refine ⟨_, rfl, fun v Hz sz hv => ?_⟩
      have kz := k9.same sz
      have oz := o9.trans (.of_same sz)
      clear k9 o9 k3 o3 k4 o4 k5 o5 k6 sz
      refine ⟨dB bs, dB [], kz.t.dp, hv.dp, sh_dB _, sh_dB _, _, rfl, ite2 (fun h => ?nb) (fun _ => ?_)⟩
      case' nb =>
        clear hv
        have e0 : bs = [] := by
          rw [eqv_dB] at h
          exact of_decide_eq_true h
        subst e0
        refine ⟨_, rfl, _, rfl, n, .ref r, [], .inr ⟨rfl, rfl, _, rfl⟩, (fun e => nomatch e), va, fun bw4 r4 Hy sy n4 sys4 => ?_⟩
        have kz := kz.same sy
        have oz := oz.trans (.of_same sy)
        have ge : ∃ dx, Hy r = some (.ins C dx (sf n bw)) := kz.y.1
        obtain ⟨dx, g⟩ := ge
        have ge : ∃ dx, Hy r4 = some (.ins C dx (sf n bw4)) := sys4.1
        obtain ⟨dy, g4⟩ := ge
        refine ⟨r, r4, dx, _, dy, _, rfl, rfl, g, g4, r, .ref r4, n, bw, [], rfl, kz.y, .inl ⟨r4, n, bw4, [], rfl, sys4, _, rfl, _, rfl, iteNT' yes ?_⟩⟩
        clear g g4 sys4 n4 sy
      all_goals
        refine ⟨_, rfl, _, rfl, _, rfl, _, rfl, _, rfl, show 2 ≤ sizeLine by decide, fun q3 nq3 => ?_⟩
        have kz := kz.same (same_new (o := .tup [.int n, bv]) nq3)
        have oz := oz.trans (.of_same (same_new (o := .tup [.int n, bv]) nq3))
        have ge := kz.y.1
        obtain ⟨dx, g⟩ := ge
        refine ⟨_, rfl, r, dx, _, rfl, g, r, n, bw, _, rfl, kz.y, va, fun Hs ss => ⟨_, rfl, fun d nd => ⟨show 7 ≤ sizeLine by decide, fun l nl => ?_⟩⟩⟩
        have gq := ss _ _ (upd_same (H := _) (a := q3))
        have kd := (kz.same ss).same (same_new (o := .dK []) nd)
        have k1 := fun o => kd.same (same_new (o := o) nl)
        have o1' := fun o => oz.trans (.of_same ((ss.trans (same_new (o := .dK []) nd)).trans (same_new (o := o) nl)))
        have gq1 := fun o => same_new (o := o) nl _ _ (same_new (o := .dK []) nd _ _ gq)
        have gd1 := fun o => same_new (o := o) nl _ _ (upd_same (H := Hs) (a := d) (o := .dK []))
        refine ⟨p, l, _, rfl, (k1 _).b, upd_same, fresh_ne kd.b nl, (by show 0 < 7; decide), (by show 7 ≤ 1000; decide), fun v He hv oe be => ?_⟩
        have k2 := (k1 _).off oe be
        have o2' := (o1' _).trans oe
        have ge2 := k2.y.1
        obtain ⟨dx2, g2⟩ := ge2
        have pn := (k1 (.lst [])).b
        have qp : q3 ≠ p := fun e => by
          obtain ⟨_, _, _, ep⟩ := pn
          have := gq1 (.lst [])
          rw [e, ep] at this
          cases this
        have dp : d ≠ p := fresh_ne (kz.same ss).b nd
        have gq2 := oe _ _ qp (gq1 _)
        have gd2 := oe _ _ dp (gd1 _)
        obtain ⟨T', ty, tyo⟩ : ∃ T', TyX K He v (.type T') ∧ TyO K C T' := by
          simp only [List.mem_cons, List.not_mem_nil, or_false] at hv
          rcases hv with rfl | rfl | rfl | rfl | rfl | rfl | rfl
          · exact ⟨_, .base .non, T.yNone⟩
          · exact ⟨_, .base (.int _), T.yInt⟩
          · obtain ⟨_, _, rfl, hz, _⟩ := k2.t
            exact ⟨_, tup_ty hz, T.yTup⟩
          · exact ⟨_, .base (.tup gq2), T.yTup⟩
          · exact ⟨_, .base (.str _), T.yStr⟩
          · exact ⟨_, .base (.dK gd2), T.yDict⟩
          · exact ⟨_, .base (.bl _), T.yBool⟩
        refine ⟨_, rfl, _, rfl, r, dx2, _, T', rfl, g2, ty, tyo.sub, r, v, n, bw, _, rfl, k2.y, .inr ⟨_, ty, tyo.kit, _, rfl, _, rfl, iteT ?_⟩⟩
        exact ⟨_, rfl, _, rfl, r, dx2, _, T', rfl, g2, ty, tyo.sub, r, v, n, bw, _, rfl, k2.y, .inr ⟨_, ty, tyo.kit, _, rfl, k He o2' be⟩⟩
end
end Sk

namespace Sk
open PySem L2 Ow
/-- a system with what it is held to -/
def Nm (K : PySem.W.Frag) (C : Addr) (H : Hp) (v : V) : Prop := ∃ (a r : Addr) (bw bv : V) (n : Int) (bs : List (List Int)), v = .ref a ∧ SqT K H a [.ref r, .int n, bv] ∧ SysAt K C H r n bw bs ∧ BsAt K H bv bs ∧ Valid n bs
theorem Nm.same {K : PySem.W.Frag} {C : Addr} {H H' : Hp} {v : V} (h : Nm K C H v) (s : Same H H') : Nm K C H' v := by
  obtain ⟨a, r, bw, bv, n, bs, e, q, y, b, va⟩ := h
  exact ⟨a, r, bw, bv, n, bs, e, sqT_same s q, y.same s, b.same s, va⟩
theorem Nm.off {K : PySem.W.Frag} {C D : Addr} {H H' : Hp} {v : V} {acc : List V} (h : Nm K C H v) (o : Off D H H') (hD : H D = some (.lst acc)) : Nm K C H' v := by
  obtain ⟨a, r, bw, bv, n, bs, e, q, y, b, va⟩ := h
  exact ⟨a, r, bw, bv, n, bs, e, o.sqT hD q, y.off o hD, o.bs hD b, va⟩
structure NL (K : PySem.W.Frag) (C : Addr) (H0 : Hp) (l : Addr) (j : Nat) (xs : List V) (H : Hp) : Prop where
  at_ : H l = some (.lst xs)
  all : ∀ v ∈ xs, Nm K C H v
  len : xs.length ≤ j
  same : Same H0 H
theorem NL.go {K : PySem.W.Frag} {C : Addr} {H0 H H' : Hp} {l : Addr} {j : Nat} {xs : List V} (h : NL K C H0 l j xs H) (s : Same H H') : NL K C H0 l j xs H' := ⟨s _ _ h.at_, fun v m => (h.all v m).same s, h.len, h.same.trans s⟩
theorem NL.push {K : PySem.W.Frag} {C : Addr} {H0 H : Hp} {l : Addr} {j : Nat} {xs : List V} {v : V} (h : NL K C H0 l j xs H) (n0 : H0 l = none) (k : Nm K C H v) : NL K C H0 l (j + 1) (xs ++ [v]) (upd H l (.lst (xs ++ [v]))) := by
  refine ⟨upd_same, fun u m => ?_, ?_, same_off n0 h.same off_upd⟩
  · rcases List.mem_append.mp m with m | m
    · exact (h.all u m).off off_upd h.at_
    · obtain rfl := List.mem_singleton.mp m
      exact k.off off_upd h.at_
  · rw [List.length_append, List.length_singleton]
    have := h.len
    omega
theorem NL.pushes {K : PySem.W.Frag} {C : Addr} {H0 H : Hp} {l : Addr} {j k : Nat} {xs ys : List V} (h : NL K C H0 l j xs H) (n0 : H0 l = none) (hy : ∀ v ∈ ys, Nm K C H v) (hk : ys.length ≤ k) : NL K C H0 l (j + k) (xs ++ ys) (upd H l (.lst (xs ++ ys))) := by
  refine ⟨upd_same, fun u m => ?_, ?_, same_off n0 h.same off_upd⟩
  · rcases List.mem_append.mp m with m | m
    · exact (h.all u m).off off_upd h.at_
    · exact (hy u m).off off_upd h.at_
  · rw [List.length_append]
    have := h.len
    omega
theorem NL.small {K : PySem.W.Frag} {C : Addr} {H0 H : Hp} {l : Addr} {j : Nat} {xs : List V} (h : NL K C H0 l j xs H) (hj : j ≤ 100) : xs.length < sizeLine := small1000 (by have := h.len; omega)
/-- a new triple of such -/
theorem nm_new {K : PySem.W.Frag} {C : Addr} {H : Hp} {q r : Addr} {n : Int} {bv bw : V} {bs : List (List Int)} (h : H q = some (.tup [.ref r, .int n, bv])) (y : SysAt K C H r n bw bs) (b : BsAt K H bv bs) (va : Valid n bs) : Nm K C H (.ref q) := ⟨q, r, bw, bv, n, bs, rfl, .of h, y, b, va⟩
theorem NL.step {K : PySem.W.Frag} {C : Addr} {H0 H1 H2 H3 : Hp} {l u r : Addr} {j : Nat} {xs : List V} {n : Int} {bv bw : V} {bs : List (List Int)} (N : NL K C H0 l j xs H1) (n0 : H0 l = none) (s2 : Same H1 H2) (y : SysAt K C H2 r n bw bs) (s3 : Same H2 H3) (b : BsAt K H3 bv bs) (nu : H3 u = none) (va : Valid n bs) (hj : j ≤ 100) :
    upd H3 u (.tup [.ref r, .int n, bv]) l = some (.lst xs) ∧ xs.length < sizeLine ∧ NL K C H0 l (j + 1) (xs ++ [.ref u]) (upd (upd H3 u (.tup [.ref r, .int n, bv])) l (.lst (xs ++ [.ref u]))) := by
  have N' := (N.go (s2.trans s3)).go (same_new (o := .tup [.ref r, .int n, bv]) nu)
  have S := s3.trans (same_new (o := .tup [.ref r, .int n, bv]) nu)
  exact ⟨N'.at_, N'.small hj, N'.push n0 (nm_new upd_same (y.same S) (b.same (same_new nu)) va)⟩
def spNamed (K : PySem.W.Frag) (C : Addr) : Sp := fun vs H Q _ => vs = [] ∧ ∀ (p : Addr) (xs : List V) (H' : Hp), Same H H' → H p = none → H' p = some (.lst xs) → (∀ v ∈ xs, Nm K C H' v) → Q (.ref p) H'
section
variable {P : Program} {w : World} {K : PySem.W.Frag} {mg : Str → Option Value} {base : Heap} {C : Addr}
theorem cal_named (T : Txt K mg C) : Cal P w K mg base "_law_named" 7 (spNamed K C) := by
  refine T.d_named.cal (ps := []) (fun f fd D => ?_) (fun _ _ _ _ _ _ us hl => match us, hl with | [], _ => rfl)
  refine D.ok sc_named (fun vs H Q E h => ?_) (fun cdv A outer s H vs Q E hr h => ?_)
  · obtain ⟨rfl, _⟩ := h
    rfl
  · obtain ⟨rfl, k⟩ := h
    refine ⟨_, (pss_cons (ps_set (i := 0) sc_named.nd rfl (Or.inl rfl) (pe_lst pa_nil))
      (pss_cons (ps_for PassesOwn.never rfl (pi_range2 (by rfl) T.b_range (pa_cons pe_int (pa_cons pe_int pa_nil))) (pg_name (i := 1) sc_named.nd rfl (Or.inl rfl)) (pss_one (ps_expr (pe_bm PySem.F.plainAttrs_list PySem.F.slot_list_append PySem.F.type_list_append mt_append (pv 0) (pa_cons (pe_tup (pa_cons (pe_cRows T (hr.mono (by decide)) (pe_glob (v := .ref C) (by rfl) T.mgSystem rfl) (pa_cons (pv 1) pa_nil)) (pa_cons (pe_op op_sub (pv 1) pe_int) (pa_cons (pe_callTy call_tuple_of (by rfl) T.b_tuple (by decide +kernel) (pa_cons (pe_lc (own := [("_law_at", 2)]) (g := gName 2) (tt := tYes) rfl sc_named.nd (pi_range1 (by rfl) T.b_range (pa_cons (pe_op op_sub (pv 1) pe_int) pa_nil)) (blkOk_by (own := [("_law_at", 2)]) (N := ["_law_found", "_law_places", "_law_at", "_law_bond_here"]) (sc := defScope s_named) (by decide +kernel)) (fun _ _ _ _ _ => (pg_name (i := 2) sc_named.nd rfl (Or.inl rfl))) (fun _ _ _ _ _ => pts_nil) (fun _ _ _ _ _ => (pe_tup (pa_cons (pv 2) (pa_cons (pe_op op_add (pv 2) pe_int) (pa_cons pe_int pa_nil)))))) pa_nil)) pa_nil)))) pa_nil)))))
      (pss_cons (ps_expr (pe_bm PySem.F.plainAttrs_list PySem.F.slot_list_append PySem.F.type_list_append mt_append (pv 0) (pa_cons (pe_tup (pa_cons (pe_cSigned T (hr.mono (by decide)) (pe_glob (v := .ref C) (by rfl) T.mgSystem rfl) (pa_cons pe_int pa_nil)) (pa_cons pe_int (pa_cons (pe_bs (pas_cons pe_ti3 pas_nil)) pa_nil)))) pa_nil)))
      (pss_cons (ps_expr (pe_bm PySem.F.plainAttrs_list PySem.F.slot_list_append PySem.F.type_list_append mt_append (pv 0) (pa_cons (pe_tup (pa_cons (pe_cSigned T (hr.mono (by decide)) (pe_glob (v := .ref C) (by rfl) T.mgSystem rfl) (pa_cons pe_int pa_nil)) (pa_cons pe_int (pa_cons (pe_bs (pas_cons pe_ti3 (pas_cons pe_ti3 pas_nil))) pa_nil)))) pa_nil)))
      (pss_cons (ps_expr (pe_bm PySem.F.plainAttrs_list PySem.F.slot_list_extend PySem.F.type_list_extend mt_extend (pv 0) (pa_cons (pe_lc (own := [("_law_bond_here", 3)]) (g := gName 3) (tt := tYes) rfl sc_named.nd (pi_tup (pe_tup (pa_cons pe_int (pa_cons pe_int (pa_cons pe_int (pa_cons pe_int (pa_cons pe_int pa_nil))))))) (blkOk_by (own := [("_law_bond_here", 3)]) (N := ["_law_found", "_law_places", "_law_at", "_law_bond_here"]) (sc := defScope s_named) (by decide +kernel)) (fun _ _ _ _ _ => (pg_name (i := 3) sc_named.nd rfl (Or.inl rfl))) (fun _ _ _ _ _ => pts_nil) (fun _ _ _ _ _ => (pe_tup (pa_cons (show PE _ _ (ClX.tCMeth C (spC K C bondP polyD) E0 (tC (.ref C)) (tCons (tVar 3) tNil)) from (pe_cPolygon T (hr.mono (by decide)) (pe_glob (v := .ref C) (by rfl) T.mgSystem rfl) (pa_cons (pv 3) pa_nil))) (pa_cons pe_int (pa_cons (pe_tup (pa_cons (pe_tup (pa_cons pe_int (pa_cons pe_int (pa_cons (pv 3) pa_nil)))) pa_nil)) pa_nil)))))) pa_nil)))
      (pss_cons (ps_expr (pe_bm PySem.F.plainAttrs_list PySem.F.slot_list_append PySem.F.type_list_append mt_append (pv 0) (pa_cons (pe_tup (pa_cons (pe_cPolygon T (hr.mono (by decide)) (pe_glob (v := .ref C) (by rfl) T.mgSystem rfl) (pa_cons pe_int pa_nil)) (pa_cons pe_int (pa_cons (pe_bs pas_nil) pa_nil)))) pa_nil)))
      (pss_cons (ps_expr (pe_bm PySem.F.plainAttrs_list PySem.F.slot_list_append PySem.F.type_list_append mt_append (pv 0) (pa_cons (pe_tup (pa_cons (pe_cTwenty T (hr.mono (by decide)) (pe_glob (v := .ref C) (by rfl) T.mgSystem rfl)) (pa_cons pe_int (pa_cons (pe_bs (pas_cons pe_ti3 (pas_cons pe_ti3 pas_nil))) pa_nil)))) pa_nil)))
      (pss_cons (ps_expr (pe_bm PySem.F.plainAttrs_list PySem.F.slot_list_append PySem.F.type_list_append mt_append (pv 0) (pa_cons (pe_tup (pa_cons (pe_cRing T (hr.mono (by decide)) (pe_glob (v := .ref C) (by rfl) T.mgSystem rfl) (pa_cons pe_int pa_nil)) (pa_cons pe_int (pa_cons (pe_bs (pas_cons pe_ti3 pas_nil)) pa_nil)))) pa_nil)))
      (pss_one (ps_ret (pe_op op_cat (pv 0) (pe_lst (pa_cons (pe_tup (pa_cons (pe_cRing T (hr.mono (by decide)) (pe_glob (v := .ref C) (by rfl) T.mgSystem rfl) (pa_cons pe_int pa_nil)) (pa_cons pe_int (pa_cons (pe_bs (pas_cons pe_ti3 (pas_cons pe_ti3 (pas_cons pe_ti3 pas_nil)))) pa_nil)))) pa_nil))))))))))))), ?_⟩
    refine ⟨Nat.zero_le _, fun l nl => ?_⟩
    refine ⟨_, _, rfl, ⟨by omega, by omega, by omega, by omega⟩, for_range (lo := 2) (n := 4) (fun i σ H' => ∃ xs v1 v2 v3, σ = [some (.ref l), v1, v2, v3] ∧ NL K C H l i xs H') ?_ ?_ ?_⟩
    · exact ⟨[], none, none, none, rfl, upd_same, (fun v m => nomatch m), Nat.le_refl _, same_new nl⟩
    · rintro i σ H1 hi ⟨xs, v1, v2, v3, rfl, N⟩
      refine ⟨_, rfl, .inl ⟨rfl, _, .of N.at_⟩, ?_⟩
      refine ⟨rfl, _, rfl, _, rfl, ⟨by omega, by omega⟩, fun r bw H2 s2 n2 y2 => ?_⟩
      have N2 := N.go s2
      refine ⟨_, rfl, _, _, rfl, rfl, _, rfl, _, _, rfl, rfl, _, rfl, by omega, by omega, fun D nD => lc_range (lo := 0) (n := (2 + (i : Int) - 2).toNat) (fun i H' => ∃ ys, Same H2 H' ∧ H' D = some (.lst ys) ∧ TIs K H' ys ((List.range i).map fun i : Nat => [0 + (i : Int), 0 + (i : Int) + 1, 3])) ⟨[], same_new nD, upd_same, trivial⟩ ?_ ?_⟩
      · rintro j H3 hj ⟨ys, s3, hD, hx⟩
        refine ⟨rfl, ?_⟩
        refine ⟨_, rfl, _, rfl, _, _, rfl, rfl, show 3 ≤ sizeLine by decide, fun q nq => ?_⟩
        have hl := hx.len
        rw [List.length_map, List.length_range] at hl
        have hD3 := same_new (o := .tup [.int (0 + j), .int (0 + j + 1), .int 3]) nq _ _ hD
        refine ⟨_, hD3, small1000 (by omega), _, same_off nD (s3.trans (same_new nq)) off_upd, upd_same, ?_⟩
        rw [List.range_succ, List.map_append]
        exact (off_upd.tis hD3 (hx.same (same_new nq))).snoc (off_upd.ti hD3 ⟨q, rfl, .of upd_same⟩)
      · rintro H3 ⟨ys, s3, hD, hx⟩
        refine ⟨_, ys, rfl, .inl ⟨.of hD, fun q nq => ⟨show 3 ≤ sizeLine by decide, fun u nu => ?_⟩⟩⟩
        have S := (s3.trans (same_new (o := .tup ys) nq)).trans (same_new (o := .tup [.ref r, .int (2 + (i : Int) - 1), .ref q]) nu)
        have N3 := N2.go S
        refine ⟨l, xs, _, rfl, rfl, N3.at_, N3.small (by omega), ?_⟩
        have eN : nb 0 (2 + (i : Int) - 1) = (List.range (2 + (i : Int) - 2).toNat).map fun i : Nat => [0 + (i : Int), 0 + (i : Int) + 1, 3] := by
          unfold nb
          rw [show (2 + (i : Int) - 1) - 1 - 0 = 2 + (i : Int) - 2 by omega]
        have va : Valid (2 + (i : Int) - 1) (nb 0 (2 + (i : Int) - 1)) := by
          refine okB_valid (d := rowsD (2 + (i : Int))) ?_
          have : i = 0 ∨ i = 1 ∨ i = 2 ∨ i = 3 := by omega
          rcases this with rfl | rfl | rfl | rfl <;> decide
        refine ⟨_, _, _, _, rfl, N3.push nl (nm_new upd_same (y2.same S) ⟨q, ys, rfl, .of (same_new nu _ _ upd_same), ?_⟩ va)⟩
        show TIs K _ ys (nb 0 (2 + (i : Int) - 1))
        rw [eN]
        exact (hx.same (same_new nq)).same (same_new nu)
    · rintro σ H1 ⟨xs, v1, v2, v3, rfl, N⟩
      -- signed
      refine ⟨_, rfl, .inl ⟨rfl, _, .of N.at_⟩, rfl, 2, rfl, ⟨by decide, by decide⟩, fun r bw H2 s2 n2 y bv H3 s3 b3 => ⟨show 3 ≤ sizeLine by decide, fun u nu => ?_⟩⟩
      obtain ⟨a1, a2, N⟩ := N.step nl s2 (show SysAt K C H2 r 2 bw [[0, 1, 4]] from y) s3 b3 nu (okB_valid (d := (2, [[0, 1, 4]])) (by decide)) (by decide)
      refine ⟨l, xs, _, rfl, rfl, a1, a2, ?_⟩
      clear a1 a2 nu b3 s3 y n2 s2
      generalize xs ++ [V.ref u] = xs at N
      refine ⟨_, rfl, .inl ⟨rfl, _, .of N.at_⟩, rfl, 3, rfl, ⟨by decide, by decide⟩, fun r bw H2 s2 n2 y bv H3 s3 b3 => ⟨show 3 ≤ sizeLine by decide, fun u nu => ?_⟩⟩
      obtain ⟨a1, a2, N⟩ := N.step nl s2 (show SysAt K C H2 r 3 bw [[0, 1, 4], [1, 2, 3]] from y) s3 b3 nu (okB_valid (d := (3, [[0, 1, 4], [1, 2, 3]])) (by decide)) (by decide)
      refine ⟨l, xs, _, rfl, rfl, a1, a2, ?_⟩
      clear a1 a2 nu b3 s3 y n2 s2
      generalize xs ++ [V.ref u] = xs at N
      -- polygons
      refine ⟨_, rfl, .inl ⟨rfl, _, .of N.at_⟩, show 5 ≤ sizeLine by decide, fun t nt => ⟨t, rfl, ⟨_, .of upd_same⟩, fun D nD => lc_tup (K := K) (a := t) (xs := [.int 0, .int 3, .int 4, .int 5, .int 6]) (fun i H' => ∃ ys, NL K C _ D i ys H') ⟨[], upd_same, (fun v m => nomatch m), Nat.le_refl _, same_new nD⟩ (fun i H' _ h => h.elim fun ys M => sqT_same M.same (.of upd_same)) ?_ ?_⟩⟩
      · rintro i x H5 hm ⟨ys, M⟩
        have ilt := (List.getElem?_eq_some_iff.mp hm).1
        obtain ⟨b, rfl, hb⟩ : ∃ b : Int, x = .int b ∧ (b = 0 ∨ b = 3 ∨ b = 4 ∨ b = 5 ∨ b = 6) := by
          have := List.mem_of_getElem? hm
          simp only [List.mem_cons, List.not_mem_nil, or_false] at this
          rcases this with rfl | rfl | rfl | rfl | rfl
          all_goals exact ⟨_, rfl, by decide⟩
        have b2 : b ≠ 2 := by omega
        refine ⟨rfl, rfl, _, rfl, b, rfl, (by unfold bondP; omega), fun r bw H6 s6 n6 y => ?_⟩
        have y : SysAt K C H6 r 2 bw [[0, 1, b]] := by
          unfold polyD at y
          rw [if_neg b2] at y
          exact y
        refine ⟨_, rfl, show 3 ≤ sizeLine by decide, fun q1 m1 => ⟨show 1 ≤ sizeLine by decide, fun q2 m2 => ⟨show 3 ≤ sizeLine by decide, fun u nu => ?_⟩⟩⟩
        obtain ⟨a1, a2, M2⟩ := M.step nD s6 y ((same_new (o := .tup [.int 0, .int 1, .int b]) m1).trans (same_new (o := .tup [.ref q1]) m2)) ⟨q2, [.ref q1], rfl, .of upd_same, ⟨q1, rfl, .of (same_new m2 _ _ upd_same)⟩, trivial⟩ nu (okB_valid (d := (2, [[0, 1, b]])) (by rcases hb with rfl | rfl | rfl | rfl | rfl <;> decide)) (by simp at ilt; omega)
        exact ⟨_, a1, a2, _, M2⟩
      · rintro H5 ⟨ys, M⟩
        have N5 := (N.go (same_new (o := .tup [.int 0, .int 3, .int 4, .int 5, .int 6]) nt)).go M.same
        have l1 := N5.len
        have l2 := M.len
        have l3 : ys.length ≤ 5 := l2
        refine ⟨l, D, xs, ys, rfl, rfl, N5.at_, M.at_, szl (by omega), ?_⟩
        have N := N5.pushes nl M.all l3
        clear N5 l1 l2 l3 M nD nt
        generalize xs ++ ys = xs at N
        refine ⟨_, rfl, .inl ⟨rfl, _, .of N.at_⟩, rfl, 2, rfl, (by unfold bondP; decide), fun r bw H2 s2 n2 y bv H3 s3 b3 => ⟨show 3 ≤ sizeLine by decide, fun u nu => ?_⟩⟩
        obtain ⟨a1, a2, N⟩ := N.step nl s2 (show SysAt K C H2 r 2 bw [] from y) s3 b3 nu (okB_valid (d := (2, [])) (by decide)) (by decide)
        refine ⟨l, xs, _, rfl, rfl, a1, a2, ?_⟩
        clear a1 a2 nu b3 s3 y n2 s2
        generalize xs ++ [V.ref u] = xs at N
        refine ⟨_, rfl, .inl ⟨rfl, _, .of N.at_⟩, rfl, rfl, fun r bw H2 s2 n2 y bv H3 s3 b3 => ⟨show 3 ≤ sizeLine by decide, fun u nu => ?_⟩⟩
        obtain ⟨a1, a2, N⟩ := N.step nl s2 (show SysAt K C H2 r 3 bw [[0, 1, 5], [1, 2, 3]] from y) s3 b3 nu (okB_valid (d := (3, [[0, 1, 5], [1, 2, 3]])) (by decide)) (by decide)
        refine ⟨l, xs, _, rfl, rfl, a1, a2, ?_⟩
        clear a1 a2 nu b3 s3 y n2 s2
        generalize xs ++ [V.ref u] = xs at N
        refine ⟨_, rfl, .inl ⟨rfl, _, .of N.at_⟩, rfl, 2, rfl, ⟨by decide, by decide⟩, fun r bw H2 s2 n2 y bv H3 s3 b3 => ⟨show 3 ≤ sizeLine by decide, fun u nu => ?_⟩⟩
        obtain ⟨a1, a2, N⟩ := N.step nl s2 (show SysAt K C H2 r 2 bw [[0, 1, 0]] from y) s3 b3 nu (okB_valid (d := (2, [[0, 1, 0]])) (by decide)) (by decide)
        refine ⟨l, xs, _, rfl, rfl, a1, a2, ?_⟩
        clear a1 a2 nu b3 s3 y n2 s2
        generalize xs ++ [V.ref u] = xs at N
        refine ⟨_, rfl, rfl, 3, rfl, ⟨by decide, by decide⟩, fun r bw H2 s2 n2 y bv H3 s3 b3 => ⟨show 3 ≤ sizeLine by decide, fun u nu => ⟨show 1 ≤ sizeLine by decide, fun L nL => ?_⟩⟩⟩
        have S := (s2.trans s3).trans (same_new (o := .tup [.ref r, .int 3, bv]) nu)
        have nm : Nm K C _ (.ref u) := nm_new (upd_same (H := H3) (a := u)) ((show SysAt K C H2 r 3 bw [[0, 1, 3], [0, 2, 3], [1, 2, 3]] from y).same (s3.trans (same_new nu))) (b3.same (same_new nu)) (okB_valid (d := (3, [[0, 1, 3], [0, 2, 3], [1, 2, 3]])) (by decide))
        have N9 := (N.go S).go (same_new (o := .lst [.ref u]) nL)
        have ln := N9.len
        refine ⟨l, L, xs, [.ref u], rfl, rfl, N9.at_, upd_same, szl (by show xs.length + 1 ≤ 1000; omega), fun p np => ?_⟩
        refine k p _ _ (N9.same.trans (same_new np)) (N9.same.free np) upd_same fun v m => ?_
        rcases List.mem_append.mp m with m | m
        · exact (N9.all v m).same (same_new np)
        · obtain rfl := List.mem_singleton.mp m
          exact (nm.same (same_new nL)).same (same_new np)
end
end Sk

namespace Sk
open PySem L2 Ow
def spLaw (K : PySem.W.Frag) : Sp := fun vs H Q _ => ∃ (a : Addr) (ns : List Int), vs = [.ref a] ∧ SqL K H a (ns.map V.int) ∧ ns.length ≤ 63 ∧ ∀ H', Q (.bl true) H'
section
variable {P : Program} {w : World} {K : PySem.W.Frag} {mg : Str → Option Value} {base : Heap} {C : Addr}
theorem ok_law (T : Txt K mg C) {f : Addr} {fd : FuncData} (D : Fun K "law" "law" s_law f fd) : FnOk P w K mg base CX0 8 f fd ["_law_script"] (spLaw K) := by
  refine D.ok sc_law (fun vs H Q E h => ?_) (fun cdv A outer s H vs Q E hr h => ?_)
  · obtain ⟨a, ns, rfl, _⟩ := h
    rfl
  · obtain ⟨sa, ns, rfl, hs, hlen, k⟩ := h
    refine ⟨_, (pss_cons (ps_for PassesOwn.never rfl (pi_range1 (by rfl) T.b_range (pa_cons (pe_callB (call_max2 rfl) (by rfl) T.b_max (by decide +kernel) (pa_cons pe_int (pa_cons (pe_callB (call_min2 rfl) (by rfl) T.b_min (by decide +kernel) (pa_cons pe_int (pa_cons (pe_callB call_len_seq (by rfl) T.b_len (by decide +kernel) (pa_cons (pv 0) pa_nil)) pa_nil))) pa_nil))) pa_nil)) (pg_name (i := 1) sc_law.nd rfl (Or.inl rfl)) (pss_cons (ps_set (i := 2) sc_law.nd rfl (Or.inl rfl) (pe_cal (cal_vat T) (hr.mono (by decide)) (by rfl) (pa_cons (pv 0) (pa_cons (pv 1) pa_nil))))
      (pss_one (ps_for PassesOwn.never rfl (pi_range1 (by rfl) T.b_range (pa_cons pe_int pa_nil)) (pg_name (i := 3) sc_law.nd rfl (Or.inl rfl)) (pss_one (ps_if (pt_not (pt_val (pe_cal (cal_right T) (hr.mono (by decide)) (by rfl) (pa_cons (pv 2) pa_nil)))) (pss_one (ps_ret pe_bl)) pss_nil))))))
      (pss_cons (ps_for PassesOwn.never rfl (pi_list (pe_cal0 (cal_named T) (hr.mono (by decide)) (by rfl))) (pg_tup (by rfl) (pgs_cons (pg_name (i := 4) sc_law.nd rfl (Or.inl rfl)) (pgs_cons (pg_name (i := 5) sc_law.nd rfl (Or.inl rfl)) (pgs_cons (pg_name (i := 6) sc_law.nd rfl (Or.inl rfl)) pgs_nil)))) (pss_one (ps_if (PW.pt (pw_or (pt_cmpR (op_gNotEq T (hr.mono (by decide))) (pv 4) (pe_sys T (hr.mono (by decide)) (by rfl) (pa_cons (pv 5) (pa_cons (pv 6) pa_nil))) (nomark _)) (pw_or1 (pt_cmpR op_ne (pe_callTy (call_gStr T (hr.mono (by decide))) (by rfl) T.b_str (by decide +kernel) (pa_cons (pv 4) pa_nil)) (pe_cal (cal_text T) (hr.mono (by decide)) (by rfl) (pa_cons (pv 5) (pa_cons (pv 6) pa_nil))) (nomark _))))) (pss_one (ps_ret pe_bl)) pss_nil)))
      (pss_cons (ps_set (i := 7) sc_law.nd rfl (Or.inl rfl) (pe_lst (pa_cons (pe_callTy (call_gStr T (hr.mono (by decide))) (by rfl) T.b_str (by decide +kernel) (pa_cons (pe_cTwenty T (hr.mono (by decide)) (pe_glob (v := .ref C) (by rfl) T.mgSystem rfl)) pa_nil)) (pa_cons (pe_callTy (call_gStr T (hr.mono (by decide))) (by rfl) T.b_str (by decide +kernel) (pa_cons (pe_sys T (hr.mono (by decide)) (by rfl) (pa_cons pe_int pa_nil)) pa_nil)) (pa_cons (pe_bond_of T (hr.mono (by decide)) (pe_cRows T (hr.mono (by decide)) (pe_glob (v := .ref C) (by rfl) T.mgSystem rfl) (pa_cons pe_int pa_nil)) (pa_cons pe_int (pa_cons pe_int pa_nil))) (pa_cons (pe_cmpR (op_gEq T (hr.mono (by decide))) (pe_cSigned T (hr.mono (by decide)) (pe_glob (v := .ref C) (by rfl) T.mgSystem rfl) (pa_cons pe_int pa_nil)) (pe_cPolygon T (hr.mono (by decide)) (pe_glob (v := .ref C) (by rfl) T.mgSystem rfl) (pa_cons pe_int pa_nil)) (nomark _)) pa_nil))))))
      (pss_one (ps_ret (pe_cmpR (op_eqD hr.units) (pv 7) (pe_lst (pa_cons pe_str (pa_cons pe_str (pa_cons pe_int (pa_cons pe_bl pa_nil))))) (nomark _))))))), ?_⟩
    have hj : ∀ j : Int, -(2 ^ 62) ≤ (if (if (j : Int) < 4 then (j : Int) else 4) > 1 then (if (j : Int) < 4 then (j : Int) else 4) else 1) ∧ (if (if (j : Int) < 4 then (j : Int) else 4) > 1 then (if (j : Int) < 4 then (j : Int) else 4) else 1) < 2 ^ 62 := fun j => by
      split <;> split <;> omega
    refine ⟨_, rfl, _, _, rfl, .inl hs, _, _, rfl, _, _, rfl, _, rfl, (hj _).1, (hj _).2, for_range (lo := 0) (fun _ σ H' => SqL K H' sa (ns.map V.int) ∧ ∃ v1 v2 v3 : Option V, σ = [some (.ref sa), v1, v2, v3, none, none, none, none]) ⟨hs, none, none, none, rfl⟩ ?_ ?_⟩
    · rintro i σ H0 hi ⟨hs, v1, v2, v3, rfl⟩
      refine ⟨_, rfl, _, rfl, sa, _, ns, rfl, hs, by omega, fun p H1 s1 np bb => ?_⟩
      refine ⟨_, rfl, by decide, by decide, for_range (lo := 0) (n := 3) (fun _ σ H2 => Off p H1 H2 ∧ BasAt H2 p ∧ ∃ v3 : Option V, σ = [some (.ref sa), some (.int (0 + (i : Int))), some (.ref p), v3, none, none, none, none]) ⟨.refl, bb, _, rfl⟩ ?_ ?_⟩
      · rintro j σ H2 hj2 ⟨k0, c0, v3, rfl⟩
        exact ⟨_, rfl, p, rfl, c0, fun H3 o3 b3 => ⟨_, rfl, iteF ⟨k0.trans o3, b3, _, rfl⟩⟩⟩
      · rintro σ H2 ⟨k0, c0, v3, rfl⟩
        exact ⟨SqL.ext hs (same_off np s1 k0), _, _, _, rfl⟩
    · rintro σ H0 ⟨hs, v1, v2, v3, rfl⟩
      refine ⟨rfl, fun l xs H1 s1 n1 hl all => ⟨l, rfl, ⟨xs, .of hl⟩, for_list (K := K) (a := l) (xs := xs) (fun i σ H' => Same H1 H' ∧ ∃ v4 v5 v6 : Option V, σ = [some (.ref sa), v1, v2, v3, v4, v5, v6, none]) ⟨.refl _, _, _, _, rfl⟩ (fun i σ H' _ h => .of (h.1 _ _ hl)) ?_ ?_⟩⟩
      · rintro i x σ H2 hx ⟨s2, v4, v5, v6, rfl⟩
        obtain ⟨a, r, bw, bv, n, bs, rfl, q, y, b, va⟩ := (all x (List.mem_of_getElem? hx)).same s2
        refine ⟨_, _, rfl, q, rfl, _, _, rfl, _, _, rfl, _, _, rfl, rfl, ?_⟩
        refine ⟨_, rfl, _, rfl, _, rfl, n, bv, bs, .inl rfl, fun _ => b, va, fun bw3 r3 H3 s3 n3 y3 => ?_⟩
        have yes : (decide (n = n) && PyData.eqv (dB bs) (dB bs)) = true := by rw [eqv_dBr, decide_eq_true rfl]; rfl
        have y := y.same s3
        have b := b.same s3
        have g := y.1
        obtain ⟨dx, g⟩ := g
        have g3 := y3.1
        obtain ⟨dy, g3⟩ := g3
        refine ⟨r, r3, dx, _, dy, _, rfl, rfl, g, g3, r, .ref r3, n, bw, bs, rfl, y, .inl ⟨r3, n, bw3, bs, rfl, y3, _, rfl, _, rfl, iteNT' yes ?_⟩⟩
        refine ⟨_, rfl, r, dx, _, rfl, g, r, n, bw, bs, rfl, y, va, fun H4 s4 => ⟨_, rfl, ?_⟩⟩
        refine ⟨_, rfl, _, rfl, n, bv, bs, rfl, b.same s4, va, rfl, _, rfl, iteNS rfl ?_⟩
        exact ⟨s2.trans (s3.trans s4), _, _, _, rfl⟩
      · rintro σ H2 ⟨s2, v4, v5, v6, rfl⟩
        refine ⟨rfl, rfl, fun r bw H3 s3 n3 y3 => ?_⟩
        have y3 : SysAt K C H3 r 3 bw [[0, 1, 5], [1, 2, 3]] := y3
        have g3 := y3.1
        obtain ⟨dx, g3⟩ := g3
        refine ⟨r, dx, _, rfl, g3, r, 3, bw, _, rfl, y3, okB_valid (d := twentyD) (by decide), fun H4 s4 => ⟨_, rfl, ?_⟩⟩
        refine ⟨2, .ref r, [], .inr ⟨rfl, rfl, _, rfl⟩, (fun e => nomatch e), okB_valid (d := (2, [])) (by decide), fun bw5 r5 H5 s5 n5 y5 => ?_⟩
        have g5 := y5.1
        obtain ⟨d5, g5⟩ := g5
        refine ⟨r5, d5, _, rfl, g5, r5, 2, bw5, _, rfl, y5, okB_valid (d := (2, [])) (by decide), fun H6 s6 => ⟨_, rfl, ?_⟩⟩
        refine ⟨rfl, 4, rfl, ⟨by decide, by decide⟩, fun r7 bw7 H7 s7 n7 y7 => ?_⟩
        have y7 : SysAt K C H7 r7 3 bw7 (nb 0 3) := y7
        have g7 := y7.1
        obtain ⟨d7, g7⟩ := g7
        refine ⟨r7, d7, _, rfl, g7, sf_no _ _ (by decide +kernel) (by decide +kernel), r7, 3, bw7, nb 0 3, 2, 1, rfl, y7, okB_valid (d := (3, nb 0 3)) (by decide), by decide, by decide, by decide, by decide, by decide, fun H8 s8 => ?_⟩
        refine ⟨rfl, 2, rfl, ⟨by decide, by decide⟩, fun r9 bw9 H9 s9 n9 y9 => ?_⟩
        refine ⟨rfl, 4, rfl, (by unfold bondP; decide), fun ra bwa Ha sa' na ya => ?_⟩
        have y9 : SysAt K C Ha r9 2 bw9 [[0, 1, 4]] := SysAt.same (show SysAt K C H9 r9 2 bw9 [[0, 1, 4]] from y9) sa'
        have ya : SysAt K C Ha ra 2 bwa [[0, 1, 4]] := ya
        have g9 := y9.1
        obtain ⟨d9, g9⟩ := g9
        have ga := ya.1
        obtain ⟨da, ga⟩ := ga
        refine ⟨r9, ra, d9, _, da, _, rfl, rfl, g9, ga, r9, .ref ra, 2, bw9, _, rfl, y9, .inl ⟨ra, 2, bwa, _, rfl, ya, ?_⟩⟩
        refine ⟨show 4 ≤ sizeLine by decide, fun L nL => ?_⟩
        refine ⟨_, rfl, show 4 ≤ sizeLine by decide, fun M nM => ?_⟩
        refine ⟨.list [.str (sT 3 [[0, 1, 5], [1, 2, 3]]), .str (sT 2 []), .int (bondOf (nb 0 3) 2 1), .bool (decide ((2 : Int) = 2) && PyData.eqv (dB [[0, 1, 4]]) (dB [[0, 1, 4]]))], .list [.str "3 letters, 5 of 0 1, 3 of 1 2", .str "2 letters", .int 3, .bool true], ?_, ?_, ?_, ?_, ?_⟩
        · exact .lst (.of (same_new nM _ _ upd_same)) (.cons (.str _) (.cons (.str _) (.cons (.int _) (.cons (.bl _) .nil))))
        · exact .lst (.of upd_same) (.cons (.str _) (.cons (.str _) (.cons (.int _) (.cons (.bl _) .nil))))
        · decide +kernel
        · decide +kernel
        · rw [show PyData.eqv (.list [.str (sT 3 [[0, 1, 5], [1, 2, 3]]), .str (sT 2 []), .int (bondOf (nb 0 3) 2 1), .bool (decide ((2 : Int) = 2) && PyData.eqv (dB [[0, 1, 4]]) (dB [[0, 1, 4]]))]) (.list [.str "3 letters, 5 of 0 1, 3 of 1 2", .str "2 letters", .int 3, .bool true]) = true from by decide +kernel]
          exact k _
end
end Sk

namespace Sk
open PySem L2 Ow
section
variable {K : PySem.W.Frag} {h : Heap} {mg : Str → Option Value} {x qual : Str} {st : Stmt} {f p C T0 : Addr} {oc kV doc pm cdv ct oc2 : Value} {od an od2 : Option Addr} {sl sl2 : Array (Option Value)} {tk n : Nat} {rest : List Value}
theorem mdef_mk (X : K.In h) (G : h.Ns mainGlobals mg) (a : PySem.W.nsIn K mainGlobals x = some (some (.ref f)))
    (l : K.lookup f = some ⟨oc, od, .func (PySem.W.fnOf x x (defArgs st) (defBody st) (defScope st) .none kV doc pm an cdv ct), sl⟩) (c : PySem.W.codeIn K cdv x = true) (k : PySem.W.keepIn K (.ref f) = true) : MDef K mg x st :=
  ⟨f, _, fun_mk l c k, PySem.W.mg_of X G a⟩
theorem gm_mk (a : PySem.W.findIn K (.ref C) x = some (some (.ref f))) (i : PySem.W.isFn K (.ref f) = true)
    (l : K.lookup f = some ⟨oc, od, .func (PySem.W.fnOf x qual (defArgs st) (defBody st) (defScope st) .none kV doc pm an cdv ct), sl⟩) (c : PySem.W.codeIn K cdv qual = true) (k : PySem.W.keepIn K (.ref f) = true) : GM K C x qual st :=
  ⟨f, _, fun_mk l c k, ⟨a, i⟩⟩
theorem gp_mk (a : PySem.W.findIn K (.ref C) x = some (some (.ref p))) (g : PySem.W.specialIn K (.ref p) "__get__" = some (some (.builtin "property.__get__"))) (t : PySem.W.takesIn K (.ref p) = some true) (r : PySem.W.recIn K p "property" = some (.ref f :: rest))
    (l : K.lookup f = some ⟨oc, od, .func (PySem.W.fnOf x qual (defArgs st) (defBody st) (defScope st) .none kV doc pm an cdv ct), sl⟩) (c : PySem.W.codeIn K cdv qual = true) (k : PySem.W.keepIn K (.ref f) = true) : GP K C x qual st :=
  ⟨p, f, _, ⟨a, g, t, rest, r⟩, fun_mk l c k⟩
theorem init_mk {e0 : Addr} {od3 : Option Addr} {sl3 : Array (Option Value)} {n3 : Nat} (mk : PySem.W.makesIn K C = true) (kc : PySem.W.keepIn K (.ref C) = true) (a : PySem.W.findIn K (.ref C) "__init__" = some (some (.ref f))) (i : PySem.W.isFn K (.ref f) = true)
    (l : K.lookup f = some ⟨oc, od, .func (PySem.W.fnOf "__init__" "System.__init__" (defArgs s_init) (defBody s_init) (defScope s_init) (.ref T0) kV doc pm an cdv ct), sl⟩) (c : PySem.W.codeIn K cdv "System.__init__" = true) (k : PySem.W.keepIn K (.ref f) = true)
    (lT : K.lookup T0 = some ⟨oc2, od2, .seq #[.ref e0] n, sl2⟩) (lE : K.lookup e0 = some ⟨.type "tuple", od3, .seq #[] n3, sl3⟩) : ∃ f fd e, Mk K C f ∧ FunD K "__init__" "System.__init__" (defArgs s_init) (defBody s_init) (defScope s_init) [.ref e] [] f fd ∧ ∀ H, SqT K H e [] :=
  ⟨f, _, e0, ⟨mk, a, i, kc⟩, ⟨⟨oc, od, .ref T0, kV, doc, pm, an, cdv, ct, sl, rfl, l, c, .inr ⟨by simp, T0, _, [.ref e0], n, rfl, lT, rfl, .cons rfl .nil⟩, .inl rfl⟩, k⟩, fun H => .inr ⟨_, #[], n3, lE, rfl, rfl, Nat.zero_le _, .nil⟩⟩
theorem cg_mk {g : Addr} (a : PySem.W.findCls K (.ref C) (.type "type") x = some (.get (.builtin "classmethod.__get__") (.ref p) .none (.ref C))) (r : PySem.W.recIn K p "classmethod" = some (.ref g :: rest)) (fi : PySem.W.fnIn K g = true)
    (l : K.lookup g = some ⟨oc, od, .func (PySem.W.fnOf x qual (defArgs st) (defBody st) (defScope st) .none kV doc pm an cdv ct), sl⟩) (c : PySem.W.codeIn K cdv qual = true) (k : PySem.W.keepIn K (.ref g) = true) : CG K C x qual st :=
  ⟨p, g, _, ⟨a, ⟨rest, r⟩, fi⟩, fun_mk l c k⟩
theorem ml_mk {t : Nat} (X : K.In h) (G : h.Ns mainGlobals mg) (a : PySem.W.nsIn K mainGlobals "MAX_LETTERS" = some (some (.int 4 t))) : ∃ u, mg "MAX_LETTERS" = some u ∧ RelV (.int 4) u := ⟨_, PySem.W.mg_of X G a, ⟨t, rfl⟩⟩
theorem bo_mk {q : Addr} {t0 t1 t2 t3 t4 t5 : Nat} (X : K.In h) (G : h.Ns mainGlobals mg) (a : PySem.W.nsIn K mainGlobals "BONDS" = some (some (.ref q))) (l : K.lookup q = some ⟨.type "tuple", od, .seq #[.int 0 t0, .int 2 t1, .int 3 t2, .int 4 t3, .int 5 t4, .int 6 t5] n, sl⟩) :
    ∃ a, mg "BONDS" = some (.ref a) ∧ ∀ H, SqT K H a [.int 0, .int 2, .int 3, .int 4, .int 5, .int 6] :=
  ⟨q, PySem.W.mg_of X G a, fun H => .inr ⟨_, _, n, l, rfl, rfl, (show 6 ≤ sizeLine by decide), .cons ⟨_, rfl⟩ (.cons ⟨_, rfl⟩ (.cons ⟨_, rfl⟩ (.cons ⟨_, rfl⟩ (.cons ⟨_, rfl⟩ (.cons ⟨_, rfl⟩ .nil)))))⟩⟩
theorem end_mk {l : PySem.W.OpenLaw} {w : World} {fa : Addr} (X : K.In h) (G : h.Ns mainGlobals mg) (hfa : mg "law" = some (.ref fa)) (T : Txt K mg C) (a : PySem.W.nsIn K mainGlobals "law" = some (some (.ref f)))
    (l1 : K.lookup f = some ⟨oc, od, .func (PySem.W.fnOf "law" "law" (defArgs s_law) (defBody s_law) (defScope s_law) .none kV doc pm an cdv ct), sl⟩) (c : PySem.W.codeIn K cdv "law" = true) (k : PySem.W.keepIn K (.ref f) = true) :
    ∃ fd : FuncData, (∀ (s : Shared) (v : Value), BindsTo s fd ⟨[v], []⟩ [("_law_script", v)]) ∧ ∀ base : Heap, K.In base → base.Ns mainGlobals mg → FnOk l.prog w K mg base CX0 8 fa fd ["_law_script"] (spLaw K) := by
  have e := hfa.symm.trans (PySem.W.mg_of X G a)
  cases e
  exact ⟨PySem.W.fnOf "law" "law" (defArgs s_law) (defBody s_law) (defScope s_law) .none kV doc pm an cdv ct, fun s v => .of_eq rfl, fun base _ _ => ok_law T (fun_mk (st := s_law) l1 c k)⟩
end
theorem walk {l : PySem.W.OpenLaw} {q : Program} {loose : List Str} {XP : (Str → Option Value) → Heap → Prop} {YP : World → Heap → Prop} {d : DefRec} {K : Params → PySem.W.Frag} (hn : l.most = some 63) (hdf : d.params.defaults = [])
    (hY : ∀ (w : World) (h : Heap), YP w h → (K w.params).In h)
    (F : ∀ (w : World) (mg : Str → Option Value) (fa : Addr) (h : Heap), (K w.params).In h → h.Ns mainGlobals mg → mg d.name = some (.ref fa) →
      ∃ fd : FuncData, (∀ (s : Shared) (u : Value), BindsTo s fd ⟨[u], []⟩ [("_law_script", u)]) ∧ ∀ base : Heap, (K w.params).In base → base.Ns mainGlobals mg → FnOk l.prog w (K w.params) mg base CX0 8 fa fd ["_law_script"] (spLaw (K w.params))) :
    PySem.W.WalkO q loose XP YP l.row.toRowW d [] (fun f vs => PySem.call f vs) :=
  L2.walk_of (n := 63) (k := 8) (x := "_law_script") (CX := fun _ => CX0) (sp := fun w => spLaw (K w.params)) hn (by decide) hdf ⟨rfl, by decide, by decide⟩ hY F (fun _ _ a ns hl _ hS => ⟨a, ns, rfl, hS, hl, fun _ => rfl⟩) fun _ _ _ _ _ z => z
end Sk

open PySem PySem.W PyProof.Rows in
set_option maxRecDepth 100000 in
set_option maxHeartbeats 0 in
theorem PySem.Challenge.cw_underwords_k05_whole_systems_told_holds : PySem.Challenge.rw_underwords_k05_whole_systems_told.Holds := by
  w_on; o_law; k_head; (case hw => w_witness2)
  k_fill
  refine Sk.walk (l := PySem.Challenge.rw_underwords_k05_whole_systems_told) rfl rfl (fun w h Y => PySem.W.kIn_of Y) ?F
  case F =>
    intro w mg fa h KX G hmg
    refine' Sk.end_mk KX G hmg (C := _) ?T ?a ?l ?c ?k
    (case a => k_is)
    (case l => k_is)
    (case c => k_is)
    (case k => k_is)
    case T =>
      refine' { cl := ⟨?pg, ?hd, ?po, ?sa⟩, oc := ⟨?fi, ?ob, ?ne, ?nf⟩, ic := ⟨⟨?pg2, ?hd2, ?po2, ?sa2⟩, ?ha, ?hn, ?htk, ?hm, if_pos (beq_self_eq_true _)⟩, mgSystem := PySem.W.mg_of KX G ?gG, nL := ?nL, nB := ?nB, mkS := ?mkS, gML := ?gML, gB := ?gB, crd := ⟨?rd, ?ga⟩, yNone := ⟨?yNoneS, ?yNoneK⟩, yInt := ⟨?yIntS, ?yIntK⟩, yTup := ⟨?yTupS, ?yTupK⟩, yStr := ⟨?yStrS, ?yStrK⟩, yDict := ⟨?yDictS, ?yDictK⟩, yBool := ⟨?yBoolS, ?yBoolK⟩, cRows := ?cRows, cSigned := ?cSigned, cPolygon := ?cPolygon, cTwenty := ?cTwenty, cRing := ?cRing, pL := ?pL, pB := ?pB, mBond := ?mBond, mEq := ?mEq, mStr := ?mStr, d_is_within := ?d_is_within, d_neighbours := ?d_neighbours, d_are_bonds := ?d_are_bonds, d_is_triple := ?d_is_triple, d_vat := ?d_vat, d_tap := ?d_tap, d_taste := ?d_taste, d_told_systems := ?d_told_systems, d_system := ?d_system, d_bond := ?d_bond, d_text := ?d_text, d_named := ?d_named, d_right := ?d_right, b_isinstance := ?b_isinstance, b_int := ?b_int, b_bool := ?b_bool, b_str := ?b_str, b_tuple := ?b_tuple, b_len := ?b_len, b_abs := ?b_abs, b_max := ?b_max, b_min := ?b_min, b_sum := ?b_sum, b_all := ?b_all, b_zip := ?b_zip, b_range := ?b_range }
      (case gG => k_is)
      (case pg => k_is)
      (case hd => k_is)
      (case po => k_is)
      (case sa => k_is)
      (case fi => k_is)
      (case ob => k_is)
      (case ne => k_is)
      (case nf => k_is)
      (case pg2 => k_is)
      (case hd2 => k_is)
      (case po2 => k_is)
      (case sa2 => k_is)
      (case ha => k_is)
      (case hn => k_is)
      (case htk => k_is)
      (case hm => k_is)
      (case rd => k_is)
      (case ga => k_is)
      (case nL => ((show PySem.W.findIn _ _ "_letters" = some none); k_is))
      (case nB => ((show PySem.W.findIn _ _ "_bonds" = some none); k_is))
      (case mkS => (refine' Sk.init_mk ?q1 ?q2 ?q3 ?q4 ?q5 ?q6 ?q7 ?q8 ?q9; (case q1 => k_is); (case q2 => k_is); (case q3 => k_is); (case q4 => k_is); (case q5 => k_is); (case q6 => k_is); (case q7 => k_is); (case q8 => k_is); (case q9 => k_is)))
      (case gML => (refine' Sk.ml_mk KX G ?q1; (case q1 => k_is)))
      (case gB => (refine' Sk.bo_mk KX G ?q1 ?q2; (case q1 => k_is); (case q2 => k_is)))
      (case yNoneS => k_is)
      (case yNoneK => first | kit_is | k_is)
      (case yIntS => k_is)
      (case yIntK => first | kit_is | k_is)
      (case yTupS => k_is)
      (case yTupK => first | kit_is | k_is)
      (case yStrS => k_is)
      (case yStrK => first | kit_is | k_is)
      (case yDictS => k_is)
      (case yDictK => first | kit_is | k_is)
      (case yBoolS => k_is)
      (case yBoolK => first | kit_is | k_is)
      (case cRows => (refine' Sk.cg_mk ?q1 ?q2 ?q3 ?q4 ?q5 ?q6; (case q1 => k_is); (case q2 => k_is); (case q3 => k_is); (case q4 => k_is); (case q5 => k_is); (case q6 => k_is)))
      (case cSigned => (refine' Sk.cg_mk ?q1 ?q2 ?q3 ?q4 ?q5 ?q6; (case q1 => k_is); (case q2 => k_is); (case q3 => k_is); (case q4 => k_is); (case q5 => k_is); (case q6 => k_is)))
      (case cPolygon => (refine' Sk.cg_mk ?q1 ?q2 ?q3 ?q4 ?q5 ?q6; (case q1 => k_is); (case q2 => k_is); (case q3 => k_is); (case q4 => k_is); (case q5 => k_is); (case q6 => k_is)))
      (case cTwenty => (refine' Sk.cg_mk ?q1 ?q2 ?q3 ?q4 ?q5 ?q6; (case q1 => k_is); (case q2 => k_is); (case q3 => k_is); (case q4 => k_is); (case q5 => k_is); (case q6 => k_is)))
      (case cRing => (refine' Sk.cg_mk ?q1 ?q2 ?q3 ?q4 ?q5 ?q6; (case q1 => k_is); (case q2 => k_is); (case q3 => k_is); (case q4 => k_is); (case q5 => k_is); (case q6 => k_is)))
      (case pL => (refine' Sk.gp_mk ?q1 ?q2 ?q3 ?q4 ?q5 ?q6 ?q7; (case q1 => k_is); (case q2 => k_is); (case q3 => k_is); (case q4 => k_is); (case q5 => k_is); (case q6 => k_is); (case q7 => k_is)))
      (case pB => (refine' Sk.gp_mk ?q1 ?q2 ?q3 ?q4 ?q5 ?q6 ?q7; (case q1 => k_is); (case q2 => k_is); (case q3 => k_is); (case q4 => k_is); (case q5 => k_is); (case q6 => k_is); (case q7 => k_is)))
      (case mBond => (refine' Sk.gm_mk ?q1 ?q2 ?q3 ?q4 ?q5; (case q1 => k_is); (case q2 => k_is); (case q3 => k_is); (case q4 => k_is); (case q5 => k_is)))
      (case mEq => (refine' Sk.gm_mk ?q1 ?q2 ?q3 ?q4 ?q5; (case q1 => k_is); (case q2 => k_is); (case q3 => k_is); (case q4 => k_is); (case q5 => k_is)))
      (case mStr => (refine' Sk.gm_mk ?q1 ?q2 ?q3 ?q4 ?q5; (case q1 => k_is); (case q2 => k_is); (case q3 => k_is); (case q4 => k_is); (case q5 => k_is)))
      (case d_is_within => (refine' Sk.mdef_mk KX G ?q1 ?q2 ?q3 ?q4; (case q1 => k_is); (case q2 => k_is); (case q3 => k_is); (case q4 => k_is)))
      (case d_neighbours => (refine' Sk.mdef_mk KX G ?q1 ?q2 ?q3 ?q4; (case q1 => k_is); (case q2 => k_is); (case q3 => k_is); (case q4 => k_is)))
      (case d_are_bonds => (refine' Sk.mdef_mk KX G ?q1 ?q2 ?q3 ?q4; (case q1 => k_is); (case q2 => k_is); (case q3 => k_is); (case q4 => k_is)))
      (case d_is_triple => (refine' Sk.mdef_mk KX G ?q1 ?q2 ?q3 ?q4; (case q1 => k_is); (case q2 => k_is); (case q3 => k_is); (case q4 => k_is)))
      (case d_vat => (refine' Sk.mdef_mk KX G ?q1 ?q2 ?q3 ?q4; (case q1 => k_is); (case q2 => k_is); (case q3 => k_is); (case q4 => k_is)))
      (case d_tap => (refine' Sk.mdef_mk KX G ?q1 ?q2 ?q3 ?q4; (case q1 => k_is); (case q2 => k_is); (case q3 => k_is); (case q4 => k_is)))
      (case d_taste => (refine' Sk.mdef_mk KX G ?q1 ?q2 ?q3 ?q4; (case q1 => k_is); (case q2 => k_is); (case q3 => k_is); (case q4 => k_is)))
      (case d_told_systems => (refine' Sk.mdef_mk KX G ?q1 ?q2 ?q3 ?q4; (case q1 => k_is); (case q2 => k_is); (case q3 => k_is); (case q4 => k_is)))
      (case d_system => (refine' Sk.mdef_mk KX G ?q1 ?q2 ?q3 ?q4; (case q1 => k_is); (case q2 => k_is); (case q3 => k_is); (case q4 => k_is)))
      (case d_bond => (refine' Sk.mdef_mk KX G ?q1 ?q2 ?q3 ?q4; (case q1 => k_is); (case q2 => k_is); (case q3 => k_is); (case q4 => k_is)))
      (case d_text => (refine' Sk.mdef_mk KX G ?q1 ?q2 ?q3 ?q4; (case q1 => k_is); (case q2 => k_is); (case q3 => k_is); (case q4 => k_is)))
      (case d_named => (refine' Sk.mdef_mk KX G ?q1 ?q2 ?q3 ?q4; (case q1 => k_is); (case q2 => k_is); (case q3 => k_is); (case q4 => k_is)))
      (case d_right => (refine' Sk.mdef_mk KX G ?q1 ?q2 ?q3 ?q4; (case q1 => k_is); (case q2 => k_is); (case q3 => k_is); (case q4 => k_is)))
      (case b_isinstance => exact PySem.W.mg_none_of KX G (by k_is))
      (case b_int => exact PySem.W.mg_none_of KX G (by k_is))
      (case b_bool => exact PySem.W.mg_none_of KX G (by k_is))
      (case b_str => exact PySem.W.mg_none_of KX G (by k_is))
      (case b_tuple => exact PySem.W.mg_none_of KX G (by k_is))
      (case b_len => exact PySem.W.mg_none_of KX G (by k_is))
      (case b_abs => exact PySem.W.mg_none_of KX G (by k_is))
      (case b_max => exact PySem.W.mg_none_of KX G (by k_is))
      (case b_min => exact PySem.W.mg_none_of KX G (by k_is))
      (case b_sum => exact PySem.W.mg_none_of KX G (by k_is))
      (case b_all => exact PySem.W.mg_none_of KX G (by k_is))
      (case b_zip => exact PySem.W.mg_none_of KX G (by k_is))
      (case b_range => exact PySem.W.mg_none_of KX G (by k_is))
