import PyProof.Rows.All
import Wide.All
import OpenK.AllK
import Wide.FinOn
import HandS.ForMost
import HandS.OwnEq
import HandS.Property
import HandS.Defaults
import HandS.IsInst
import HandS.Codes
import HandS.Wide
import HandS.Flow
import HandS.SetFor
import HandS.Style
import PyProof.InstNe
import HandS.FStr
import HandS.Star
import HandS.Deep
import HandS.Zip
import HandS.Walk
import HandS.ClsMeth
import KE.GoesMore
import KE.GoesEnum
import HandS.Iter
import KE.KRevSl
import HandS.Records
import HandS.WideBits
import HandS.TupAny
import HandS.Rev
import HandS.Conv
import HandS.TupSets
import KE.KIndexOf
import PySem.Challenge.RW_underwords_k65_whole_corners_tell_what_i
set_option Elab.async false
set_option maxRecDepth 100000
set_option maxHeartbeats 8000000
namespace Ow
open PySem PySem.Spec PyProof.Rows
open PySem.W (findIn isFn InstAt looks_findIn special_fn ifBound_K truthy_K CmpBack BoolBack)
section
variable {prog : Program} {w : World} {A : Around} {E : Value → Shared → Prop} {s : Shared} {K : PySem.W.Frag} {x y C f : Addr} {ox : Obj} {od : Option Obj}
/-- object's own unequal, over the text's equal -/
theorem objNe (X : K.In s.heap) (I : InstAt s.heap x ox C od) (hs : findIn K (.ref C) "__eq__" = some (some (.ref f))) (hf : isFn K (.ref f) = true) (hu : A.units < cLine) {Q : Fin → Shared → Prop}
    (hc : wpAny (model prog w) A (call (.ref f) [.ref x, .ref y]) (fun v s' => ∃ b, v = .bool b ∧ Q (.done (.ret (.bool (!b)))) s') E s) :
    wpAny (model prog w) A (Builtin.«object.__ne__» ⟨[.ref x, .ref y], []⟩) Q E s := by
  obtain ⟨hp, g, d, tk, os⟩ := s
  unfold Builtin.«object.__ne__»
  repeat (first
    | with_reducible refine wpAny_cRoomFor hu ?_
    | (refine wpAny_bind (m := callSpecialIfBound? (.ref x) (Str.ofString "__eq__") [.ref y])
        (ifBound_K X I hs hf (wpAny_mono hc (fun r s' hr => by
          obtain ⟨b, rfl, hq⟩ := hr
          repeat (first | exact hq | exact wpAny_pure hq | exact wpAny_truthy_bool hq | (refine wpAny_bind (m := truthy (.bool _)) (wpAny_truthy_bool ?_)) | wp_step)) fun _ _ e => e)))
    | wp_step)
theorem tryNe (X : K.In s.heap) (I : InstAt s.heap x ox C od) (hn : findIn K (.ref C) "__ne__" = some (some (.builtin "object.__ne__"))) (hs : findIn K (.ref C) "__eq__" = some (some (.ref f))) (hf : isFn K (.ref f) = true)
    (hb : PySem.W.mroIn K C (.type "object") = some true) (hu : A.units + 1 < cLine) {Q : Option Value → Shared → Prop}
    (hc : wpAny (model prog w) A.in1 (call (.ref f) [.ref x, .ref y]) (fun v s' => ∃ b, v = .bool b ∧ Q (some (.bool (!b))) s') E s) :
    wpAny (model prog w) A (tryCompare (.ref x) "__ne__" (.ref y)) Q E s := by
  simp only [tryCompare]
  have hcall : wpAny (model prog w) A (call (.builtin "object.__ne__") (.ref x :: [.ref y])) (fun v s' => ∃ b, v = .bool b ∧ Q (some (.bool b)) s') E s := by
    refine wpAny_call (codeAny_call_builtin PySem.F.cmp_object.ne.plain PySem.F.cmpEntry_ne ?_)
    refine PySem.W.check_slot PySem.F.cmpKind_ne PySem.F.cmpSplit_ne ?_ (PySem.F.cmpArgs_ne _ _) ?_
    · exact I.type.andThen (PySem.W.looks_mroIn X hb)
    · refine objNe (A := A.in1) X I hs hf hu (wpAny_mono hc (fun v s' hv => ?_) fun _ _ e => e)
      obtain ⟨b, rfl, hq⟩ := hv
      exact ⟨b, rfl, ⟨_, rfl, hq⟩⟩
  refine wpAny_bind ?_
  simp only [callSpecialIfBound?, bindSpecialIfBound?]
  refine wpAny_holding (wpAny_bind (wpAny_bind (wpAny_bind (I.type.here ((looks_findIn X hn).here ?_)))))
  simp only [PySem.F.cmp_object.ne.bind]
  refine wpAny_bind (wpAny_askSetting (wpAny_ite ?_))
  have fin : wpAny (model prog w) A (call (.builtin "object.__ne__") ([.ref x] ++ [.ref y]) >>= fun v => pure (some v)) (fun r s' => ∃ b, r = some (.bool b) ∧ Q (some (.bool b)) s') E s :=
    wpAny_bind (wpAny_mono hcall (fun v s' ⟨b, e, q⟩ => wpAny_pure ⟨b, by rw [e], q⟩) fun _ _ h' => h')
  have fin2 : wpAny (model prog w) A (call (.builtin "object.__ne__") ([.ref x] ++ [.ref y]) >>= fun v => pure (some v)) (fun a s' => wpAny (model prog w) A (match a with | some Value.notImplemented => pure none | none => pure none | some r => pure (some r)) Q E s') E s :=
    wpAny_mono fin (fun r s' ⟨b, e, q⟩ => by rw [e]; exact wpAny_pure q) fun _ _ h' => h'
  split
  · exact wpAny_bind (wpAny_pure (wpAny_pure fin2))
  · exact wpAny_tryCatch (wpAny_bind (wpAny_pure (wpAny_pure fin2)))
theorem neq_own (X : K.In s.heap) (I : InstAt s.heap x ox C od) {oy : Obj} {ody : Option Obj} (J : InstAt s.heap y oy C ody) (hn : findIn K (.ref C) "__ne__" = some (some (.builtin "object.__ne__"))) (hs : findIn K (.ref C) "__eq__" = some (some (.ref f))) (hf : isFn K (.ref f) = true)
    (hb : PySem.W.mroIn K C (.type "object") = some true) (hu : A.units + 1 < cLine) {Q : Value → Shared → Prop}
    (hc : wpAny (model prog w) A.in1 (call (.ref f) [.ref x, .ref y]) (fun v s' => ∃ b, v = .bool b ∧ Q (.bool (!b)) s') E s) :
    wpAny (model prog w) A (compareOp .NotEq (.ref x) (.ref y)) Q E s := by
  unfold compareOp richCompare
  simp only [oneThing_ref]
  refine wpAny_holding ?_
  refine wpAny_bind (wpAny_cRoomFor (Nat.lt_of_succ_lt hu) ?_)
  rw [cmpInfo_NotEq]
  dsimp only
  refine wpAny_bind (I.type.here (wpAny_bind (J.type.here ?_)))
  rw [show (Value.ref C != Value.ref C) = false from by simp]
  simp only [Bool.false_eq_true, if_false]
  refine wpAny_bind (wpAny_pure ?_)
  simp only [Bool.false_eq_true, if_false]
  refine wpAny_bind (tryNe X I hn hs hf hb hu (wpAny_mono hc (fun v s' hv => ?_) fun _ _ e => e))
  obtain ⟨b, rfl, hq⟩ := hv
  exact ⟨b, rfl, wpAny_pure hq⟩
/-- bool(x) by an own __bool__ -/
theorem bool_own (X : K.In s.heap) (I : InstAt s.heap x ox C od) (hs : findIn K (.ref C) "__bool__" = some (some (.ref f))) (hf : isFn K (.ref f) = true) {Q : Value → Shared → Prop}
    (h : wpAny (model prog w) A.in1.in1 (call (.ref f) [.ref x]) (fun v s' => ∃ b, v = .bool b ∧ Q (.bool b) s') E s) : wpAny (model prog w) A (call (.type "bool") [.ref x]) Q E s := by
  refine callType_codes (T := "bool") (Bi := Builtin.«object.__init__») (Q₁ := fun r s₁ => ∃ b, r = Value.bool b ∧ Q r s₁) PySem.F.called_bool (PySem.F.typeCall_bool_1 _) PySem.F.entry_object_init ?_ ?_
  · refine codeAny_of_tree ?_
    show wpAny _ A.in1.in1 (do checkBuiltinCall "bool.__new__" ⟨[.type "bool", .ref x], []⟩; again (.builtin "bool.__new__" ⟨[.type "bool", .ref x], []⟩)) _ _ s
    refine wpAny_bind (wpAny_of_eq (PySem.F.newCall_bool_1 _) (wpAny_pure ⟨plainId_quiet (by decide +kernel) _, codeAny_builtin PySem.F.entry_bool_new ?_⟩))
    rw [Around.under_plainId (by decide +kernel) _]
    unfold Builtin.«bool.__new__»
    refine wpAny_bind (wpAny_of_eq (a := true) (by kernel_rfl) ?_)
    refine PySem.W.KFB.if_not rfl ?_
    refine wpAny_bind (wpAny_of_eq (a := true) PySem.F.conv_sub_bool ?_)
    refine PySem.W.KFB.if_not rfl ?_
    refine wpAny_bind (wpAny_of_eq (a := [.ref x]) rfl ?_)
    refine wpAny_bind ?_
    unfold truthy
    refine wpAny_bind (m := callSpecial? (.ref x) (Str.ofString "__bool__")) (special_fn X I hs (beq_iff_eq.mp hf) (wpAny_mono h (fun r s' hr => ?_) fun _ _ y => y))
    obtain ⟨b, rfl, hq⟩ := hr
    exact wpAny_pure (wpAny_pure ⟨b, rfl, hq⟩)
  · rintro obj s₁ ⟨b, rfl, hq⟩
    exact ⟨PySem.typeIs_bool _ _, PySem.F.args_object_init_2 _ _, object_init_meets PySem.F.called_bool.init.lookup PySem.F.called_bool.made (by decide) prog w A.in1 _ s₁ ⟨PySem.typeIs_bool _ _, rfl, hq⟩⟩
end
end Ow

namespace Ow
open PySem PySem.Spec PyProof.Rows L2
/-- the class at C as these rules want it -/
structure OCls (K : PySem.W.Frag) (C : Addr) : Prop where
  first : PySem.W.selfFirst K C = true
  ob : PySem.W.mroIn K C (.type "object") = some true
  ne : PySem.W.findIn K (.ref C) "__ne__" = some (some (.builtin "object.__ne__"))
  nf : PySem.W.notFirst K C (.ref C) = true
/-- a method at f under the name m -/
structure OM (K : PySem.W.Frag) (C : Addr) (m : Str) (f : Addr) : Prop where
  at_ : PySem.W.findIn K (.ref C) m = some (some (.ref f))
  fn : PySem.W.isFn K (.ref f) = true
section
variable {X : Cx} {CX : CXT} {C f : Addr} {n : Nat} {fd : FuncData} {ps : List Str} {sp : Sp} {E : XK}
theorem cback {P : Value → Shared → Prop} {z : V} {v : Value} {s' : Shared} (r : RelV z v) (h : P v s') : PySem.W.CmpBack P v s' := by
  cases z <;> first | (obtain ⟨t, e⟩ := r; subst e; exact h) | (have e := r; simp only [L2.RelV] at e; subst e; exact h)
/-- the called def, some level below -/
theorem run_in {pins : List (Addr × Obj)} {σ : L2.St} {H : Hp} {s : Shared} {A : Around} {Q : VK} {us : List Value} {ws : List V} (F : FnOk X.prog X.w X.K X.mg X.base CX n f fd ps sp) (hr : Room n A) (e0 : Env0 X.prog X.w X.K X.mg X.base A X.stack s H)
    (hb : Binds X.K fd ps []) (hx : Passes CX X E) (I : Inv X pins σ H s) (r : Vals ws us) (h : sp ws H Q E) : wpAny (model X.prog X.w) A (call (.ref f) us) (EP X pins σ Q) X.xe s := by
  have hl : us.length = ps.length := by rw [← r.length]; exact F.len _ _ _ _ h
  have hb2 := hb s us I.kIn (by simpa using hl)
  simp only [List.append_nil] at hb2
  refine wpAny_call (codeAny_mono (F.run A X.stack s H ⟨us, []⟩ us ws Q E hr e0 hb2 r h) fun r s' hq => ?_)
  cases r with
  | error e => exact hx pins σ H s e s' I hq
  | ok fl =>
    cases fl with
    | ret u => exact I.after hq
    | next => exact False.elim hq
    | brk => exact False.elim hq
    | cont => exact False.elim hq
/-- x op y of two instances of one class -/
def rBin (C : Addr) (sp : Sp) (E : XK) : R2 := fun x y H Q => ∃ a b dx fs dy gs, x = .ref a ∧ y = .ref b ∧ H a = some (.ins C dx fs) ∧ H b = some (.ins C dy gs) ∧ sp [.ref a, .ref b] H Q E
theorem op_bin {op : Operator} (oc : OCls X.K C) (om : OM X.K C (PySem.dunder op.info.2) f) (F : FnOk X.prog X.w X.K X.mg X.base CX n f fd ps sp) (hr : Room n X.A) (hb : Binds X.K fd ps []) (hx : Passes CX X E) :
    OpR X (binaryOp op) (rBin C sp E) := by
  intro pins s σ H x y v u Q I rx ry h
  obtain ⟨a, b, dx, fs, dy, gs, rfl, rfl, ha, hb', q⟩ := h
  cases rx
  cases ry
  obtain ⟨mA, J, _⟩ := ins_get I.hok ha
  obtain ⟨mB, J', _⟩ := ins_get I.hok hb'
  obtain ⟨od, J, _⟩ := J.look
  obtain ⟨od', J', _⟩ := J'.look
  obtain ⟨m, hF⟩ := I.fr
  refine PySem.W.binop_K hF I.ok.mod.kin J J'.type oc.first om.at_ om.fn ?_
  refine wpAny_mono (run_in (us := [.ref a, .ref b]) (ws := [.ref a, .ref b]) F hr I.env0 hb hx I (.cons rfl (.cons rfl .nil)) q) (fun w s' ⟨z, H', I', rz, qz⟩ => cback rz ⟨z, H', I', rz, qz⟩) fun _ _ e => e
/-- x == y -/
theorem op_eqO (oc : OCls X.K C) (om : OM X.K C "__eq__" f) (F : FnOk X.prog X.w X.K X.mg X.base CX n f fd ps sp) (hr : Room n X.A) (hb : Binds X.K fd ps []) (hx : Passes CX X E) : OpR X (compareOp .Eq) (rBin C sp E) := by
  intro pins s σ H x y v u Q I rx ry h
  obtain ⟨a, b, dx, fs, dy, gs, rfl, rfl, ha, hb', q⟩ := h
  cases rx
  cases ry
  obtain ⟨mA, J, _⟩ := ins_get I.hok ha
  obtain ⟨mB, J', _⟩ := ins_get I.hok hb'
  obtain ⟨od, J, _⟩ := J.look
  obtain ⟨od', J', _⟩ := J'.look
  obtain ⟨m, hF⟩ := I.fr
  show wpAny _ _ (richCompare .Eq _ _) _ _ _
  refine PySem.W.cmp_K (op := .Eq) (tb := .ref C) hr.units0 hF I.ok.mod.kin J J'.type oc.nf om.at_ om.fn ?_
  refine wpAny_mono (run_in (us := [.ref a, .ref b]) (ws := [.ref a, .ref b]) F hr I.env0 hb hx I (.cons rfl (.cons rfl .nil)) q) (fun w s' ⟨z, H', I', rz, qz⟩ => cback rz ⟨z, H', I', rz, qz⟩) fun _ _ e => e
/-- x != y, by an own equal that answers a bool -/
def rBinN (C : Addr) (sp : Sp) (E : XK) : R2 := fun x y H Q => ∃ a b dx fs dy gs, x = .ref a ∧ y = .ref b ∧ H a = some (.ins C dx fs) ∧ H b = some (.ins C dy gs) ∧ sp [.ref a, .ref b] H (fun z H' => ∃ k, z = .bl k ∧ Q (.bl (!k)) H') E
theorem op_neO (oc : OCls X.K C) (om : OM X.K C "__eq__" f) (F : FnOk X.prog X.w X.K X.mg X.base CX n f fd ps sp) (hr : Room (n + 1) X.A) (hb : Binds X.K fd ps []) (hx : Passes CX X E) : OpR X (compareOp .NotEq) (rBinN C sp E) := by
  intro pins s σ H x y v u Q I rx ry h
  obtain ⟨a, b, dx, fs, dy, gs, rfl, rfl, ha, hb', q⟩ := h
  cases rx
  cases ry
  obtain ⟨mA, J, _⟩ := ins_get I.hok ha
  obtain ⟨mB, J', _⟩ := ins_get I.hok hb'
  obtain ⟨od, J, _⟩ := J.look
  obtain ⟨od', J', _⟩ := J'.look
  refine neq_own I.kIn J J' oc.ne om.at_ om.fn oc.ob (hu_of hr) ?_
  refine wpAny_mono (run_in (us := [.ref a, .ref b]) (ws := [.ref a, .ref b]) F hr.in1 I.env0.in1 hb hx I (.cons rfl (.cons rfl .nil)) q) (fun w s' ⟨z, H', I', rz, k, ez, qz⟩ => ?_) fun _ _ e => e
  subst ez
  exact ⟨k, rz, .bl (!k), H', I', rfl, qz⟩
/-- -x -/
def rNegO (C : Addr) (sp : Sp) (E : XK) : V → Hp → VK → Prop := fun x H Q => ∃ a dx fs, x = .ref a ∧ H a = some (.ins C dx fs) ∧ sp [.ref a] H Q E
theorem un_negO (om : OM X.K C "__neg__" f) (F : FnOk X.prog X.w X.K X.mg X.base CX n f fd ps sp) (hr : Room n X.A) (hb : Binds X.K fd ps []) (hx : Passes CX X E) : UnR X (unaryOp .USub) (rNegO C sp E) := by
  intro pins s σ H x v Q I rx h
  obtain ⟨a, dx, fs, rfl, ha, q⟩ := h
  cases rx
  obtain ⟨mA, J, _⟩ := ins_get I.hok ha
  obtain ⟨od, J, _⟩ := J.look
  obtain ⟨m, hF⟩ := I.fr
  refine PySem.W.ksp_neg hF I.ok.mod.kin J om.at_ om.fn ?_
  exact run_in (us := [.ref a]) (ws := [.ref a]) F hr I.env0 hb hx I (.cons rfl .nil) q
/-- bool(x) by an own __bool__ -/
def rBoolO (C : Addr) (sp : Sp) (E : XK) : List V → Hp → VK → Prop := fun xs H Q => ∃ a dx fs, xs = [.ref a] ∧ H a = some (.ins C dx fs) ∧ sp [.ref a] H (fun z H' => ∃ k, z = .bl k ∧ Q (.bl k) H') E
theorem call_boolO (om : OM X.K C "__bool__" f) (F : FnOk X.prog X.w X.K X.mg X.base CX n f fd ps sp) (hr : Room (n + 2) X.A) (hb : Binds X.K fd ps []) (hx : Passes CX X E) : CallR X (.type "bool") (rBoolO C sp E) := by
  intro pins s σ H xs us Q I r h
  obtain ⟨a, dx, fs, rfl, ha, q⟩ := h
  obtain ⟨u, rfl, ru⟩ := vals1 r
  cases ru
  obtain ⟨mA, J, _⟩ := ins_get I.hok ha
  obtain ⟨od, J, _⟩ := J.look
  have hr2 : Room n X.A.in1.in1 := (show Room (n + 1) X.A.in1 from Room.in1 hr).in1
  refine bool_own I.kIn J om.at_ om.fn ?_
  refine wpAny_mono (run_in (us := [.ref a]) (ws := [.ref a]) F hr2 I.env0.in1.in1 hb hx I (.cons rfl .nil) q) (fun w s' ⟨z, H', I', rz, k, ez, qz⟩ => ?_) fun _ _ e => e
  subst ez
  exact ⟨k, rz, .bl k, H', I', rfl, qz⟩
/-- powers with a large base -/
def CPowW (i j : Int) : Prop := 0 ≤ j ∧ (Builtin.Int.intBits i : Int) * j ≤ 2 ^ 27
theorem op_powW : OpR X (binaryOp .Pow) (rI CPowW fun i j => .int (i ^ j.toNat)) := by
  intro pins s σ H x y v u Q I rx ry h
  obtain ⟨i, j, rfl, rfl, hc, q⟩ := h
  obtain ⟨t, rfl⟩ := rx
  obtain ⟨t', rfl⟩ := ry
  exact pow_int hc.1 hc.2 ⟨.int _, H, I.tok _, ⟨_, rfl⟩, q⟩
end
/-! ### a def of the module by its promise -/
/-- the def under the name x keeps the promise sp, by at most level k -/
structure Cal (P : Program) (w : World) (K : PySem.W.Frag) (mg : Str → Option Value) (base : Heap) (x : Str) (k : Nat) (sp : Sp) : Prop where
  ex : ∃ f fd ps, FnOk P w K mg base CX0 k f fd ps sp ∧ mg x = some (.ref f) ∧ PySem.W.keepIn K (.ref f) = true ∧ Binds K fd ps []
section
variable {X : Cx} {x : Str} {k : Nat} {sp : Sp} {e : Expr} {es : List Expr} {t : TA} {p pos : Pos}
theorem pe_cal (C : Cal X.prog X.w X.K X.mg X.base x k sp) (hr : Room k X.A) (hg : Gl X x) (ha : PA X (e :: es) t) (hdb : (x == ("__debug__" : Str)) = false := by decide)
    (he : starEach (e :: es) X.env = (false, eval e X.env) :: starEach es X.env := by rfl) (hpl : (backTo pos (starEach es X.env)).any (·.1) = false := by rfl) : PE X (.Call (.Name x p) (e :: es) [] pos) (tCall sp [] E0 t) := by
  obtain ⟨f, fd, ps, F, hm, hk, hb⟩ := C.ex
  exact pe_call F hr hg hm hk hb .nil pass0 ha hdb he hpl
theorem pe_cal0 (C : Cal X.prog X.w X.K X.mg X.base x k sp) (hr : Room k X.A) (hg : Gl X x) (hdb : (x == ("__debug__" : Str)) = false := by decide) : PE X (.Call (.Name x p) [] [] pos) (tCall sp [] E0 tNil) := by
  obtain ⟨f, fd, ps, F, hm, hk, hb⟩ := C.ex
  exact pe_call0 F hr hg hm hk hb .nil pass0 hdb
end
end Ow

namespace Ow
open PySem PySem.Spec PyProof.Rows L2
section
variable {X : Cx} {CX : CXT} {C f : Addr} {n : Nat} {fd : FuncData} {ps : List Str} {sp : Sp} {E : XK}
/-- str(x) by an own __str__ -/
def rStrO (C : Addr) (sp : Sp) (E : XK) : List V → Hp → VK → Prop := fun xs H Q => ∃ a dx fs, xs = [.ref a] ∧ H a = some (.ins C dx fs) ∧ sp [.ref a] H (fun z H' => ∃ y, z = .str y ∧ Q (.str y) H') E
theorem call_strO (om : OM X.K C "__str__" f) (F : FnOk X.prog X.w X.K X.mg X.base CX n f fd ps sp) (hr : Room (n + 2) X.A) (hb : Binds X.K fd ps []) (hx : Passes CX X E) : CallR X (.type "str") (rStrO C sp E) := by
  intro pins s σ H xs us Q I r h
  obtain ⟨a, dx, fs, rfl, ha, q⟩ := h
  obtain ⟨u, rfl, ru⟩ := vals1 r
  cases ru
  obtain ⟨mA, J, _⟩ := ins_get I.hok ha
  obtain ⟨od, J, _⟩ := J.look
  have hr2 : Room n X.A.in1.in1 := (show Room (n + 1) X.A.in1 from Room.in1 hr).in1
  refine PySem.W.kso_call hr2.units0 I.kIn J om.at_ om.fn ?_
  refine wpAny_mono (run_in (us := [.ref a]) (ws := [.ref a]) F hr2 I.env0.in1.in1 hb hx I (.cons rfl .nil) q) (fun w s' ⟨z, H', I', rz, y, ez, qz⟩ => ?_) fun _ _ e => e
  subst ez
  obtain ⟨t, rfl⟩ := rz
  exact ⟨.str y, H', I', ⟨t, rfl⟩, qz⟩
/-- a text of parts, by a name -/
def tJn (ts : List TE) : TE := fun σ H Q => tJs ts Str.empty σ H fun out H1 => Q (.str out) H1
theorem pe_fstr {v1 v2 : Expr} {rest : List Expr} {ts : List TE} {pos : Pos} (h : PJ X (v1 :: v2 :: rest) ts) : PE X (.JoinedStr (v1 :: v2 :: rest) pos) (tJn ts) := pe_joined h
theorem u65 {A : Around} {k : Nat} (hr : Room k A) : A.units + 65 < cLine := by
  have := hr.un
  omega
def rInT (K : PySem.W.Frag) : R2 := fun x y H Q => ∃ d ds, Dp K H x d ∧ Dp K H y (.tuple ds) ∧ SeqAt.shaped d = true ∧ SeqAt.shaped (.tuple ds) = true ∧ Q (.bl (ds.any fun z => PyData.eqv z d)) H
theorem op_inT (hu : X.A.units + 65 < cLine) : OpR X (compareOp .In) (rInT X.K) := by
  intro pins s σ H x y v u Q I rx ry h
  obtain ⟨d, ds, hd, he, sd, se, q⟩ := h
  obtain ⟨as, r1⟩ := Dp.reads I d x v hd rx
  obtain ⟨bs, r2⟩ := Dp.reads I (.tuple ds) y u he ry
  exact SeqAt.in_tuple_reads r2 r1 (SeqAt.canLay_of_shaped se) (SeqAt.canLay_of_shaped sd) (room_in_shaped (xs := ds) sd hu) ⟨.bl _, H, I, rfl, q⟩
end
end Ow

namespace Ow
open PySem PySem.Spec PyProof.Rows
open PySem.W (findIn isFn InstAt looks_findIn special_fn ifBound_K)
section
variable {prog : Program} {w : World} {A : Around} {E : Value → Shared → Prop} {s : Shared} {K : PySem.W.Frag} {x C f : Addr} {y tb : Value} {ox : Obj} {od : Option Obj}
theorem objNeV (X : K.In s.heap) (I : InstAt s.heap x ox C od) (hs : findIn K (.ref C) "__eq__" = some (some (.ref f))) (hf : isFn K (.ref f) = true) (hu : A.units < cLine) {Q : Fin → Shared → Prop}
    (hc : wpAny (model prog w) A (call (.ref f) [.ref x, y]) (fun v s' => ∃ b, v = .bool b ∧ Q (.done (.ret (.bool (!b)))) s') E s) :
    wpAny (model prog w) A (Builtin.«object.__ne__» ⟨[.ref x, y], []⟩) Q E s := by
  obtain ⟨hp, g, d, tk, os⟩ := s
  unfold Builtin.«object.__ne__»
  repeat (first
    | with_reducible refine wpAny_cRoomFor hu ?_
    | (refine wpAny_bind (m := callSpecialIfBound? (.ref x) (Str.ofString "__eq__") [y])
        (ifBound_K X I hs hf (wpAny_mono hc (fun r s' hr => by
          obtain ⟨b, rfl, hq⟩ := hr
          repeat (first | exact hq | exact wpAny_pure hq | exact wpAny_truthy_bool hq | (refine wpAny_bind (m := truthy (.bool _)) (wpAny_truthy_bool ?_)) | wp_step)) fun _ _ e => e)))
    | wp_step)
theorem tryNeV (X : K.In s.heap) (I : InstAt s.heap x ox C od) (hn : findIn K (.ref C) "__ne__" = some (some (.builtin "object.__ne__"))) (hs : findIn K (.ref C) "__eq__" = some (some (.ref f))) (hf : isFn K (.ref f) = true)
    (hb : PySem.W.mroIn K C (.type "object") = some true) (hu : A.units + 1 < cLine) {Q : Option Value → Shared → Prop}
    (hc : wpAny (model prog w) A.in1 (call (.ref f) [.ref x, y]) (fun v s' => ∃ b, v = .bool b ∧ Q (some (.bool (!b))) s') E s) :
    wpAny (model prog w) A (tryCompare (.ref x) "__ne__" y) Q E s := by
  simp only [tryCompare]
  have hcall : wpAny (model prog w) A (call (.builtin "object.__ne__") (.ref x :: [y])) (fun v s' => ∃ b, v = .bool b ∧ Q (some (.bool b)) s') E s := by
    refine wpAny_call (codeAny_call_builtin PySem.F.cmp_object.ne.plain PySem.F.cmpEntry_ne ?_)
    refine PySem.W.check_slot PySem.F.cmpKind_ne PySem.F.cmpSplit_ne ?_ (PySem.F.cmpArgs_ne _ _) ?_
    · exact I.type.andThen (PySem.W.looks_mroIn X hb)
    · refine objNeV (A := A.in1) X I hs hf hu (wpAny_mono hc (fun v s' hv => ?_) fun _ _ e => e)
      obtain ⟨b, rfl, hq⟩ := hv
      exact ⟨b, rfl, ⟨_, rfl, hq⟩⟩
  refine wpAny_bind ?_
  simp only [callSpecialIfBound?, bindSpecialIfBound?]
  refine wpAny_holding (wpAny_bind (wpAny_bind (wpAny_bind (I.type.here ((looks_findIn X hn).here ?_)))))
  simp only [PySem.F.cmp_object.ne.bind]
  refine wpAny_bind (wpAny_askSetting (wpAny_ite ?_))
  have fin : wpAny (model prog w) A (call (.builtin "object.__ne__") ([.ref x] ++ [y]) >>= fun v => pure (some v)) (fun r s' => ∃ b, r = some (.bool b) ∧ Q (some (.bool b)) s') E s :=
    wpAny_bind (wpAny_mono hcall (fun v s' ⟨b, e, q⟩ => wpAny_pure ⟨b, by rw [e], q⟩) fun _ _ h' => h')
  have fin2 : wpAny (model prog w) A (call (.builtin "object.__ne__") ([.ref x] ++ [y]) >>= fun v => pure (some v)) (fun a s' => wpAny (model prog w) A (match a with | some Value.notImplemented => pure none | none => pure none | some r => pure (some r)) Q E s') E s :=
    wpAny_mono fin (fun r s' ⟨b, e, q⟩ => by rw [e]; exact wpAny_pure q) fun _ _ h' => h'
  split
  · exact wpAny_bind (wpAny_pure (wpAny_pure fin2))
  · exact wpAny_tryCatch (wpAny_bind (wpAny_pure (wpAny_pure fin2)))
theorem neq_other {T : String} (X : K.In s.heap) (I : InstAt s.heap x ox C od) (J : PySem.W.Looks (model prog w) s.heap (typeOf y) (.type T)) (nf : PySem.W.subIn K (.type T) (.ref C) = some false) (hn : findIn K (.ref C) "__ne__" = some (some (.builtin "object.__ne__"))) (hs : findIn K (.ref C) "__eq__" = some (some (.ref f))) (hf : isFn K (.ref f) = true)
    (hb : PySem.W.mroIn K C (.type "object") = some true) (hu : A.units + 1 < cLine) {Q : Value → Shared → Prop}
    (hc : wpAny (model prog w) A.in1 (call (.ref f) [.ref x, y]) (fun v s' => ∃ b, v = .bool b ∧ Q (.bool (!b)) s') E s) :
    wpAny (model prog w) A (compareOp .NotEq (.ref x) y) Q E s := by
  unfold compareOp richCompare
  simp only [oneThing_ref]
  refine wpAny_holding ?_
  refine wpAny_bind (wpAny_cRoomFor (Nat.lt_of_succ_lt hu) ?_)
  rw [cmpInfo_NotEq]
  dsimp only
  refine wpAny_bind (I.type.here (wpAny_bind (J.here ?_)))
  rw [show (Value.ref C != Value.type T) = true from by simp]
  simp only [if_true]
  refine wpAny_bind ((PySem.W.looks_subIn X nf).here ?_)
  simp only [Bool.false_eq_true, if_false]
  refine wpAny_bind (tryNeV X I hn hs hf hb hu (wpAny_mono hc (fun v s' hv => ?_) fun _ _ e => e))
  obtain ⟨b, rfl, hq⟩ := hv
  exact ⟨b, rfl, wpAny_pure hq⟩
end
end Ow
namespace Ow
open PySem PySem.Spec PyProof.Rows L2
section
variable {X : Cx} {CX : CXT} {C f : Addr} {n : Nat} {fd : FuncData} {ps : List Str} {sp : Sp} {E : XK}
/-- x == y, y of a built-in class -/
def rBinX (K : PySem.W.Frag) (C : Addr) (sp : Sp) (E : XK) : R2 := fun x y H Q => ∃ a dx fs T, x = .ref a ∧ H a = some (.ins C dx fs) ∧ TyX K H y (.type T) ∧ PySem.W.subIn K (.type T) (.ref C) = some false ∧ sp [.ref a, y] H Q E
theorem nf_of {K : PySem.W.Frag} {T : String} (h : PySem.W.subIn K (.type T) (.ref C) = some false) : PySem.W.notFirst K C (.type T) = true := by
  unfold PySem.W.notFirst
  rw [h]
  simp
theorem op_eqX (om : OM X.K C "__eq__" f) (F : FnOk X.prog X.w X.K X.mg X.base CX n f fd ps sp) (hr : Room n X.A) (hb : Binds X.K fd ps []) (hx : Passes CX X E) : OpR X (compareOp .Eq) (rBinX X.K C sp E) := by
  intro pins s σ H x y v u Q I rx ry h
  obtain ⟨a, dx, fs, T, rfl, ha, ty, nf, q⟩ := h
  cases rx
  obtain ⟨mA, J, _⟩ := ins_get I.hok ha
  obtain ⟨od, J, _⟩ := J.look
  obtain ⟨m, hF⟩ := I.fr
  obtain ⟨Pu, Z, pu, _⟩ := kit_of I ry ty
  show wpAny _ _ (richCompare .Eq _ _) _ _ _
  refine PySem.W.cmp_K (op := .Eq) (tb := .type T) hr.units0 hF I.ok.mod.kin J (Z.ty _ _ I.kIn pu) (nf_of nf) om.at_ om.fn ?_
  refine wpAny_mono (run_in (us := [.ref a, u]) (ws := [.ref a, y]) F hr I.env0 hb hx I (.cons rfl (.cons ry .nil)) q) (fun w s' ⟨z, H', I', rz, qz⟩ => cback rz ⟨z, H', I', rz, qz⟩) fun _ _ e => e
def rBinNX (K : PySem.W.Frag) (C : Addr) (sp : Sp) (E : XK) : R2 := fun x y H Q => ∃ a dx fs T, x = .ref a ∧ H a = some (.ins C dx fs) ∧ TyX K H y (.type T) ∧ PySem.W.subIn K (.type T) (.ref C) = some false ∧ sp [.ref a, y] H (fun z H' => ∃ k, z = .bl k ∧ Q (.bl (!k)) H') E
theorem op_neX (oc : OCls X.K C) (om : OM X.K C "__eq__" f) (F : FnOk X.prog X.w X.K X.mg X.base CX n f fd ps sp) (hr : Room (n + 1) X.A) (hb : Binds X.K fd ps []) (hx : Passes CX X E) : OpR X (compareOp .NotEq) (rBinNX X.K C sp E) := by
  intro pins s σ H x y v u Q I rx ry h
  obtain ⟨a, dx, fs, T, rfl, ha, ty, nf, q⟩ := h
  cases rx
  obtain ⟨mA, J, _⟩ := ins_get I.hok ha
  obtain ⟨od, J, _⟩ := J.look
  obtain ⟨Pu, Z, pu, _⟩ := kit_of I ry ty
  refine neq_other I.kIn J (Z.ty _ _ I.kIn pu) nf oc.ne om.at_ om.fn oc.ob (hu_of hr) ?_
  refine wpAny_mono (run_in (us := [.ref a, u]) (ws := [.ref a, y]) F hr.in1 I.env0.in1 hb hx I (.cons rfl (.cons ry .nil)) q) (fun w s' ⟨z, H', I', rz, k, ez, qz⟩ => ?_) fun _ _ e => e
  subst ez
  exact ⟨k, rz, .bl (!k), H', I', rfl, qz⟩
end
end Ow

/-! enumerate of a tuple -/
namespace Ow
open PySem PySem.Spec PyProof.Rows L2
set_option maxHeartbeats 8000000 in
theorem enum1_new {v : Value} {o : Obj} {Hy : Heap → Prop} (B : Begins v o Hy) : Meets (Builtin.«enumerate.__new__» ⟨[.type "enumerate", v], []⟩) (fun _ R s => Hy s.heap ∧
    R (.ok (.ret (.ref (s.heap.push o).objs.size))) { s with heap := (s.heap.push o).push { cls := .type "enumerate", data := .fields #[.none, .bool false, .ref s.heap.objs.size, rawInt 0, .none, .none] } }) := .of_wp fun prog w A R s h => by
  obtain ⟨hp, g, d, tk, os⟩ := s
  obtain ⟨h1, h⟩ := h
  have sb := sub_enumerate
  have q1 {A' : Around} {E Q : Value → Shared → Prop} (q : Q (.ref hp.objs.size) ⟨hp.push o, g, d, tk, os⟩) : wpAny (model prog w) A' (pyIter v) Q E ⟨hp, g, d, tk, os⟩ := B.iter prog w _ _ ⟨hp, g, d, tk, os⟩ _ h1 q
  wp_walk using q1
  apply wpAny_stack_any; intro st; apply wpAny_pure
  split
  · rename_i c _ _ _ _ _; cases (c == Value.type "enumerate") <;> (wp_walk using q1; exact ⟨_, rfl, h⟩)
  · wp_walk using q1; exact ⟨_, rfl, h⟩
section
variable {prog : Program} {w : World} {A : Around} {E : Value → Shared → Prop} {s : Shared}
theorem enum1_call {v : Value} {o : Obj} {Hy : Heap → Prop} {Q : Value → Shared → Prop} (B : Begins v o Hy) (h1 : Hy s.heap)
    (h : ∀ h', IsEnum h' (s.heap.objs.size + 1) s.heap.objs.size 0 .none → h'.get? s.heap.objs.size = some o → (∀ b u, s.heap.get? b = some u → h'.get? b = some u) → Q (.ref (s.heap.objs.size + 1)) { s with heap := h' }) :
    wpAny (model prog w) A (call (.type "enumerate") [v]) Q E s := by
  refine callType_new F.called_enumerate (by decide) (F.typeCall_enumerate_1 _) (F.newCall_enumerate_1 _) (fun ob => F.args_object_init_2 ob _) F.entry_enumerate_new (enum1_new B) ⟨h1, ?_⟩
  have z1 : (s.heap.push o).objs.size = s.heap.objs.size + 1 := Heap.size_push ..
  have he : IsEnum ((s.heap.push o).push { cls := .type "enumerate", data := .fields #[.none, .bool false, .ref s.heap.objs.size, rawInt 0, .none, .none] }) (s.heap.objs.size + 1) s.heap.objs.size 0 .none := by
    have q := Heap.get?_push_size (s.heap.push o) (o := { cls := .type "enumerate", data := .fields #[.none, .bool false, .ref s.heap.objs.size, rawInt 0, .none, .none] }) rfl
    rwa [z1] at q
  show _ ∧ _
  rw [z1]
  exact ⟨⟨_, he, rfl⟩, h _ he (Heap.get?_push_of_some _ (Heap.get?_push_size _ B.free)) fun b u x => Heap.get?_push_of_some _ (Heap.get?_push_of_some _ x)⟩
end
/-- the tuple at a, each item in a new pair with its place -/
def IteT (K : PySem.W.Frag) (a : Addr) : It where
  go i H := ∃ (xs : List V) (x : V), SqT K H a xs ∧ xs[i]? = some x
  yld i H v H' := ∃ T x, v = .ref T ∧ H T = none ∧ H' = upd H T (.tup [.int (i : Nat), x]) ∧ ∀ xs, SqT K H a xs → xs[i]? = some x
  stop i H := ∃ xs : List V, SqT K H a xs ∧ xs.length ≤ i
theorem turn_enumT {P : Program} {w : World} {K : PySem.W.Frag} {elts : List Expr} {kk : Nat} {tpos : Pos} (a e it : Addr) :
    Turn P w K (.Tuple elts kk tpos) (IteT K a) [e, it] e (fun i h => (∃ old, IsEnum h e it ((i : Nat) : Int) old) ∧ h.IsTupleIter it a i ∧ e ≠ it ∧ a ≠ it ∧ a ≠ e) where
  mem := by simp
  obj := fun i h st b hb => by
    obtain ⟨⟨old, he⟩, ⟨o, ho, hc, hd⟩, _⟩ := st
    rcases (show b = e ∨ b = it by simpa using hb) with rfl | rfl
    · exact ⟨_, he, fun v q => nomatch q⟩
    · exact ⟨o, ho, fun v q => by rw [hd] at q; cases q⟩
  keep := fun i h h' st k => by
    obtain ⟨⟨old, he⟩, hi, ne⟩ := st
    exact ⟨⟨old, k e (by simp) _ he⟩, hi.at fun o q => k it (by simp) o q, ne⟩
  item := by
    intro X hP hw hK hc i pins s σ H E I hf st hg
    subst hP hw hK
    obtain ⟨⟨old, he⟩, hit, hne, nai, nae⟩ := st
    obtain ⟨xs, x, hq, hx⟩ := hg
    obtain ⟨its, rv, p, hz⟩ := I.tuple hq
    obtain ⟨u, hu, ru⟩ := rv.get hx
    have hel := Heap.lt_size he
    have hil : it < s.heap.objs.size := by
      obtain ⟨_, q, _⟩ := hit
      exact Heap.lt_size q
    have pt : s.heap.IsTuple a its.toArray := p
    have ilt : i < its.toArray.size := by
      have := (List.getElem?_eq_some_iff.mp hu).1
      simpa using this
    refine wpAny_pyNext_enum_itemD (Draws.tuple (A := X.A.in1) (show X.A.in1.handled = none from I.ok.hd hc) it a nai its.toArray) he ⟨hit, pt⟩ ilt hne (by simp [hne, Ne.symm nae]) fun y h' tk hy ho st' hT hsz hk => ?_
    obtain rfl : u = y := by
      have : its.toArray[i]? = some y := hy
      rw [show its.toArray[i]? = some u by simpa using hu] at this
      exact Option.some.inj this
    refine ⟨_, rfl, wpAny_letOwnedTupleGo_enum (s := { s with heap := h', toks := tk + 1 }) ho fun h2 he' sb => ?_⟩
    have hT2 : h2.get? s.heap.objs.size = some { cls := .type "tuple", data := .seq #[.int i tk, u] } := (sb.2 _ (Nat.ne_of_gt hel)).trans hT
    have ok : ObjOk X.prog X.w (upd H s.heap.objs.size (.tup [.int (i : Nat), x])) h2 s.heap.objs.size (.tup [.int (i : Nat), x]) := ⟨show 2 ≤ sizeLine by decide, [.int i tk, u], .cons ⟨_, rfl⟩ (.cons ru .nil), ⟨_, hT2, rfl, _, rfl⟩⟩
    have I1 : Inv X pins σ (upd H s.heap.objs.size (.tup [.int (i : Nat), x])) { s with heap := h2, toks := tk + 1 } :=
      I.turnedNew (ch := [e, it]) (fun b ob hb q => (sb.2 b fun z => hb (by simp [z])).trans (hk b ob (fun z => hb (by simp [z])) (fun z => hb (by simp [z])) q)) hf (Nat.le_refl _) ok
    refine ⟨.ref s.heap.objs.size, _, I1, rfl, ⟨_, x, rfl, I.hok.fresh (Nat.le_refl _), rfl, fun ys hy => I.tuple_inj hq hy ▸ hx⟩, ⟨⟨u, ?_⟩, st'.1.at fun o q => (sb.2 it (Ne.symm hne)).trans q, hne, nai, nae⟩, fun b hb => ?_⟩
    · rw [show ((i + 1 : Nat) : Int) = (i : Int) + 1 by omega]
      exact he'
    · have hb' : b < s.heap.objs.size := by rcases (show b = e ∨ b = it by simpa using hb) with rfl | rfl <;> assumption
      rw [upd_ne (Nat.ne_of_lt hb')]
      exact (hf b hb).1
  done := by
    intro X hP hw hK hc i pins s σ H E I hf st hg
    subst hP hw hK
    obtain ⟨⟨old, he⟩, hit, hne, nai, nae⟩ := st
    obtain ⟨xs, hq, hx⟩ := hg
    obtain ⟨its, rv, p, hz⟩ := I.tuple hq
    have fi := hf it (by simp)
    obtain ⟨f0, f1, f2, f3, f4, f5⟩ := fi
    have pt : s.heap.IsTuple a its.toArray := p
    have hl := rv.length
    have D : Draws X.prog X.w X.A.in1 it [it, a] i (fun _ _ => False) (fun j h => j = i ∧ h.IsTupleIter it a i ∧ h.IsTuple a its.toArray) :=
      { live := fun _ _ st => let ⟨o, ho, _⟩ := st.2.1; ⟨o, ho⟩
        frame := fun _ _ _ st hk => ⟨st.1, st.2.1.at fun o e => hk it (by simp) o e, st.2.2.at fun o e => hk a (by simp) o e⟩
        item := fun j s Q E hj st _ => absurd st.1 (Nat.ne_of_lt hj)
        done := fun s Q E st hE => wpAny_nextOf_tuple_end (show X.A.in1.handled = none from I.ok.hd hc) st.2.1 st.2.2 (by simp; omega) hE }
    exact wpAny_pyNext_enum_endD D he ⟨rfl, hit, pt⟩ fun h' eb => ⟨rfl, I.turned (t' := s.toks) (fun b o hb q => eb b o hb q) f0 f1 f3 f4 f5⟩
  self := fun _ _ _ _ _ st h => by
    obtain ⟨⟨_, he⟩, _⟩ := st
    exact wpAny_pyIter_enum he h
def iEnumT (K : PySem.W.Frag) (ta : TA) : TI := fun σ H R => ta σ H fun vs H1 => ∃ a xs, vs = [.ref a] ∧ SqT K H1 a xs ∧ R (IteT K a) H1
theorem pi_enumT {X : Cx} {e : Expr} {ta : TA} {p pos tpos : Pos} {elts : List Expr} {kk : Nat} (hg : Gl X "enumerate") (hm : X.mg "enumerate" = none) (ha : PA X [e] ta) (hs : starEach [e] X.env = [(false, eval e X.env)] := by rfl) :
    PI X (.Tuple elts kk tpos) (.Call (.Name "enumerate" p) [e] [] pos) (iEnumT X.K ta) := by
  refine ⟨fun pins s σ H R I h => Call_ (ld_blt I hg hm boot_enumerate (PyProof.Rows.callWith_type1 (thn (ha.run pos pins s σ H _ I h) fun us s1 ⟨vs, H1, I1, r1, a, xs, ex, hq, q⟩ => ?_) hs rfl))⟩
  subst ex
  obtain ⟨u, rfl, ru⟩ := r1.one
  cases ru
  obtain ⟨its, rv, p', hz⟩ := I1.tuple hq
  have pt : s1.heap.IsTuple a its.toArray := p'
  have al : a < s1.heap.objs.size := by
    obtain ⟨o, ho, _⟩ := pt
    exact Heap.lt_size ho
  refine enum1_call (begins_tuple a its.toArray) pt fun h' he hit hk => wpAny_pyIter_enum he ?_
  have J2 : Inv X pins σ H1 { s1 with heap := h' } := I1.kept (t' := s1.toks) hk
  refine ⟨s1.heap.objs.size + 1, [s1.heap.objs.size + 1, s1.heap.objs.size], _, _, H1, rfl, J2, turn_enumT a (s1.heap.objs.size + 1) s1.heap.objs.size, ⟨⟨.none, he⟩, ⟨_, hit, rfl, rfl⟩, Nat.succ_ne_self _, Nat.ne_of_lt al, Nat.ne_of_lt (Nat.lt_succ_of_lt al)⟩, fun b hb => ?_, q⟩
  have hle : s1.heap.objs.size ≤ b := by rcases (show b = s1.heap.objs.size + 1 ∨ b = s1.heap.objs.size by simpa using hb) with rfl | rfl <;> omega
  exact I1.fpOk hle (I1.hok.fresh hle)
end Ow

/-! t[::-1], t a tuple -/
namespace Ow
open PySem PySem.Spec PyProof.Rows L2
theorem rev_adj (n : Nat) : Builtin.Slice.sliceAdjust none none (-1) (n : Int) = ((n : Int) - 1, -1) := rfl
theorem rev_places (n : Nat) : Builtin.Slice.slicePlaces ((n : Int) - 1) (-1) (-1) = n := by
  unfold Builtin.Slice.slicePlaces
  rw [if_neg (by decide)]
  split
  · rw [show (- -1 : Int) = 1 by decide, Int.ediv_one]
    omega
  · omega
theorem rev_pick (xs : Array Value) : ((List.range xs.size).filterMap fun (k : Nat) => xs[((xs.size : Int) - 1 + (k : Int) * -1).toNat]?).toArray = xs.toList.reverse.toArray := by
  have e : ((List.range xs.size).filterMap fun (k : Nat) => xs[((xs.size : Int) - 1 + (k : Int) * -1).toNat]?) = ((List.range xs.size).map fun k => xs.size - 1 - k).filterMap (xs[·]?) := by
    rw [List.filterMap_map]
    have : ∀ l : List Nat, (∀ k ∈ l, k < xs.size) → (l.filterMap fun (k : Nat) => xs[((xs.size : Int) - 1 + (k : Int) * -1).toNat]?) = l.filterMap ((xs[·]?) ∘ fun k => xs.size - 1 - k) := by
      intro l
      induction l with
      | nil => intro _; rfl
      | cons k l ih =>
        intro h
        have hk := h k List.mem_cons_self
        rw [List.filterMap_cons, List.filterMap_cons, ih fun j m => h j (List.mem_cons_of_mem _ m)]
        have : ((xs.size : Int) - 1 + (k : Int) * -1).toNat = xs.size - 1 - k := by omega
        rw [this]
        rfl
    exact this _ fun k m => List.mem_range.mp m
  rw [e, PySem.W.krv_range, List.filterMap_reverse, PySem.W.krv_all]
section
variable {prog : Program} {w : World} {A : Around} {E : Value → Shared → Prop} {s : Shared}
theorem rev_applied {sl : Addr} {vs : Value} {n : Nat} {Q : Int × Int × Nat → Shared → Prop} (hs : s.heap.IsSliceOf sl .none .none vs) (ps : IsPart vs (some (-1))) (h : Q ((n : Int) - 1, -1, n) s) : wpAny (model prog w) A (Builtin.Slice.sliceApplied (.ref sl) (pure (n : Int))) Q E s := by
  obtain ⟨os, hos, _, hds⟩ := id hs
  unfold Builtin.Slice.sliceApplied Builtin.Slice.sliceFields
  have f0 {Q' : Value → Shared → Prop} (q : Q' .none s) : wpAny (model prog w) A (field (.ref sl) 0) Q' E s := wpAny_field hos hds (x := .none) rfl q
  have f1 {Q' : Value → Shared → Prop} (q : Q' .none s) : wpAny (model prog w) A (field (.ref sl) 1) Q' E s := wpAny_field hos hds (x := .none) rfl q
  have f2 {Q' : Value → Shared → Prop} (q : Q' vs s) : wpAny (model prog w) A (field (.ref sl) 2) Q' E s := wpAny_field hos hds (x := vs) rfl q
  refine wpAny_bind (wpAny_bind (f0 (wpAny_bind (f1 (wpAny_bind (f2 (wpAny_pure ?_)))))))
  refine wpAny_bind (HT.slicePart_ ps ?_)
  show wpAny _ _ (if ((-1 : Int) == 0) = true then _ else _) _ _ s
  rw [if_neg (show ¬ ((-1 : Int) == 0) = true by decide)]
  refine wpAny_bind (slicePart_none (wpAny_bind (slicePart_none (wpAny_bind (wpAny_pure ?_)))))
  show wpAny _ _ (match Builtin.Slice.sliceAdjust none none (-1) (n : Int) with | (lo, hi) => pure (lo, (-1 : Int), Builtin.Slice.slicePlaces lo hi (-1))) _ _ s
  rw [rev_adj]
  show wpAny _ _ (pure ((n : Int) - 1, (-1 : Int), Builtin.Slice.slicePlaces ((n : Int) - 1) (-1) (-1))) _ _ s
  rw [rev_places]
  exact wpAny_pure h
theorem get_rev {t sl : Addr} {items : Array Value} {vs : Value} {Q : Value → Shared → Prop} (ht : IsTup s.heap t items) (hs : s.heap.IsSliceOf sl .none .none vs) (ps : IsPart vs (some (-1)))
    (h : Q (.ref s.heap.objs.size) { s with heap := s.heap.push { cls := .type "tuple", data := .seq items.toList.reverse.toArray } }) (hsz : items.size ≤ sizeLine) : wpAny (model prog w) A (getItem (.ref t) (.ref sl)) Q E s := by
  have fit : sizeOk (.seq items.toList.reverse.toArray) := show items.toList.reverse.toArray.size ≤ sizeLine by simpa using hsz
  have ty : s.TypeIs (.ref sl) "slice" := hs.elim fun os q => ⟨os, q.1, q.2.1⟩
  unfold getItem
  try with_reducible refine wpAny_holding ?_
  first | refine wpAny_bind (wpAny_pure ?_) | skip
  refine wpAny_bind (wpAny_sequenceKey ht.typeIs (by decide) (wpAny_bind (wpAny_callSpecial?_slot (name := Str.ofString "__getitem__") ht.typeIs PyProof.Rows.slot_tuple_getitem (wpAny_call_entry PyProof.Rows.slot_tuple_getitem ht.typeIs entry_tuple_getitem ?_ (args_tuple_getitem _ _)))))
  show wpAny _ _ (Builtin.Tuple.tupleItemsOf (.ref t) >>= _) _ _ s
  refine wpAny_bind (tupleItemsOf_ ht (wpAny_bind (wpAny_typeOf ty ?_)))
  rw [if_pos (show (Value.type "slice" == Value.type "slice") = true by decide)]
  refine wpAny_bind (rev_applied hs ps ?_)
  have no : ¬ ((((items.size : Int) - 1) == 0 && (-1 : Int) == 1 && items.size == items.size) = true) := by
    rw [show ((-1 : Int) == 1) = false by decide, Bool.and_false, Bool.false_and]
    exact Bool.false_ne_true
  show wpAny _ _ (if ((((items.size : Int) - 1) == 0 && (-1 : Int) == 1 && items.size == items.size) = true) then _ else _) _ _ s
  rw [if_neg no, rev_pick]
  first
    | exact wpAny_bind (m := Builtin.Tuple.tupleExact _) (wpAny_newObj_type (wpAny_pure ⟨_, rfl, wpAny_pure h⟩) fit)
    | exact wpAny_bind (m := Builtin.Tuple.tupleExact _) (wpAny_newObj_type (wpAny_bind (wpAny_pure (wpAny_pure ⟨_, rfl, wpAny_pure h⟩))) fit)
end
def tRevT (K : PySem.W.Frag) (te : TE) : TE := fun σ H Q => te σ H fun x H1 => ∃ a xs, x = .ref a ∧ SqT K H1 a xs ∧ ∀ p, H1 p = none → Q (.ref p) (upd H1 p (.tup xs.reverse))
theorem pe_revT {X : Cx} {e : Expr} {te : TE} {k : Nat} {p1 p2 p3 pos : Pos} (he : PE X e te) : PE X (.Subscript e (.Slice none none (some (.UnaryOp .USub (.Constant (.int 1) k p1) p2)) p3) pos) (tRevT X.K te) := by
  refine ⟨fun pins s σ H Q I h => Subscript_ (thn (he.run pins s σ H _ I h) fun v s1 ⟨x, H1, I1, r1, a, xs, ex, hx, q⟩ => ?_)⟩
  subst ex
  cases r1
  have st : PO X (some (.UnaryOp .USub (.Constant (.int 1) k p1) p2)) (tPart (tUn (rU fun i => .int (-i)) (tC (.int 1)))) := po_some (pe_un un_neg pe_int)
  refine wpAny_Slice (thn (po_none.run pins s1 σ H1 (fun o H2 => o = none ∧ H2 = H1) I1 ⟨rfl, rfl⟩) fun vl s2 ⟨l, H2, I2, pl, z1, z2⟩ => ?_)
  subst z1 z2
  refine thn (po_none.run pins s2 σ H2 (fun o H3 => o = none ∧ H3 = H2) I2 ⟨rfl, rfl⟩) fun vu s3 ⟨u, H3, I3, pu, z3, z4⟩ => ?_
  subst z3 z4
  refine thn (st.run pins s3 σ H3 (fun o H4 => o = some (-1) ∧ H4 = H3) I3 ⟨1, rfl, -1, rfl, rfl, rfl⟩) fun vs s4 ⟨o, H4, I4, ps, z5, z6⟩ => ?_
  subst z5 z6
  have nl : vl = .none := by cases pl; rfl
  have nu : vu = .none := by cases pu; rfl
  subst nl nu
  have I5 : Inv X pins σ H4 { s4 with heap := s4.heap.push { cls := .type "slice", data := .fields #[.none, .none, vs] } } := I4.kept (t' := s4.toks) fun b ob q => Heap.get?_push_of_some _ q
  obtain ⟨its, r, ht, hz⟩ := I5.tuple hx
  have hlen := r.length
  show wpAny _ _ (subscriptTail e (.Slice none none (some (.UnaryOp .USub (.Constant (.int 1) k p1) p2)) p3) (.ref a) (.ref s4.heap.objs.size)) _ _ _
  refine tail_any (ops := [.ref a, .ref s4.heap.objs.size]) ht.typeIs (PyProof.Rows.slot_tuple_getitem.lookup) ?_ (by with_unfolding_all rfl)
  refine get_rev ht (Heap.IsSliceOf.new _ .none .none vs) ps ?_ (by rw [List.size_toArray]; omega)
  refine ⟨.ref _, _, I5.laid (t' := s4.toks) (o := .tup xs.reverse) (fun b ob q => Heap.get?_push_of_some _ q) (Nat.le_refl _) ?_, rfl, q _ (I5.hok.fresh (Nat.le_refl _))⟩
  exact ⟨by rw [List.length_reverse]; exact hz, its.reverse, r.reverse, IsTup.new _ _⟩
end Ow

namespace Ow
open PySem PySem.Spec PyProof.Rows L2
section
variable {X : Cx} {CX : CXT} {C f : Addr} {n : Nat} {fd : FuncData} {ps : List Str} {sp : Sp} {E : XK}
/-- the truth of an instance, by its own __bool__ -/
def rTruO (C : Addr) (sp : Sp) (E : XK) : V → Hp → (Bool → Hp → Prop) → Prop := fun x H Q => ∃ a dx fs, x = .ref a ∧ H a = some (.ins C dx fs) ∧ sp [.ref a] H (fun z H' => ∃ k, z = .bl k ∧ Q k H') E
theorem tru_own (om : OM X.K C "__bool__" f) (F : FnOk X.prog X.w X.K X.mg X.base CX n f fd ps sp) (hr : Room n X.A) (hb : Binds X.K fd ps []) (hx : Passes CX X E) : TruR X (rTruO C sp E) := by
  intro pins s σ H x v Q I r h
  obtain ⟨a, dx, fs, rfl, ha, q⟩ := h
  cases r
  obtain ⟨mA, J, _⟩ := ins_get I.hok ha
  obtain ⟨od, J, _⟩ := J.look
  obtain ⟨m, hF⟩ := I.fr
  refine PySem.W.truthy_K hF I.ok.mod.kin J om.at_ om.fn (wpAny_mono (run_in (us := [.ref a]) (ws := [.ref a]) F hr I.env0 hb hx I (.cons rfl .nil) q) (fun w s' ⟨z, H', I', rz, k, ez, qz⟩ => ?_) fun _ _ e => e)
  subst ez
  obtain rfl : w = .bool k := rz
  exact ⟨H', I', qz⟩
/-- len(x) by an own __len__ -/
def rLenO (C : Addr) (sp : Sp) (E : XK) : List V → Hp → VK → Prop := fun xs H Q => ∃ a dx fs, xs = [.ref a] ∧ H a = some (.ins C dx fs) ∧ sp [.ref a] H (fun z H' => ∃ k : Int, z = .int k ∧ 0 ≤ k ∧ k < 2 ^ 63 ∧ Q (.int k) H') E
theorem call_lenO (om : OM X.K C "__len__" f) (F : FnOk X.prog X.w X.K X.mg X.base CX n f fd ps sp) (hr : Room (n + 1) X.A) (hb : Binds X.K fd ps []) (hx : Passes CX X E) : CallR X (.builtin "len") (rLenO C sp E) := by
  intro pins s σ H xs us Q I r h
  obtain ⟨a, dx, fs, rfl, ha, q⟩ := h
  obtain ⟨u, rfl, ru⟩ := vals1 r
  cases ru
  obtain ⟨mA, J, _⟩ := ins_get I.hok ha
  obtain ⟨od, J, _⟩ := J.look
  obtain ⟨m, hF⟩ := I.fr
  refine PySem.W.len_K hF I.ok.mod.kin J om.at_ om.fn (wpAny_mono (run_in (us := [.ref a]) (ws := [.ref a]) F hr.in1 I.env0.in1 hb hx I (.cons rfl .nil) q) (fun w s' ⟨z, H', I', rz, k, ez, k0, k1, qz⟩ => ?_) fun _ _ e => e)
  subst ez
  obtain ⟨t, rfl⟩ := rz
  exact ⟨⟨k0, k1⟩, .int k, H', I'.tok _, ⟨_, rfl⟩, qz⟩
end
/-- enumerate of a tuple as a walk -/
theorem walk_enumT {K : PySem.W.Frag} {a : Addr} {xs : List V} : Walk (IteT K a) xs.length (fun H => SqT K H a xs) (YPair (fun i => some (.int (i : Nat))) (fun i => xs[i]?)) :=
  ⟨fun i _ hi q => ⟨xs, xs[i], q, by simp [hi]⟩, fun _ q => ⟨xs, q, Nat.le_refl _⟩, fun i _ _ _ _ q ⟨T, x, e1, e2, e3, e4⟩ => ⟨T, _, x, e1, e2, e3, rfl, e4 xs q⟩⟩
end Ow
namespace Ow
open PySem PySem.Spec PyProof.Rows L2
/-- o.f as one of several targets -/
def gFld (K : PySem.W.Frag) (to : TE) (f : Str) : TG := fun y σ H Q => to σ H fun x H1 => ∃ a C dx fs, x = .ref a ∧ H1 a = some (.ins C dx fs) ∧ Cls K C ∧ NoAttr K C f ∧ fs.length < 1000 ∧ Q σ (upd H1 a (.ins C dx (putF f y fs)))
theorem pg_fld {X : Cx} {o : Expr} {to : TE} {f : Str} {pos : Pos} (ho : PE X o to) : PG X (.Attribute o f pos) (gFld X.K to f) := by
  refine ⟨fun pins s σ H v u Q I ru h => ?_⟩
  rw [assign_Attribute]
  refine wpAny_bind (wpAny_holding (thn (ho.run pins s σ H _ I h) fun w s1 ⟨x, H1, I1, rx, a, C, dx, fs, ex, ea, c, nn, l, q⟩ => ?_))
  subst ex
  obtain rfl : w = Value.ref a := rx
  refine wpAny_bind (wpAny_standAt (wpAny_bind (wpAny_holding (setattr_ok I1 ea c nn l ru fun s3 I3 => ?_))))
  exact wpAny_release ⟨σ, _, I3, q⟩
end Ow
namespace Ow
open PySem L2
/-- the truth of the i-th slot's value, by a name -/
def tTru (K : PySem.W.Frag) (i : Nat) : TT := fun σ H Q => tVar i σ H fun x H1 => ∃ k, TruV K x H1 k ∧ Q k H1
end Ow
namespace Ow
open PySem PySem.Spec PyProof.Rows L2
/-- bool(a tuple) -/
theorem boolT_new (l : Addr) (its : Array Value) (hz : (its.size : Int) < 2 ^ 63) : Meets (Builtin.«bool.__new__» ⟨[.type "bool", .ref l], []⟩) (fun _ R s => IsTup s.heap l its ∧ R (.ok (.ret (.bool (!its.isEmpty)))) { s with toks := s.toks + 1 + 1 }) := .of_wp fun prog w A R s hs => by
  obtain ⟨ht, hs⟩ := hs
  obtain ⟨hp, g, d, tk, os⟩ := s
  have sb := PySem.F.conv_sub_bool
  repeat (any_goals (first | assumption | with_reducible refine truthy_tuple ht hz ?_ | wp_step))
  all_goals first | exact ⟨_, rfl, hs⟩ | exact hs
theorem call_boolT {X : Cx} : CallR X (.type "bool") (fun xs H Q => ∃ (a : Addr) (zs : List V), xs = [.ref a] ∧ SqT X.K H a zs ∧ Q (.bl (!zs.isEmpty)) H) := by
  intro pins s σ H xs us Q I r h
  obtain ⟨a, zs, rfl, hq, q⟩ := h
  obtain ⟨u, rfl, ru⟩ := vals1 r
  cases ru
  obtain ⟨its, rv, pt, hz⟩ := I.tuple hq
  have hl := rv.length
  have h63 := line63
  refine call_bool_1 (boolT_new a its.toArray (by simp only [List.size_toArray]; omega)) ⟨pt, rfl, .bl (!zs.isEmpty), H, I.tok _, ?_, q⟩
  rw [isEmpty_of rv]
  rfl
end Ow

namespace Gd
/-- t + p√5 above 0, by the norm -/
def Pos (t p : Int) : Prop := (5 * (p * p) < t * t ∧ 0 < t) ∨ (t * t < 5 * (p * p) ∧ 0 < p)
theorem sq_nonneg (x : Int) : 0 ≤ x * x := by
  rcases Int.le_total 0 x with h | h
  · exact Int.mul_nonneg h h
  · exact Int.mul_nonneg_of_nonpos_of_nonpos h h
theorem irr_aux : ∀ (n : Nat) (t p : Int), t.natAbs ≤ n → t * t = 5 * (p * p) → t = 0 ∧ p = 0 := by
  intro n
  induction n with
  | zero =>
    intro t p h e
    have ht : t = 0 := by omega
    subst ht
    refine ⟨rfl, ?_⟩
    have : p * p = 0 := by omega
    rcases Int.mul_eq_zero.mp this with h | h <;> exact h
  | succ n ih =>
    intro t p h e
    have h5 : t % 5 = 0 := by
      have hm : (t * t) % 5 = 0 := by omega
      rw [Int.mul_emod] at hm
      have h0 := Int.emod_nonneg t (show (5 : Int) ≠ 0 by decide)
      have h1 := Int.emod_lt_of_pos t (show (0 : Int) < 5 by decide)
      generalize t % 5 = r at *
      have : r = 0 ∨ r = 1 ∨ r = 2 ∨ r = 3 ∨ r = 4 := by omega
      rcases this with rfl | rfl | rfl | rfl | rfl <;> simp_all
    obtain ⟨k, hk⟩ : ∃ k, t = 5 * k := ⟨t / 5, by omega⟩
    subst hk
    have e2 : p * p = 5 * (k * k) := by
      have : 5 * k * (5 * k) = 25 * (k * k) := by grind
      omega
    by_cases hk0 : k = 0
    · subst hk0
      have : p * p = 0 := by omega
      rcases Int.mul_eq_zero.mp this with h | h <;> exact ⟨by omega, h⟩
    · have hp : p.natAbs ≤ n := by
        have hlt : p.natAbs < (5 * k).natAbs := by
          rcases Nat.lt_or_ge p.natAbs (5 * k).natAbs with h' | h'
          · exact h'
          · have h2 : (5 * k).natAbs * (5 * k).natAbs ≤ p.natAbs * p.natAbs := Nat.mul_le_mul h' h'
            rw [← Int.natAbs_mul, ← Int.natAbs_mul] at h2
            have e3 : 5 * k * (5 * k) = 25 * (k * k) := by grind
            rw [e3, e2] at h2
            have h3 : 0 < k * k := by
              rcases Int.lt_or_gt_of_ne hk0 with h | h
              · exact Int.mul_pos_of_neg_of_neg h h
              · exact Int.mul_pos h h
            omega
        omega
      obtain ⟨a, b⟩ := ih p k hp e2
      exact ⟨by omega, a⟩
theorem irr {t p : Int} (e : t * t = 5 * (p * p)) : t = 0 ∧ p = 0 := irr_aux _ t p (Nat.le_refl _) e
theorem sum_pos {u v : Int} (hu : 0 < u) (h : v * v < u * u) : 0 < u + v := by
  rcases Int.lt_or_le 0 (u + v) with h' | h'
  · exact h'
  · exfalso
    have h1 : u ≤ -v := by omega
    have : u * u ≤ -v * -v := Int.mul_le_mul h1 h1 (by omega) (by omega)
    have e : -v * -v = v * v := by grind
    omega
theorem mul_lt4 {a b c d : Int} (hb : 0 ≤ b) (h1 : b < a) (hd : 0 ≤ d) (h2 : d < c) : b * d < a * c := by
  have h3 : b * d ≤ b * c := Int.mul_le_mul_of_nonneg_left (by omega) hb
  have h4 : b * c < a * c := Int.mul_lt_mul_of_pos_right h1 (by omega)
  omega
theorem pos_mul {t p u q T P : Int} (hT : 2 * T = t * u + 5 * (p * q)) (hP : 2 * P = t * q + u * p) (h1 : Pos t p) (h2 : Pos u q) : Pos T P := by
  have hN : 4 * (T * T) - 20 * (P * P) = (t * t - 5 * (p * p)) * (u * u - 5 * (q * q)) := by
    have e1 : 4 * (T * T) = (2 * T) * (2 * T) := by grind
    have e2 : 20 * (P * P) = 5 * ((2 * P) * (2 * P)) := by grind
    rw [e1, e2, hT, hP]
    grind
  have p0 := sq_nonneg p
  have q0 := sq_nonneg q
  have t0 := sq_nonneg t
  have u0 := sq_nonneg u
  rcases h1 with ⟨a1, b1⟩ | ⟨a1, b1⟩ <;> rcases h2 with ⟨a2, b2⟩ | ⟨a2, b2⟩
  · refine .inl ⟨?_, ?_⟩
    · have : 0 < (t * t - 5 * (p * p)) * (u * u - 5 * (q * q)) := Int.mul_pos (by omega) (by omega)
      omega
    · have k := mul_lt4 (a := t * t) (b := 5 * (p * p)) (c := u * u) (d := 5 * (q * q)) (by omega) a1 (by omega) a2
      have := sum_pos (u := t * u) (v := 5 * (p * q)) (Int.mul_pos b1 b2) (by grind)
      omega
  · refine .inr ⟨?_, ?_⟩
    · have : (t * t - 5 * (p * p)) * (u * u - 5 * (q * q)) < 0 := Int.mul_neg_of_pos_of_neg (by omega) (by omega)
      omega
    · have k := mul_lt4 (a := t * t) (b := 5 * (p * p)) (c := 5 * (q * q)) (d := u * u) (by omega) a1 (by omega) a2
      have := sum_pos (u := t * q) (v := u * p) (Int.mul_pos b1 b2) (by grind)
      omega
  · refine .inr ⟨?_, ?_⟩
    · have : (t * t - 5 * (p * p)) * (u * u - 5 * (q * q)) < 0 := Int.mul_neg_of_neg_of_pos (by omega) (by omega)
      omega
    · have k := mul_lt4 (a := 5 * (p * p)) (b := t * t) (c := u * u) (d := 5 * (q * q)) (by omega) a1 (by omega) a2
      have := sum_pos (u := u * p) (v := t * q) (Int.mul_pos b2 b1) (by grind)
      omega
  · refine .inl ⟨?_, ?_⟩
    · have : 0 < (t * t - 5 * (p * p)) * (u * u - 5 * (q * q)) := Int.mul_pos_of_neg_of_neg (by omega) (by omega)
      omega
    · have k := mul_lt4 (a := 5 * (p * p)) (b := t * t) (c := 5 * (q * q)) (d := u * u) (by omega) a1 (by omega) a2
      have hpq : 0 < 5 * (p * q) := by
        have := Int.mul_pos b1 b2
        omega
      have := sum_pos (u := 5 * (p * q)) (v := t * u) hpq (by grind)
      omega
theorem pos_not_neg {t p : Int} (h : Pos t p) : ¬ Pos (-t) (-p) := by
  have e1 : -t * -t = t * t := by grind
  have e2 : -p * -p = p * p := by grind
  unfold Pos at *
  rw [e1, e2]
  omega
theorem pos_tri (t p : Int) : Pos t p ∨ Pos (-t) (-p) ∨ (t = 0 ∧ p = 0) := by
  have e1 : -t * -t = t * t := by grind
  have e2 : -p * -p = p * p := by grind
  unfold Pos
  rw [e1, e2]
  have p0 := sq_nonneg p
  have t0 := sq_nonneg t
  rcases Int.lt_trichotomy (t * t) (5 * (p * p)) with h | h | h
  · have : p ≠ 0 := by rintro rfl; omega
    omega
  · exact .inr (.inr (irr h))
  · have : t ≠ 0 := by rintro rfl; omega
    omega
theorem pos_zero : ¬ Pos 0 0 := by unfold Pos; omega
/-- the sign -/
noncomputable def sg (t p : Int) : Int := open Classical in if Pos t p then 1 else if Pos (-t) (-p) then -1 else 0
theorem sg_pos {t p : Int} (h : Pos t p) : sg t p = 1 := by unfold sg; rw [if_pos h]
theorem sg_neg {t p : Int} (h : Pos (-t) (-p)) : sg t p = -1 := by
  unfold sg
  rw [if_neg (fun h' => pos_not_neg h' h), if_pos h]
theorem sg_zero : sg 0 0 = 0 := by
  unfold sg
  rw [if_neg pos_zero, if_neg (by simpa using pos_zero)]
theorem sg_eq_zero {t p : Int} (h : sg t p = 0) : t = 0 ∧ p = 0 := by
  rcases pos_tri t p with h' | h' | h'
  · rw [sg_pos h'] at h; omega
  · rw [sg_neg h'] at h; omega
  · exact h'
theorem sg_cases (t p : Int) : (sg t p = 1 ∧ Pos t p) ∨ (sg t p = -1 ∧ Pos (-t) (-p)) ∨ (sg t p = 0 ∧ t = 0 ∧ p = 0) := by
  rcases pos_tri t p with h | h | ⟨rfl, rfl⟩
  · exact .inl ⟨sg_pos h, h⟩
  · exact .inr (.inl ⟨sg_neg h, h⟩)
  · exact .inr (.inr ⟨sg_zero, rfl, rfl⟩)
theorem sg_opp (t p : Int) : sg (-t) (-p) = - sg t p := by
  rcases sg_cases t p with ⟨e, h⟩ | ⟨e, h⟩ | ⟨e, rfl, rfl⟩
  · rw [e, sg_neg (by simpa using h)]
  · rw [e, sg_pos h]; rfl
  · simp [sg_zero]
theorem sg_mul {t p u q T P : Int} (hT : 2 * T = t * u + 5 * (p * q)) (hP : 2 * P = t * q + u * p) : sg T P = sg t p * sg u q := by
  rcases sg_cases t p with ⟨e, h⟩ | ⟨e, h⟩ | ⟨e, rfl, rfl⟩ <;> rcases sg_cases u q with ⟨e', h'⟩ | ⟨e', h'⟩ | ⟨e', rfl, rfl⟩
  all_goals (try rw [e]); (try rw [e'])
  · exact sg_pos (pos_mul hT hP h h')
  · exact sg_neg (pos_mul (T := -T) (P := -P) (by grind) (by grind) h h')
  · obtain rfl : T = 0 := by grind
    obtain rfl : P = 0 := by grind
    exact sg_zero
  · exact sg_neg (pos_mul (T := -T) (P := -P) (by grind) (by grind) h h')
  · exact sg_pos (pos_mul (T := T) (P := P) (by grind) (by grind) h h')
  · obtain rfl : T = 0 := by grind
    obtain rfl : P = 0 := by grind
    exact sg_zero
  · obtain rfl : T = 0 := by grind
    obtain rfl : P = 0 := by grind
    exact sg_zero
  · obtain rfl : T = 0 := by grind
    obtain rfl : P = 0 := by grind
    exact sg_zero
  · obtain rfl : T = 0 := by grind
    obtain rfl : P = 0 := by grind
    exact sg_zero
/-- the sign of whole + part s -/
noncomputable def gs (a b : Int) : Int := sg (2 * a + b) b
theorem gs_opp (a b : Int) : gs (-a) (-b) = - gs a b := by
  unfold gs
  rw [← sg_opp]
  congr 1
  omega
theorem gs_mul (a b c d : Int) : gs (a * c + b * d) (a * d + b * c + b * d) = gs a b * gs c d := by
  unfold gs
  exact sg_mul (by grind) (by grind)
theorem gs_zero {a b : Int} (h : gs a b = 0) : a = 0 ∧ b = 0 := by
  have := sg_eq_zero h
  omega
theorem gs_00 : gs 0 0 = 0 := sg_zero
theorem gs_val (a b : Int) : gs a b = 1 ∨ gs a b = -1 ∨ gs a b = 0 := by
  rcases sg_cases (2 * a + b) b with ⟨e, _⟩ | ⟨e, _⟩ | ⟨e, _⟩
  · exact .inl e
  · exact .inr (.inl e)
  · exact .inr (.inr e)
theorem gs_sq (a b : Int) : gs (a * a + b * b) (a * b + b * a + b * b) = if a = 0 ∧ b = 0 then 0 else 1 := by
  rw [gs_mul]
  split
  · rename_i h
    rw [h.1, h.2, gs_00]; rfl
  · rename_i h
    rcases gs_val a b with e | e | e
    · rw [e]; rfl
    · rw [e]; rfl
    · exact absurd (gs_zero e) h
/-- the four ways of the program's sense_of -/
theorem gs_0 {a b : Int} (h1 : 2 * a + b = 0) (h2 : b = 0) : gs a b = 0 := by
  obtain rfl : b = 0 := h2
  obtain rfl : a = 0 := by omega
  exact gs_00
theorem gs_ge {a b : Int} (h : ¬ (2 * a + b = 0 ∧ b = 0)) (h1 : 0 ≤ 2 * a + b) (h2 : 0 ≤ b) : gs a b = 1 := by
  rcases sg_cases (2 * a + b) b with ⟨e, _⟩ | ⟨e, x⟩ | ⟨e, x⟩
  · exact e
  · unfold Pos at x; omega
  · exact absurd x h
theorem gs_le {a b : Int} (h : ¬ (2 * a + b = 0 ∧ b = 0)) (h1 : 2 * a + b ≤ 0) (h2 : b ≤ 0) : gs a b = -1 := by
  rcases sg_cases (2 * a + b) b with ⟨e, x⟩ | ⟨e, x⟩ | ⟨e, x⟩
  · unfold Pos at x; omega
  · exact e
  · exact absurd x h
theorem gs_mix {a b : Int} (h : ¬ (2 * a + b = 0 ∧ b = 0)) (h1 : ¬ (0 ≤ 2 * a + b ∧ 0 ≤ b)) (h2 : ¬ (2 * a + b ≤ 0 ∧ b ≤ 0)) :
    gs a b = if (decide ((2 * a + b) * (2 * a + b) > 5 * b * b) == decide (2 * a + b > 0)) = true then 1 else -1 := by
  have e5 : 5 * b * b = 5 * (b * b) := Int.mul_assoc _ _ _
  rw [e5]
  have hn : (2 * a + b) * (2 * a + b) ≠ 5 * (b * b) := fun q => h (irr q)
  have ee : -(2 * a + b) * -(2 * a + b) = (2 * a + b) * (2 * a + b) := by grind
  have eb : -b * -b = b * b := by grind
  rcases sg_cases (2 * a + b) b with ⟨e, x⟩ | ⟨e, x⟩ | ⟨e, x⟩
  · unfold gs
    rw [e]
    unfold Pos at x
    rw [if_pos]
    by_cases hg : 2 * a + b > 0 <;> by_cases hh : (2 * a + b) * (2 * a + b) > 5 * (b * b) <;> simp [hg, hh] <;> omega
  · unfold gs
    rw [e]
    unfold Pos at x
    rw [ee, eb] at x
    rw [if_neg]
    by_cases hg : 2 * a + b > 0 <;> by_cases hh : (2 * a + b) * (2 * a + b) > 5 * (b * b) <;> simp [hg, hh] <;> omega
  · exact absurd x h
/-- the law's own, by a root r of 5 b b -/
theorem sq_le {x y : Int} (h0 : 0 ≤ x) (h : x ≤ y) : x * x ≤ y * y := Int.mul_le_mul h h h0 (by omega)
theorem gs_root_pos {a b r : Int} (hb : 0 < b) (h0 : 0 ≤ r) (h1 : r * r ≤ 5 * b * b) (h2 : 5 * b * b < (r + 1) * (r + 1)) : gs a b = if 2 * a + b ≥ 0 - r then 1 else -1 := by
  rw [Int.mul_assoc] at h1 h2
  have hn : (2 * a + b) * (2 * a + b) ≠ 5 * (b * b) := fun q => by have := (irr q).2; omega
  have ee : -(2 * a + b) * -(2 * a + b) = (2 * a + b) * (2 * a + b) := by grind
  split
  · rename_i h
    unfold gs
    refine sg_pos ?_
    unfold Pos
    by_cases hp : 0 < 2 * a + b
    · rcases Int.lt_or_gt_of_ne hn with h' | h'
      · exact .inr ⟨h', hb⟩
      · exact .inl ⟨h', hp⟩
    · have := sq_le (x := -(2 * a + b)) (y := r) (by omega) (by omega)
      rw [ee] at this
      exact .inr ⟨by omega, hb⟩
  · rename_i h
    unfold gs
    refine sg_neg (.inl ⟨?_, by omega⟩)
    have := sq_le (x := r + 1) (y := -(2 * a + b)) (by omega) (by omega)
    have eb : -b * -b = b * b := by grind
    rw [eb]
    omega
theorem gs_root_neg {a b r : Int} (hb : b < 0) (h0 : 0 ≤ r) (h1 : r * r ≤ 5 * b * b) (h2 : 5 * b * b < (r + 1) * (r + 1)) : gs a b = if 2 * a + b > r then 1 else -1 := by
  rw [Int.mul_assoc] at h1 h2
  have hn : (2 * a + b) * (2 * a + b) ≠ 5 * (b * b) := fun q => by have := (irr q).2; omega
  have ee : -(2 * a + b) * -(2 * a + b) = (2 * a + b) * (2 * a + b) := by grind
  have eb : -b * -b = b * b := by grind
  split
  · rename_i h
    unfold gs
    have := sq_le (x := r + 1) (y := (2 * a + b)) (by omega) (by omega)
    exact sg_pos (.inl ⟨by omega, by omega⟩)
  · rename_i h
    unfold gs
    refine sg_neg ?_
    unfold Pos
    rw [ee, eb]
    by_cases hp : 0 < 2 * a + b
    · have := sq_le (x := (2 * a + b)) (y := r) (by omega) (by omega)
      exact .inr ⟨by omega, by omega⟩
    · rcases Int.lt_or_gt_of_ne hn with h' | h'
      · exact .inr ⟨h', by omega⟩
      · refine .inl ⟨h', ?_⟩
        have : 2 * a + b ≠ 0 := fun q => by rw [q] at h'; have := sq_nonneg b; omega
        omega
theorem gs_part0 (a : Int) : gs a 0 = (if 0 < a then 1 else 0) - (if a < 0 then 1 else 0) := by
  rcases Int.lt_trichotomy 0 a with h | h | h
  · rw [gs_ge (by omega) (by omega) (by omega), if_pos h, if_neg (by omega)]; rfl
  · subst h; rw [gs_00]; rfl
  · rw [gs_le (by omega) (by omega) (by omega), if_neg (by omega), if_pos h]; rfl
theorem norm_mul (a b c d : Int) : (a * c + b * d) * (a * c + b * d) + (a * c + b * d) * (a * d + b * c + b * d) - (a * d + b * c + b * d) * (a * d + b * c + b * d)
    = (a * a + a * b - b * b) * (c * c + c * d - d * d) := by grind
/-- the same by tests, for the walk -/
def gsI (a b : Int) : Int := if 2 * a + b = 0 ∧ b = 0 then 0 else if 0 ≤ 2 * a + b ∧ 0 ≤ b then 1 else if 2 * a + b ≤ 0 ∧ b ≤ 0 then -1
  else if (decide ((2 * a + b) * (2 * a + b) > 5 * b * b) == decide (2 * a + b > 0)) = true then 1 else -1
theorem gsI_eq (a b : Int) : gsI a b = gs a b := by
  unfold gsI
  split
  · rename_i h; exact (gs_0 h.1 h.2).symm
  · rename_i h
    split
    · rename_i h1; exact (gs_ge h h1.1 h1.2).symm
    · rename_i h1
      split
      · rename_i h2; exact (gs_le h h2.1 h2.2).symm
      · rename_i h2; exact (gs_mix h h1 h2).symm
end Gd
namespace Gd
theorem gsI_self (a b : Int) : gsI (a - a) (b - b) = 0 := by
  rw [Int.sub_self, Int.sub_self]; rfl
theorem cnt3 (a b c d : Int) : ([decide (0 < gsI (c - a) (d - b)), decide (0 < gsI (a - c) (b - d)), decide (a = c) && decide (b = d)].count true) = 1 := by
  have e : gsI (a - c) (b - d) = - gsI (c - a) (d - b) := by
    rw [gsI_eq, gsI_eq, ← gs_opp]
    congr 1 <;> omega
  rw [e, gsI_eq]
  rcases gs_val (c - a) (d - b) with h | h | h
  · have : ¬ (a = c ∧ b = d) := by
      rintro ⟨rfl, rfl⟩
      rw [Int.sub_self, Int.sub_self, gs_00] at h
      omega
    rw [h, ← Bool.decide_and, decide_eq_false this]
    decide
  · have : ¬ (a = c ∧ b = d) := by
      rintro ⟨rfl, rfl⟩
      rw [Int.sub_self, Int.sub_self, gs_00] at h
      omega
    rw [h, ← Bool.decide_and, decide_eq_false this]
    decide
  · have z := gs_zero h
    have : (a = c ∧ b = d) := by omega
    rw [h, ← Bool.decide_and, decide_eq_true this]
    decide
theorem less_sq (a b c d e f : Int) : decide (0 < gsI (c * (e * e + f * f) + d * (e * f + f * e + f * f) - (a * (e * e + f * f) + b * (e * f + f * e + f * f)))
    (c * (e * f + f * e + f * f) + d * (e * e + f * f) + d * (e * f + f * e + f * f) - (a * (e * f + f * e + f * f) + b * (e * e + f * f) + b * (e * f + f * e + f * f))))
    = (decide (0 < gsI (c - a) (d - b)) && (decide (e ≠ 0) || decide (f ≠ 0))) := by
  rw [gsI_eq, gsI_eq]
  have h := gs_mul (c - a) (d - b) (e * e + f * f) (e * f + f * e + f * f)
  rw [gs_sq] at h
  rw [show c * (e * e + f * f) + d * (e * f + f * e + f * f) - (a * (e * e + f * f) + b * (e * f + f * e + f * f)) = (c - a) * (e * e + f * f) + (d - b) * (e * f + f * e + f * f) by grind,
    show c * (e * f + f * e + f * f) + d * (e * e + f * f) + d * (e * f + f * e + f * f) - (a * (e * f + f * e + f * f) + b * (e * e + f * f) + b * (e * f + f * e + f * f)) = (c - a) * (e * f + f * e + f * f) + (d - b) * (e * e + f * f) + (d - b) * (e * f + f * e + f * f) by grind, h]
  by_cases z : e = 0 ∧ f = 0
  · rw [if_pos z, z.1, z.2]
    simp
  · rw [if_neg z, Int.mul_one]
    have : (decide (e ≠ 0) || decide (f ≠ 0)) = true := by
      by_cases z1 : e = 0 <;> by_cases z2 : f = 0 <;> simp_all
    rw [this, Bool.and_true]
theorem sense_mul (a b c d : Int) : gsI (a * c + b * d) (a * d + b * c + b * d) = gsI a b * gsI c d := by
  rw [gsI_eq, gsI_eq, gsI_eq, gs_mul]
end Gd

namespace Sk
open PySem L2 Ow
def top (i : Nat) : Stmt := PySem.Challenge.pw_underwords_k65_whole_corners_tell_what_i.main.body.getD i (.Pass ⟨0, 0, 0, 0⟩)
abbrev s_is_within : Stmt := top 2
theorem sc_is_within : FnScope ["value", "least", "most"] ["value", "least", "most"] (defScope s_is_within) := ⟨rfl, rfl, rfl, by decide +kernel, rfl, by decide +kernel, by decide +kernel⟩
abbrev s_init : Stmt := inClass (top 13) 0
theorem sc_init : FnScope ["self", "letters", "bonds"] ["self", "letters", "bonds"] (defScope s_init) := ⟨rfl, rfl, rfl, by decide +kernel, rfl, by decide +kernel, by decide +kernel⟩
abbrev s_rows : Stmt := inClass (top 13) 1
theorem sc_rows : FnScope ["cls", "places"] ["cls", "places"] (defScope s_rows) := ⟨rfl, rfl, rfl, by decide +kernel, rfl, by decide +kernel, by decide +kernel⟩
abbrev s_signed : Stmt := inClass (top 13) 2
theorem sc_signed : FnScope ["cls", "places"] ["cls", "places"] (defScope s_signed) := ⟨rfl, rfl, rfl, by decide +kernel, rfl, by decide +kernel, by decide +kernel⟩
abbrev s_letters : Stmt := inClass (top 13) 6
theorem sc_letters : FnScope ["self"] ["self"] (defScope s_letters) := ⟨rfl, rfl, rfl, by decide +kernel, rfl, by decide +kernel, by decide +kernel⟩
abbrev s_bonds : Stmt := inClass (top 13) 7
theorem sc_bonds : FnScope ["self"] ["self"] (defScope s_bonds) := ⟨rfl, rfl, rfl, by decide +kernel, rfl, by decide +kernel, by decide +kernel⟩
abbrev s_bond_of : Stmt := inClass (top 13) 8
theorem sc_bond_of : FnScope ["self", "one", "other", "told", "low", "high", "bond"] ["self", "one", "other"] (defScope s_bond_of) := ⟨rfl, rfl, rfl, by decide +kernel, rfl, by decide +kernel, by decide +kernel⟩
abbrev s_neighbours : Stmt := top 14
theorem sc_neighbours : FnScope ["first", "letters", "letter"] ["first", "letters"] (defScope s_neighbours) := ⟨rfl, rfl, rfl, by decide +kernel, rfl, by decide +kernel, by decide +kernel⟩
abbrev s_are_bonds : Stmt := top 15
theorem sc_are_bonds : FnScope ["letters", "value", "triple", "pairs", "low", "high", "_", "one", "other"] ["letters", "value"] (defScope s_are_bonds) := ⟨rfl, rfl, rfl, by decide +kernel, rfl, by decide +kernel, by decide +kernel⟩
abbrev s_is_triple : Stmt := top 16
theorem sc_is_triple : FnScope ["letters", "value", "low", "high", "bond"] ["letters", "value"] (defScope s_is_triple) := ⟨rfl, rfl, rfl, by decide +kernel, rfl, by decide +kernel, by decide +kernel⟩
abbrev s_is_letter : Stmt := top 19
theorem sc_is_letter : FnScope ["system", "value"] ["system", "value"] (defScope s_is_letter) := ⟨rfl, rfl, rfl, by decide +kernel, rfl, by decide +kernel, by decide +kernel⟩
abbrev s_is_word : Stmt := top 20
theorem sc_is_word : FnScope ["system", "value", "letter"] ["system", "value"] (defScope s_is_word) := ⟨rfl, rfl, rfl, by decide +kernel, rfl, by decide +kernel, by decide +kernel⟩
abbrev s_check_system : Stmt := top 21
theorem sc_check_system : FnScope ["system"] ["system"] (defScope s_check_system) := ⟨rfl, rfl, rfl, by decide +kernel, rfl, by decide +kernel, by decide +kernel⟩
abbrev s_check_word : Stmt := top 22
theorem sc_check_word : FnScope ["system", "word"] ["system", "word"] (defScope s_check_word) := ⟨rfl, rfl, rfl, by decide +kernel, rfl, by decide +kernel, by decide +kernel⟩
abbrev s_check_words : Stmt := top 23
theorem sc_check_words : FnScope ["system", "words", "word"] ["system", "words"] (defScope s_check_words) := ⟨rfl, rfl, rfl, by decide +kernel, rfl, by decide +kernel, by decide +kernel⟩
abbrev s_sense_of : Stmt := top 25
theorem sc_sense_of : FnScope ["whole", "part", "twice", "is_twice_heavier"] ["whole", "part"] (defScope s_sense_of) := ⟨rfl, rfl, rfl, by decide +kernel, rfl, by decide +kernel, by decide +kernel⟩
abbrev s_factor : Stmt := top 28
theorem sc_factor : FnScope ["system", "one", "other", "low_high", "high_low"] ["system", "one", "other"] (defScope s_factor) := ⟨rfl, rfl, rfl, by decide +kernel, rfl, by decide +kernel, by decide +kernel⟩
abbrev s_other_letters : Stmt := top 29
theorem sc_other_letters : FnScope ["system", "letter", "other"] ["system", "letter"] (defScope s_other_letters) := ⟨rfl, rfl, rfl, by decide +kernel, rfl, by decide +kernel, by decide +kernel⟩
abbrev s_triples_from : Stmt := top 30
theorem sc_triples_from : FnScope ["system", "letter", "other"] ["system", "letter"] (defScope s_triples_from) := ⟨rfl, rfl, rfl, by decide +kernel, rfl, by decide +kernel, by decide +kernel⟩
abbrev s_without_zeros : Stmt := top 31
theorem sc_without_zeros : FnScope ["pairs", "other", "whole", "part"] ["pairs"] (defScope s_without_zeros) := ⟨rfl, rfl, rfl, by decide +kernel, rfl, by decide +kernel, by decide +kernel⟩
abbrev s_is_below : Stmt := top 32
theorem sc_is_below : FnScope ["number", "whole", "part"] ["number"] (defScope s_is_below) := ⟨rfl, rfl, rfl, by decide +kernel, rfl, by decide +kernel, by decide +kernel⟩
abbrev s_links_of : Stmt := top 34
theorem sc_links_of : FnScope ["system", "letter"] ["system"] (defScope s_links_of) := ⟨rfl, rfl, rfl, by decide +kernel, rfl, by decide +kernel, by decide +kernel⟩
abbrev s_first_state : Stmt := top 35
theorem sc_first_state : FnScope ["links", "_"] ["links"] (defScope s_first_state) := ⟨rfl, rfl, rfl, by decide +kernel, rfl, by decide +kernel, by decide +kernel⟩
abbrev s_put_ahead : Stmt := top 36
theorem sc_put_ahead : FnScope ["links", "state", "letter", "whole", "part", "numbers", "other", "more", "golden", "a", "b"] ["links", "state", "letter"] (defScope s_put_ahead) := ⟨rfl, rfl, rfl, by decide +kernel, rfl, by decide +kernel, by decide +kernel⟩
abbrev s_word_ahead : Stmt := top 37
theorem sc_word_ahead : FnScope ["links", "state", "word", "letter"] ["links", "state", "word"] (defScope s_word_ahead) := ⟨rfl, rfl, rfl, by decide +kernel, rfl, by decide +kernel, by decide +kernel⟩
abbrev s_state_of : Stmt := top 38
theorem sc_state_of : FnScope ["links", "word"] ["links", "word"] (defScope s_state_of) := ⟨rfl, rfl, rfl, by decide +kernel, rfl, by decide +kernel, by decide +kernel⟩
abbrev s_left_of : Stmt := top 39
theorem sc_left_of : FnScope ["state", "letter", "number"] ["state"] (defScope s_left_of) := ⟨rfl, rfl, rfl, by decide +kernel, rfl, by decide +kernel, by decide +kernel⟩
abbrev s_normal_of : Stmt := top 40
theorem sc_normal_of : FnScope ["links", "state", "word", "lefts"] ["links", "state"] (defScope s_normal_of) := ⟨rfl, rfl, rfl, by decide +kernel, rfl, by decide +kernel, by decide +kernel⟩
abbrev s_normal_word : Stmt := top 41
theorem sc_normal_word : FnScope ["links", "word"] ["links", "word"] (defScope s_normal_word) := ⟨rfl, rfl, rfl, by decide +kernel, rfl, by decide +kernel, by decide +kernel⟩
abbrev s_corner : Stmt := top 45
theorem sc_corner : FnScope ["one", "other", "first", "second", "corners", "i", "j"] ["one", "other"] (defScope s_corner) := ⟨rfl, rfl, rfl, by decide +kernel, rfl, by decide +kernel, by decide +kernel⟩
abbrev s_is_corner : Stmt := top 46
theorem sc_is_corner : FnScope ["one", "other", "value", "first", "second", "i", "j"] ["one", "other", "value"] (defScope s_is_corner) := ⟨rfl, rfl, rfl, by decide +kernel, rfl, by decide +kernel, by decide +kernel⟩
abbrev s_is_row : Stmt := top 47
theorem sc_is_row : FnScope ["value"] ["value"] (defScope s_is_row) := ⟨rfl, rfl, rfl, by decide +kernel, rfl, by decide +kernel, by decide +kernel⟩
abbrev s_is_signed : Stmt := top 48
theorem sc_is_signed : FnScope ["value"] ["value"] (defScope s_is_signed) := ⟨rfl, rfl, rfl, by decide +kernel, rfl, by decide +kernel, by decide +kernel⟩
abbrev s_are_entries : Stmt := top 49
theorem sc_are_entries : FnScope ["value", "least", "many", "entry"] ["value", "least"] (defScope s_are_entries) := ⟨rfl, rfl, rfl, by decide +kernel, rfl, by decide +kernel, by decide +kernel⟩
abbrev s_told_rows : Stmt := top 50
theorem sc_told_rows : FnScope ["one", "other", "row"] ["one", "other"] (defScope s_told_rows) := ⟨rfl, rfl, rfl, by decide +kernel, rfl, by decide +kernel, by decide +kernel⟩
abbrev s_doubled : Stmt := top 51
theorem sc_doubled : FnScope ["row", "entry"] ["row"] (defScope s_doubled) := ⟨rfl, rfl, rfl, by decide +kernel, rfl, by decide +kernel, by decide +kernel⟩
abbrev s_is_over : Stmt := top 52
theorem sc_is_over : FnScope ["first", "second", "i", "j", "entry"] ["first", "second", "i", "j"] (defScope s_is_over) := ⟨rfl, rfl, rfl, by decide +kernel, rfl, by decide +kernel, by decide +kernel⟩
abbrev s_led_down : Stmt := top 54
theorem sc_led_down : FnScope ["links", "state", "word", "letter"] ["links", "state", "word"] (defScope s_led_down) := ⟨rfl, rfl, rfl, by decide +kernel, rfl, by decide +kernel, by decide +kernel⟩
abbrev s_is_state_under : Stmt := top 55
theorem sc_is_state_under : FnScope ["links", "state", "word"] ["links", "state", "word"] (defScope s_is_state_under) := ⟨rfl, rfl, rfl, by decide +kernel, rfl, by decide +kernel, by decide +kernel⟩
abbrev s_is_word_under : Stmt := top 56
theorem sc_is_word_under : FnScope ["links", "one", "word"] ["links", "one", "word"] (defScope s_is_word_under) := ⟨rfl, rfl, rfl, by decide +kernel, rfl, by decide +kernel, by decide +kernel⟩
abbrev s_is_under : Stmt := top 58
theorem sc_is_under : FnScope ["system", "one", "other", "links"] ["system", "one", "other"] (defScope s_is_under) := ⟨rfl, rfl, rfl, by decide +kernel, rfl, by decide +kernel, by decide +kernel⟩
abbrev s_l_vat : Stmt := top 60
theorem sc_l_vat : FnScope ["_law_script", "_law_spot", "_law_cell", "_law_great", "_law_mixed"] ["_law_script", "_law_spot"] (defScope s_l_vat) := ⟨rfl, rfl, rfl, by decide +kernel, rfl, by decide +kernel, by decide +kernel⟩
abbrev s_l_sip : Stmt := top 61
theorem sc_l_sip : FnScope ["_law_vat_here", "_law_total", "_law_found", "_law_one", "_law_two"] ["_law_vat_here", "_law_total"] (defScope s_l_sip) := ⟨rfl, rfl, rfl, by decide +kernel, rfl, by decide +kernel, by decide +kernel⟩
abbrev s_l_taste : Stmt := top 62
theorem sc_l_taste : FnScope ["_law_vat_here", "_law_items"] ["_law_vat_here", "_law_items"] (defScope s_l_taste) := ⟨rfl, rfl, rfl, by decide +kernel, rfl, by decide +kernel, by decide +kernel⟩
abbrev s_l_undone : Stmt := top 63
theorem sc_l_undone : FnScope ["_law_row", "_law_entry"] ["_law_row"] (defScope s_l_undone) := ⟨rfl, rfl, rfl, by decide +kernel, rfl, by decide +kernel, by decide +kernel⟩
abbrev s_l_length : Stmt := top 64
theorem sc_l_length : FnScope ["_law_row", "_law_other", "_law_at", "_law_entry"] ["_law_row"] (defScope s_l_length) := ⟨rfl, rfl, rfl, by decide +kernel, rfl, by decide +kernel, by decide +kernel⟩
abbrev s_l_right_letters : Stmt := top 65
theorem sc_l_right_letters : FnScope ["_law_row", "_law_at"] ["_law_row"] (defScope s_l_right_letters) := ⟨rfl, rfl, rfl, by decide +kernel, rfl, by decide +kernel, by decide +kernel⟩
abbrev s_l_ahead : Stmt := top 66
theorem sc_l_ahead : FnScope ["_law_letter", "_law_row", "_law_led", "_law_entry"] ["_law_letter", "_law_row"] (defScope s_l_ahead) := ⟨rfl, rfl, rfl, by decide +kernel, rfl, by decide +kernel, by decide +kernel⟩
abbrev s_l_word : Stmt := top 67
theorem sc_l_word : FnScope ["_law_row", "_law_found", "_law_left"] ["_law_row"] (defScope s_l_word) := ⟨rfl, rfl, rfl, by decide +kernel, rfl, by decide +kernel, by decide +kernel⟩
abbrev s_l_some_row : Stmt := top 68
theorem sc_l_some_row : FnScope ["_law_vat_here", "_law_places", "_law_left", "_law_found"] ["_law_vat_here", "_law_places"] (defScope s_l_some_row) := ⟨rfl, rfl, rfl, by decide +kernel, rfl, by decide +kernel, by decide +kernel⟩
abbrev s_l_some_signed : Stmt := top 69
theorem sc_l_some_signed : FnScope ["_law_vat_here", "_law_places", "_law_left", "_law_found", "_law_entry"] ["_law_vat_here", "_law_places"] (defScope s_l_some_signed) := ⟨rfl, rfl, rfl, by decide +kernel, rfl, by decide +kernel, by decide +kernel⟩
abbrev s_l_signed_undone : Stmt := top 70
theorem sc_l_signed_undone : FnScope ["_law_row", "_law_found", "_law_at", "_law_entry"] ["_law_row"] (defScope s_l_signed_undone) := ⟨rfl, rfl, rfl, by decide +kernel, rfl, by decide +kernel, by decide +kernel⟩
abbrev s_l_signed_right : Stmt := top 71
theorem sc_l_signed_right : FnScope ["_law_row", "_law_at"] ["_law_row"] (defScope s_l_signed_right) := ⟨rfl, rfl, rfl, by decide +kernel, rfl, by decide +kernel, by decide +kernel⟩
abbrev s_l_signed_ahead : Stmt := top 72
theorem sc_l_signed_ahead : FnScope ["_law_letter", "_law_row"] ["_law_letter", "_law_row"] (defScope s_l_signed_ahead) := ⟨rfl, rfl, rfl, by decide +kernel, rfl, by decide +kernel, by decide +kernel⟩
abbrev s_l_signed_behind : Stmt := top 73
theorem sc_l_signed_behind : FnScope ["_law_row", "_law_letter"] ["_law_row", "_law_letter"] (defScope s_l_signed_behind) := ⟨rfl, rfl, rfl, by decide +kernel, rfl, by decide +kernel, by decide +kernel⟩
abbrev s_l_signed_word : Stmt := top 74
theorem sc_l_signed_word : FnScope ["_law_row", "_law_found", "_law_left"] ["_law_row"] (defScope s_l_signed_word) := ⟨rfl, rfl, rfl, by decide +kernel, rfl, by decide +kernel, by decide +kernel⟩
abbrev s_l_doubled : Stmt := top 75
theorem sc_l_doubled : FnScope ["_law_row", "_law_entry"] ["_law_row"] (defScope s_l_doubled) := ⟨rfl, rfl, rfl, by decide +kernel, rfl, by decide +kernel, by decide +kernel⟩
abbrev s_l_is_corner : Stmt := top 76
theorem sc_l_is_corner : FnScope ["_law_one", "_law_other", "_law_value", "_law_entry", "_law_first"] ["_law_one", "_law_other", "_law_value"] (defScope s_l_is_corner) := ⟨rfl, rfl, rfl, by decide +kernel, rfl, by decide +kernel, by decide +kernel⟩
abbrev s_l_is_led_down : Stmt := top 77
theorem sc_l_is_led_down : FnScope ["_law_one", "_law_other", "_law_letter"] ["_law_one", "_law_other"] (defScope s_l_is_led_down) := ⟨rfl, rfl, rfl, by decide +kernel, rfl, by decide +kernel, by decide +kernel⟩
abbrev s_l_is_signed_led_down : Stmt := top 78
theorem sc_l_is_signed_led_down : FnScope ["_law_one", "_law_other", "_law_letter"] ["_law_one", "_law_other"] (defScope s_l_is_signed_led_down) := ⟨rfl, rfl, rfl, by decide +kernel, rfl, by decide +kernel, by decide +kernel⟩
abbrev s_l_pair : Stmt := top 79
theorem sc_l_pair : FnScope ["_law_vat_here", "_law_places", "_law_way", "_law_one", "_law_other", "_law_is_low"] ["_law_vat_here"] (defScope s_l_pair) := ⟨rfl, rfl, rfl, by decide +kernel, rfl, by decide +kernel, by decide +kernel⟩
abbrev s_l_right : Stmt := top 80
theorem sc_l_right : FnScope ["_law_vat_here", "_law_told", "_law_one", "_law_other", "_law_first", "_law_last", "_law_is_low", "_law_every", "_law_at", "_law_entry", "_law_some", "_law_turn", "_law_near"] ["_law_vat_here"] (defScope s_l_right) := ⟨rfl, rfl, rfl, by decide +kernel, rfl, by decide +kernel, by decide +kernel⟩
abbrev s_law : Stmt := top 81
theorem sc_law : FnScope ["_law_script", "_law_spot", "_law_vat_here", "_law_told"] ["_law_script"] (defScope s_law) := ⟨rfl, rfl, rfl, by decide +kernel, rfl, by decide +kernel, by decide +kernel⟩
def MDef (K : PySem.W.Frag) (mg : Str → Option Value) (x : Str) (st : Stmt) : Prop := ∃ f fd, Fun K x x st f fd ∧ mg x = some (.ref f)
def GM (K : PySem.W.Frag) (C : Addr) (m qual : Str) (st : Stmt) : Prop := ∃ f fd, Fun K m qual st f fd ∧ OM K C m f
def GP (K : PySem.W.Frag) (C : Addr) (m qual : Str) (st : Stmt) : Prop := ∃ p g fd, PropOf K C m p g ∧ Fun K m qual st g fd
/-- a built-in class that has nothing to do with C -/
structure TyO (K : PySem.W.Frag) (C : Addr) (T : String) : Prop where
  sub : PySem.W.subIn K (.type T) (.ref C) = some false
  kit : PySem.W.kitOne K (.type T) (.ref C) = some false
def CG (K : PySem.W.Frag) (C : Addr) (m qual : Str) (st : Stmt) : Prop := ∃ p g fd, ClX.CMet K C (.type "type") m p g ∧ Fun K m qual st g fd
/-! data: rows of ints, rows of these -/
theorem upd_upd {H : Hp} {p : Addr} {a b : HO} : upd (upd H p a) p b = upd H p b := by
  funext q
  unfold upd
  by_cases h : q = p
  · rw [if_pos h, if_pos h]
  · rw [if_neg h, if_neg h, if_neg h]
theorem same_new {H : Hp} {p : Addr} {o : HO} (n : H p = none) : Same H (upd H p o) := fun q u e => by rw [upd_ne (ne_of_none e n)]; exact e
theorem sqT_same {K : PySem.W.Frag} {H H' : Hp} {a : Addr} {xs : List V} (s : Same H H') (h : SqT K H a xs) : SqT K H' a xs := SqT.ext h s
/-- a tuple of ints -/
def TI (K : PySem.W.Frag) (H : Hp) (v : V) (ns : List Int) : Prop := ∃ a, v = .ref a ∧ SqT K H a (ns.map V.int)
theorem TI.same {K : PySem.W.Frag} {H H' : Hp} {v : V} {ns : List Int} (h : TI K H v ns) (s : Same H H') : TI K H' v ns := h.elim fun a ⟨e, q⟩ => ⟨a, e, sqT_same s q⟩
def TIs (K : PySem.W.Frag) (H : Hp) : List V → List (List Int) → Prop
  | [], [] => True
  | x :: xs, n :: ns => TI K H x n ∧ TIs K H xs ns
  | _, _ => False
theorem TIs.same {K : PySem.W.Frag} {H H' : Hp} (s : Same H H') : ∀ {xs : List V} {ns : List (List Int)}, TIs K H xs ns → TIs K H' xs ns
  | [], [], _ => trivial
  | _ :: _, _ :: _, h => ⟨h.1.same s, TIs.same s h.2⟩
theorem TIs.len {K : PySem.W.Frag} {H : Hp} : ∀ {xs : List V} {ns : List (List Int)}, TIs K H xs ns → xs.length = ns.length
  | [], [], _ => rfl
  | _ :: _, _ :: _, h => congrArg Nat.succ (TIs.len h.2)
theorem TIs.get {K : PySem.W.Frag} {H : Hp} : ∀ {xs : List V} {ns : List (List Int)} {i : Nat} {x : V}, TIs K H xs ns → xs[i]? = some x → ∃ n, ns[i]? = some n ∧ TI K H x n
  | x :: xs, n :: ns, 0, y, h, e => ⟨n, rfl, (show x = y by simpa using e) ▸ h.1⟩
  | x :: xs, n :: ns, i + 1, y, h, e => (TIs.get (xs := xs) (ns := ns) (i := i) h.2 (by simpa using e)).elim fun m z => ⟨m, by simpa using z.1, z.2⟩
  | [], [], i, y, _, e => by simp at e
theorem TIs.snoc {K : PySem.W.Frag} {H : Hp} : ∀ {xs : List V} {ns : List (List Int)} {x : V} {n : List Int}, TIs K H xs ns → TI K H x n → TIs K H (xs ++ [x]) (ns ++ [n])
  | [], [], _, _, _, h => ⟨h, trivial⟩
  | _ :: _, _ :: _, _, _, h, k => ⟨h.1, TIs.snoc h.2 k⟩
/-- a tuple of tuples of ints -/
def BsAt (K : PySem.W.Frag) (H : Hp) (v : V) (bs : List (List Int)) : Prop := ∃ a xs, v = .ref a ∧ SqT K H a xs ∧ TIs K H xs bs
theorem BsAt.same {K : PySem.W.Frag} {H H' : Hp} {v : V} {bs : List (List Int)} (h : BsAt K H v bs) (s : Same H H') : BsAt K H' v bs := h.elim fun a ⟨xs, e, q, t⟩ => ⟨a, xs, e, sqT_same s q, t.same s⟩
/-- the two golds of a bond, each as its two whole numbers -/
def facT (b : Int) : List (List Int) := if b = 0 then [[2, 0], [2, 0]] else if b = 3 then [[1, 0], [1, 0]] else if b = 4 then [[1, 0], [2, 0]] else if b = 5 then [[0, 1], [0, 1]] else if b = 6 then [[1, 0], [3, 0]] else [[0, 0], [0, 0]]
structure Txt (K : PySem.W.Frag) (mg : Str → Option Value) (C : Addr) : Prop where
  cl : Cls K C
  ic : C8.InsC K C
  mgSystem : mg "System" = some (.ref C)
  nL : NoAttr K C "_letters"
  nB : NoAttr K C "_bonds"
  mkS : ∃ f fd e, Mk K C f ∧ FunD K "__init__" "System.__init__" (defArgs s_init) (defBody s_init) (defScope s_init) [.ref e] [] f fd ∧ ∀ H, SqT K H e []
  gB : ∃ a, mg "BONDS" = some (.ref a) ∧ ∀ H, SqT K H a [.int 0, .int 2, .int 3, .int 4, .int 5, .int 6]
  gF : ∃ d es n, mg "FACTORS" = some (.ref d) ∧ K.lookup d = some ⟨.type "dict", none, .dict es n, #[]⟩ ∧ IntKeys es ∧ ∀ b : Int, (b = 0 ∨ b = 2 ∨ b = 3 ∨ b = 4 ∨ b = 5 ∨ b = 6) → ∃ a, findBy Value.isInt es b = some (.ref a) ∧ ∀ H, BsAt K H (.ref a) (facT b)
  crd : ClX.CRead K C (.type "type")
  cRows : CG K C "rows" "System.rows" s_rows
  pL : GP K C "letters" "System.letters" s_letters
  mBond : GM K C "bond_of" "System.bond_of" s_bond_of
  cSigned : CG K C "signed" "System.signed" s_signed
  g_MAX_LETTERS : ∃ u, mg "MAX_LETTERS" = some u ∧ RelV (.int 4) u
  g_LONGEST_WORD : ∃ u, mg "LONGEST_WORD" = some u ∧ RelV (.int 40) u
  g_MOST_PLACES : ∃ u, mg "MOST_PLACES" = some u ∧ RelV (.int 5) u
  g_MOST_SIGNED : ∃ u, mg "MOST_SIGNED" = some u ∧ RelV (.int 3) u
  d_is_within : MDef K mg "is_within" s_is_within
  d_neighbours : MDef K mg "neighbours" s_neighbours
  d_are_bonds : MDef K mg "are_bonds" s_are_bonds
  d_is_triple : MDef K mg "is_triple" s_is_triple
  d_is_letter : MDef K mg "is_letter" s_is_letter
  d_is_word : MDef K mg "is_word" s_is_word
  d_check_system : MDef K mg "check_system" s_check_system
  d_check_word : MDef K mg "check_word" s_check_word
  d_check_words : MDef K mg "check_words" s_check_words
  d_sense_of : MDef K mg "sense_of" s_sense_of
  d_factor : MDef K mg "factor" s_factor
  d_other_letters : MDef K mg "other_letters" s_other_letters
  d_triples_from : MDef K mg "triples_from" s_triples_from
  d_without_zeros : MDef K mg "without_zeros" s_without_zeros
  d_is_below : MDef K mg "is_below" s_is_below
  d_links_of : MDef K mg "links_of" s_links_of
  d_first_state : MDef K mg "first_state" s_first_state
  d_put_ahead : MDef K mg "put_ahead" s_put_ahead
  d_word_ahead : MDef K mg "word_ahead" s_word_ahead
  d_state_of : MDef K mg "state_of" s_state_of
  d_left_of : MDef K mg "left_of" s_left_of
  d_normal_of : MDef K mg "normal_of" s_normal_of
  d_normal_word : MDef K mg "normal_word" s_normal_word
  d_corner : MDef K mg "corner" s_corner
  d_is_corner : MDef K mg "is_corner" s_is_corner
  d_is_row : MDef K mg "is_row" s_is_row
  d_is_signed : MDef K mg "is_signed" s_is_signed
  d_are_entries : MDef K mg "are_entries" s_are_entries
  d_told_rows : MDef K mg "told_rows" s_told_rows
  d_doubled : MDef K mg "doubled" s_doubled
  d_is_over : MDef K mg "is_over" s_is_over
  d_led_down : MDef K mg "led_down" s_led_down
  d_is_state_under : MDef K mg "is_state_under" s_is_state_under
  d_is_word_under : MDef K mg "is_word_under" s_is_word_under
  d_is_under : MDef K mg "is_under" s_is_under
  d_l_vat : MDef K mg "_law_vat" s_l_vat
  d_l_sip : MDef K mg "_law_sip" s_l_sip
  d_l_taste : MDef K mg "_law_taste" s_l_taste
  d_l_undone : MDef K mg "_law_undone" s_l_undone
  d_l_length : MDef K mg "_law_length" s_l_length
  d_l_right_letters : MDef K mg "_law_right_letters" s_l_right_letters
  d_l_ahead : MDef K mg "_law_ahead" s_l_ahead
  d_l_word : MDef K mg "_law_word" s_l_word
  d_l_some_row : MDef K mg "_law_some_row" s_l_some_row
  d_l_some_signed : MDef K mg "_law_some_signed" s_l_some_signed
  d_l_signed_undone : MDef K mg "_law_signed_undone" s_l_signed_undone
  d_l_signed_right : MDef K mg "_law_signed_right" s_l_signed_right
  d_l_signed_ahead : MDef K mg "_law_signed_ahead" s_l_signed_ahead
  d_l_signed_behind : MDef K mg "_law_signed_behind" s_l_signed_behind
  d_l_signed_word : MDef K mg "_law_signed_word" s_l_signed_word
  d_l_doubled : MDef K mg "_law_doubled" s_l_doubled
  d_l_is_corner : MDef K mg "_law_is_corner" s_l_is_corner
  d_l_is_led_down : MDef K mg "_law_is_led_down" s_l_is_led_down
  d_l_is_signed_led_down : MDef K mg "_law_is_signed_led_down" s_l_is_signed_led_down
  d_l_pair : MDef K mg "_law_pair" s_l_pair
  d_l_right : MDef K mg "_law_right" s_l_right
  b_list : mg "list" = none
  b_sorted : mg "sorted" = none
  b_isinstance : mg "isinstance" = none
  b_int : mg "int" = none
  b_bool : mg "bool" = none
  b_tuple : mg "tuple" = none
  b_len : mg "len" = none
  b_abs : mg "abs" = none
  b_max : mg "max" = none
  b_min : mg "min" = none
  b_sum : mg "sum" = none
  b_all : mg "all" = none
  b_zip : mg "zip" = none
  b_range : mg "range" = none
  b_enumerate : mg "enumerate" = none
theorem MDef.cal {P : Program} {w : World} {K : PySem.W.Frag} {mg : Str → Option Value} {base : Heap} {x : Str} {st : Stmt} {k : Nat} {ps : List Str} {sp : Sp} (D : MDef K mg x st)
    (F : ∀ f fd, Fun K x x st f fd → FnOk P w K mg base CX0 k f fd ps sp)
    (h : ∀ (kV doc pm : Value) (an : Option Addr) (cdv ct : Value) (us : List Value), us.length = ps.length → bindArgs (PySem.W.fnOf x x (defArgs st) (defBody st) (defScope st) .none kV doc pm an cdv ct) ⟨us, []⟩ = pure (ps.zip us)) : Cal P w K mg base x k sp := by
  obtain ⟨f, fd, D, m⟩ := D
  exact ⟨⟨f, fd, ps, F f fd D, m, D.kp, D.binds h⟩⟩

def dT (ns : List Int) : PyData := .tuple (ns.map PyData.int)
def dB (bs : List (List Int)) : PyData := .tuple (bs.map dT)
theorem dInts {K : PySem.W.Frag} {H : Hp} : ∀ ns : List Int, DpAll K H (ns.map V.int) (ns.map PyData.int)
  | [] => .nil
  | n :: ns => .cons (.int n) (dInts ns)
theorem TI.dp {K : PySem.W.Frag} {H : Hp} {v : V} {ns : List Int} (h : TI K H v ns) : Dp K H v (dT ns) := by
  obtain ⟨a, rfl, q⟩ := h
  exact .tup q (dInts ns)
theorem TIs.dp {K : PySem.W.Frag} {H : Hp} : ∀ {xs : List V} {ns : List (List Int)}, TIs K H xs ns → DpAll K H xs (ns.map dT)
  | [], [], _ => .nil
  | _ :: _, _ :: _, h => .cons h.1.dp (TIs.dp h.2)
theorem BsAt.dp {K : PySem.W.Frag} {H : Hp} {v : V} {bs : List (List Int)} (h : BsAt K H v bs) : Dp K H v (dB bs) := by
  obtain ⟨a, xs, rfl, q, t⟩ := h
  exact .tup q t.dp
theorem lay_ints : ∀ ns : List Int, PyData.canLayAll0 (ns.map PyData.int) = true
  | [] => by simp [PyData.canLayAll0]
  | n :: ns => by simp [PyData.canLayAll0, PyData.canLay0, lay_ints ns]
theorem lay_dT (ns : List Int) : (dT ns).canLay0 = true := by simp [dT, PyData.canLay0, lay_ints]
theorem lay_dTs : ∀ bs : List (List Int), PyData.canLayAll0 (bs.map dT) = true
  | [] => by simp [PyData.canLayAll0]
  | n :: ns => by simp [PyData.canLayAll0, lay_dT, lay_dTs ns]
theorem lay_dB (bs : List (List Int)) : (dB bs).canLay0 = true := by simp [dB, PyData.canLay0, lay_dTs]
theorem dep_ints : ∀ ns : List Int, PyData.depthAll (ns.map PyData.int) ≤ 1
  | [] => by simp [PyData.depthAll]
  | n :: ns => by have := dep_ints ns; simp [PyData.depthAll, PyData.depth]; omega
theorem dep_dT (ns : List Int) : (dT ns).depth ≤ 2 := by have := dep_ints ns; simp [dT, PyData.depth]; omega
theorem dep_dTs : ∀ bs : List (List Int), PyData.depthAll (bs.map dT) ≤ 3
  | [] => by simp [PyData.depthAll]
  | n :: ns => by have := dep_dTs ns; have := dep_dT n; simp [PyData.depthAll]; omega
theorem dep_dB (bs : List (List Int)) : (dB bs).depth ≤ 4 := by have := dep_dTs bs; simp [dB, PyData.depth]; omega
theorem sh_dT (ns : List Int) : SeqAt.shaped (dT ns) = true := by
  unfold SeqAt.shaped
  rw [lay_dT, decide_eq_true (Nat.le_trans (dep_dT ns) (by decide))]
  rfl
theorem sh_dB (bs : List (List Int)) : SeqAt.shaped (dB bs) = true := by
  unfold SeqAt.shaped
  rw [lay_dB, decide_eq_true (Nat.le_trans (dep_dB bs) (by decide))]
  rfl
/-! systems, in numbers -/
def trOk (n : Int) (t : List Int) : Prop := ∃ l h b, t = [l, h, b] ∧ 0 ≤ l ∧ l < h ∧ h < n ∧ (b = 0 ∨ b = 3 ∨ b = 4 ∨ b = 5 ∨ b = 6)
structure Valid (n : Int) (bs : List (List Int)) : Prop where
  lo : 1 ≤ n
  hi : n ≤ 4
  tr : ∀ t ∈ bs, trOk n t
  as : (bs.map (·.take 2)).Pairwise (fun p q => HT.lexLt p q = true)
  few : bs.length ≤ 20
def sf (n : Int) (bv : V) : List (Str × V) := putF "_bonds" bv (putF "_letters" (.int n) [])
theorem lb_ : ¬ (("_letters" : Str) = "_bonds") := by decide +kernel
theorem sf_l (n : Int) (bv : V) : (sf n bv).lookup ("_letters" : Str) = some (.int n) := by
  unfold sf
  rw [lookup_putF, if_neg lb_, lookup_putF, if_pos rfl]
theorem sf_b (n : Int) (bv : V) : (sf n bv).lookup ("_bonds" : Str) = some bv := by
  unfold sf
  rw [lookup_putF, if_pos rfl]
theorem sf_no (n : Int) (bv : V) {m : Str} (h1 : ¬ m = "_bonds") (h2 : ¬ m = "_letters") : (sf n bv).lookup m = none := by
  unfold sf
  rw [lookup_putF, if_neg h1, lookup_putF, if_neg h2]
  rfl
def SysAt (K : PySem.W.Frag) (C : Addr) (H : Hp) (p : Addr) (n : Int) (bv : V) (bs : List (List Int)) : Prop := (∃ dx, H p = some (.ins C dx (sf n bv))) ∧ BsAt K H bv bs
theorem SysAt.same {K : PySem.W.Frag} {C : Addr} {H H' : Hp} {p : Addr} {n : Int} {bv : V} {bs : List (List Int)} (g : SysAt K C H p n bv bs) (s : Same H H') : SysAt K C H' p n bv bs := ⟨g.1.elim fun dx h => ⟨dx, s _ _ h⟩, g.2.same s⟩
/-! promises -/
def spWithin : Sp := fun vs H Q _ => ∃ i lo hi : Int, vs = [.int i, .int lo, .int hi] ∧ Q (.bl (decide (lo ≤ i) && decide (i ≤ hi))) H
def spTriple (K : PySem.W.Frag) : Sp := fun vs H Q _ => ∃ (n : Int) (v : V) (t : List Int), vs = [.int n, v] ∧ TI K H v t ∧ trOk n t ∧ Q (.bl true) H
def spBonds (K : PySem.W.Frag) : Sp := fun vs H Q _ => ∃ (n : Int) (v : V) (bs : List (List Int)), vs = [.int n, v] ∧ BsAt K H v bs ∧ Valid n bs ∧ ∀ H' : Hp, Same H H' → Q (.bl true) H'
def spInit (K : PySem.W.Frag) (C : Addr) : Sp := fun vs H Q _ => ∃ (p dx : Addr) (n : Int) (bv : V) (bs : List (List Int)), vs = [.ref p, .int n, bv] ∧ BsAt K H bv bs ∧ Valid n bs ∧ H p = some (.ins C dx []) ∧
  ∀ H' : Hp, Same H H' → Q .non (upd H' p (.ins C dx (sf n bv)))
section
variable {P : Program} {w : World} {K : PySem.W.Frag} {mg : Str → Option Value} {base : Heap} {C : Addr}
theorem cal_is_within (T : Txt K mg C) : Cal P w K mg base "is_within" 1 spWithin := by
  refine T.d_is_within.cal (ps := ["value", "least", "most"]) (fun f fd D => ?_) (fun _ _ _ _ _ _ us hl => match us, hl with | [_, _, _], _ => rfl)
  refine D.ok sc_is_within (fun vs H Q E h => ?_) (fun cdv A outer s H vs Q E hr h => ?_)
  · obtain ⟨i, lo, hi, rfl, _⟩ := h
    rfl
  · obtain ⟨i, lo, hi, rfl, q⟩ := h
    refine ⟨_, (pss_one (ps_ret (pe_and (pe_callB call_isi (by rfl) T.b_isinstance (by decide +kernel) (pa_cons (pv 0) (pa_cons (pe_bltn (v := .ty "int") (by rfl) T.b_int (by decide +kernel) rfl) pa_nil))) (pe_and (pe_not (pe_callB call_isi (by rfl) T.b_isinstance (by decide +kernel) (pa_cons (pv 0) (pa_cons (pe_bltn (v := .ty "bool") (by rfl) T.b_bool (by decide +kernel) rfl) pa_nil)))) (pe_one (pe_chain op_le op_le (pv 1) (pv 0) (pv 2))))))), ?_⟩
    refine ⟨_, rfl, _, _, _, _, true, rfl, .ty "int", .base (.int i), kit_ty (by decide +kernel), _, rfl, iteT ?_⟩
    refine ⟨_, rfl, _, _, _, _, false, rfl, .ty "bool", .base (.int i), kit_ty (by decide +kernel), _, rfl, _, rfl, iteT ?_⟩
    refine ⟨_, rfl, _, rfl, _, _, rfl, rfl, _, rfl, ?_⟩
    by_cases h1 : lo ≤ i
    · rw [decide_eq_true h1] at *
      refine iteT ?_
      exact ⟨_, rfl, _, _, rfl, rfl, q⟩
    · rw [decide_eq_false h1] at *
      exact iteF q
theorem pe_bonds {X : Cx} {x : Str} {pos : Pos} {a : Addr} (hg : Gl X x) (hx : X.mg x = some (.ref a)) (hd : (x == ("__debug__" : Str)) = false := by decide) : PE X (.Name x pos) (tC (.ref a)) := pe_glob (v := .ref a) hg hx rfl hd
/-- within, told -/
theorem win {H : Hp} {Q : VK} {i lo hi : Int} (h1 : lo ≤ i) (h2 : i ≤ hi) (q : Q (.bl true) H) : ∃ a b c : Int, ([V.int i, V.int lo, V.int hi] : List V) = [.int a, .int b, .int c] ∧ Q (.bl (decide (b ≤ a) && decide (a ≤ c))) H :=
  ⟨_, _, _, rfl, by rw [decide_eq_true h1, decide_eq_true h2]; exact q⟩
/-- the type of a tuple that is read -/
theorem tup_ty {H : Hp} {a : Addr} {xs : List V} (h : SqT K H a xs) : TyX K H (.ref a) (.type "tuple") := by
  rcases h with (h | ⟨o, h⟩) | ⟨o, its, n, hk, hc, _⟩
  · exact .base (.tup h)
  · exact .fTuple h
  · exact .kTuple hk hc
theorem iteNT' {A B : Prop} {c : Bool} (e : c = true) (h : B) : if (!c) = true then A else B := by rw [e]; exact iteF h
theorem iteNT {A B : Prop} {c : Bool} (e : c = true) (h : B) : if (!c) = true then A else B := by rw [e]; exact iteF h
theorem cal_is_triple (T : Txt K mg C) : Cal P w K mg base "is_triple" 2 (spTriple K) := by
  refine T.d_is_triple.cal (ps := ["letters", "value"]) (fun f fd D => ?_) (fun _ _ _ _ _ _ us hl => match us, hl with | [_, _], _ => rfl)
  refine D.ok sc_is_triple (fun vs H Q E h => ?_) (fun cdv A outer s H vs Q E hr h => ?_)
  · obtain ⟨n, v, t, rfl, _⟩ := h
    rfl
  · obtain ⟨n, v, t, rfl, ⟨a, rfl, ht⟩, ⟨l, h, b, rfl, h0, h1, h2, h3⟩, q⟩ := h
    obtain ⟨aB, gB, sB⟩ := T.gB
    refine ⟨_, (pss_cons (ps_if (PW.pt (pw_or (pt_not (pt_val (pe_callB call_isi (by rfl) T.b_isinstance (by decide +kernel) (pa_cons (pv 1) (pa_cons (pe_bltn (v := .ty "tuple") (by rfl) T.b_tuple (by decide +kernel) rfl) pa_nil))))) (pw_or1 (pt_cmpR op_ne (pe_callB call_len_seq (by rfl) T.b_len (by decide +kernel) (pa_cons (pv 1) pa_nil)) pe_int (nomark _))))) (pss_one (ps_ret pe_bl)) pss_nil)
      (pss_cons (ps_asg (pv 1) (pg_tup (by rfl) (pgs_cons (pg_name (i := 2) sc_is_triple.nd rfl (Or.inl rfl)) (pgs_cons (pg_name (i := 3) sc_is_triple.nd rfl (Or.inl rfl)) (pgs_cons (pg_name (i := 4) sc_is_triple.nd rfl (Or.inl rfl)) pgs_nil)))))
      (pss_cons (ps_if (PW.pt (pw_or (pt_not (pt_val (pe_cal (cal_is_within T) (hr.mono (by decide)) (by rfl) (pa_cons (pv 2) (pa_cons pe_int (pa_cons (pe_op op_sub (pv 0) pe_int) pa_nil)))))) (pw_or1 (pt_not (pt_val (pe_cal (cal_is_within T) (hr.mono (by decide)) (by rfl) (pa_cons (pv 3) (pa_cons (pe_op op_add (pv 2) pe_int) (pa_cons (pe_op op_sub (pv 0) pe_int) pa_nil))))))))) (pss_one (ps_ret pe_bl)) pss_nil)
      (pss_one (ps_ret (pe_and (pe_cal (cal_is_within T) (hr.mono (by decide)) (by rfl) (pa_cons (pv 4) (pa_cons pe_int (pa_cons pe_int pa_nil)))) (pe_and (pe_cmpR op_ne (pv 4) pe_int (nomark _)) (pe_one (pe_cmpR op_in_seq (pv 4) (pe_bonds (by rfl) gB) (by rfl)))))))))), ?_⟩
    refine ⟨_, rfl, _, _, .type "tuple", _, true, rfl, .ty "tuple", tup_ty ht, kit_ty (by decide +kernel), _, rfl, iteF ?_⟩
    refine ⟨_, rfl, _, _, rfl, .inr ht, rfl, _, rfl, iteNS rfl ?_⟩
    refine ⟨_, rfl, _, _, rfl, ht, rfl, _, _, rfl, _, _, rfl, _, _, rfl, rfl, ?_⟩
    refine ⟨_, rfl, _, rfl, _, _, rfl, rfl, _, _, _, rfl, _, rfl, iteNT' (by rw [decide_eq_true h0, decide_eq_true (show l ≤ n - 1 by omega)]; rfl) ?_⟩
    refine ⟨_, rfl, _, rfl, _, _, rfl, rfl, _, rfl, _, _, rfl, rfl, _, _, _, rfl, _, rfl, iteNT' (by rw [decide_eq_true (show l + 1 ≤ h by omega), decide_eq_true (show h ≤ n - 1 by omega)]; rfl) ?_⟩
    have b6 : 0 ≤ b ∧ b ≤ 6 := by omega
    refine ⟨_, rfl, _, _, _, rfl, _, rfl, ite2 (fun _ => ?_) (fun z => absurd (show (decide (0 ≤ b) && decide (b ≤ 6)) = true by rw [decide_eq_true b6.1, decide_eq_true b6.2]; rfl) z)⟩
    refine ⟨_, rfl, rfl, _, rfl, ite2 (fun _ => ?_) (fun z => absurd (show (!decide (V.int b = V.int 2)) = true by rw [decide_eq_false (fun e => by have := V.int.inj e; omega)]; rfl) z)⟩
    refine ⟨_, rfl, _, _, rfl, .inr (sB H), rfl, rfl, ?_⟩
    have e : inV (.int b) [.int 0, .int 2, .int 3, .int 4, .int 5, .int 6] = true := by
      rcases h3 with rfl | rfl | rfl | rfl | rfl <;> rfl
    show Q (.bl (inV (.int b) [.int 0, .int 2, .int 3, .int 4, .int 5, .int 6])) H
    rw [e]
    exact q
end
end Sk

namespace Sk
open PySem L2 Ow
/-- all but the list at D as it was -/
def Off (D : Addr) (H H' : Hp) : Prop := ∀ q o, q ≠ D → H q = some o → H' q = some o
theorem Off.sqT {K : PySem.W.Frag} {D a : Addr} {H H' : Hp} {xs acc : List V} (o : Off D H H') (hD : H D = some (.lst acc)) (h : SqT K H a xs) : SqT K H' a xs := by
  have ne : ∀ u, H a = some u → u ≠ .lst acc → a ≠ D := fun u e d z => d (by rw [z, hD] at e; exact (Option.some.inj e).symm)
  rcases h with (h | ⟨u, h⟩) | h
  · exact .inl (.inl (o a _ (ne _ h (fun z => nomatch z)) h))
  · exact .inl (.inr ⟨u, o a _ (ne _ h (fun z => nomatch z)) h⟩)
  · exact .inr h
theorem Off.ti {K : PySem.W.Frag} {D : Addr} {H H' : Hp} {acc : List V} {v : V} {ns : List Int} (o : Off D H H') (hD : H D = some (.lst acc)) (h : TI K H v ns) : TI K H' v ns := h.elim fun a ⟨e, q⟩ => ⟨a, e, o.sqT hD q⟩
theorem Off.tis {K : PySem.W.Frag} {D : Addr} {H H' : Hp} {acc : List V} (o : Off D H H') (hD : H D = some (.lst acc)) : ∀ {xs : List V} {ns : List (List Int)}, TIs K H xs ns → TIs K H' xs ns
  | [], [], _ => trivial
  | _ :: _, _ :: _, h => ⟨o.ti hD h.1, o.tis hD h.2⟩
theorem Off.bs {K : PySem.W.Frag} {D : Addr} {H H' : Hp} {acc : List V} {v : V} {bs : List (List Int)} (o : Off D H H') (hD : H D = some (.lst acc)) (h : BsAt K H v bs) : BsAt K H' v bs := h.elim fun a ⟨xs, e, q, t⟩ => ⟨a, xs, e, o.sqT hD q, o.tis hD t⟩
theorem off_upd {D : Addr} {H : Hp} {u : HO} : Off D H (upd H D u) := fun q o n e => by rw [upd_ne n]; exact e
/-- a fresh list's address: what stood stands, through stores to it -/
theorem same_off {H0 H H' : Hp} {D : Addr} (n : H0 D = none) (s : Same H0 H) (o : Off D H H') : Same H0 H' := fun q u e => o q u (ne_of_none e n) (s q u e)
theorem take_snoc {α : Type} {xs : List α} {i : Nat} {x : α} (h : xs[i]? = some x) : xs.take (i + 1) = xs.take i ++ [x] := by
  obtain ⟨hl, e⟩ := List.getElem?_eq_some_iff.mp h
  rw [List.take_add_one, h]
  rfl
section
variable {P : Program} {w : World} {K : PySem.W.Frag} {mg : Str → Option Value} {base : Heap} {C : Addr}
theorem cal_are_bonds (T : Txt K mg C) : Cal P w K mg base "are_bonds" 3 (spBonds K) := by
  refine T.d_are_bonds.cal (ps := ["letters", "value"]) (fun f fd D => ?_) (fun _ _ _ _ _ _ us hl => match us, hl with | [_, _], _ => rfl)
  refine D.ok sc_are_bonds (fun vs H Q E h => ?_) (fun cdv A outer s H vs Q E hr h => ?_)
  · obtain ⟨n, v, bs, rfl, _⟩ := h
    rfl
  · obtain ⟨n, v, bs, rfl, ⟨a, xs, rfl, ha, hx⟩, va, k⟩ := h
    have hlen := hx.len
    have few := va.few
    refine ⟨_, (pss_cons (ps_if (PW.pt (pw_or (pt_not (pt_val (pe_callB call_isi (by rfl) T.b_isinstance (by decide +kernel) (pa_cons (pv 1) (pa_cons (pe_bltn (v := .ty "tuple") (by rfl) T.b_tuple (by decide +kernel) rfl) pa_nil))))) (pw_or1 (pt_not (pt_val (pe_callB (cr_all rfl) (by rfl) T.b_all (by decide +kernel) (pa_cons (pe_lc (own := [("triple", 2)]) (g := gName 2) (tt := tYes) rfl sc_are_bonds.nd (pi_tup (pv 1)) (blkOk_by (own := [("triple", 2)]) (N := ["letters", "value", "triple", "pairs", "low", "high", "_", "one", "other"]) (sc := defScope s_are_bonds) (by decide +kernel)) (fun _ _ _ _ _ => (pg_name (i := 2) sc_are_bonds.nd rfl (Or.inl rfl))) (fun _ _ _ _ _ => pts_nil) (fun _ _ _ _ _ => (pe_cal (cal_is_triple T) (hr.mono (by decide)) (by rfl) (pa_cons (pv 0) (pa_cons (pv 2) pa_nil))))) pa_nil))))))) (pss_one (ps_ret pe_bl)) pss_nil)
      (pss_cons (ps_setLc (i := 3) (own := [("low", 4), ("high", 5), ("_", 6)]) (g := gTup K 3 (gCons (gName 4) (gCons (gName 5) (gCons (gName 6) (gNil))))) (tt := tYes) rfl sc_are_bonds.nd rfl rfl (sw_true rfl rfl rfl (by decide +kernel)) (pi_tup (pv 1)) (blkOk_by (own := [("low", 4), ("high", 5), ("_", 6)]) (N := ["letters", "value", "triple", "pairs", "low", "high", "_", "one", "other"]) (sc := defScope s_are_bonds) (by decide +kernel)) (fun _ _ _ _ _ => (pg_tup (by rfl) (pgs_cons (pg_name (i := 4) sc_are_bonds.nd rfl (Or.inl rfl)) (pgs_cons (pg_name (i := 5) sc_are_bonds.nd rfl (Or.inl rfl)) (pgs_cons (pg_name (i := 6) sc_are_bonds.nd rfl (Or.inl rfl)) pgs_nil))))) (fun _ _ _ _ _ => pts_nil) (fun _ _ _ _ _ => (pe_tup (pa_cons (pv 4) (pa_cons (pv 5) pa_nil)))))
      (pss_one (ps_ret (pe_callB (cr_all rfl) (by rfl) T.b_all (by decide +kernel) (pa_cons (pe_lc (own := [("one", 7), ("other", 8)]) (g := gTup K 2 (gCons (gName 7) (gCons (gName 8) (gNil)))) (tt := tYes) rfl sc_are_bonds.nd (RZ.pi_zipA (by rfl) T.b_zip (pa_cons (pv 3) (pa_cons (pe_slice sl_list (pv 3) (po_some pe_int) po_none) pa_nil))) (blkOk_by (own := [("one", 7), ("other", 8)]) (N := ["letters", "value", "triple", "pairs", "low", "high", "_", "one", "other"]) (sc := defScope s_are_bonds) (by decide +kernel)) (fun _ _ _ _ _ => (pg_tup (by rfl) (pgs_cons (pg_name (i := 7) sc_are_bonds.nd rfl (Or.inl rfl)) (pgs_cons (pg_name (i := 8) sc_are_bonds.nd rfl (Or.inl rfl)) pgs_nil)))) (fun _ _ _ _ _ => pts_nil) (fun _ _ _ _ _ => (pe_cmpR (show OpR _ _ (rLtT K) from (op_ltT hr.units0)) (pv 7) (pv 8) (nomark _)))) pa_nil)))))), ?_⟩
    refine ⟨_, rfl, _, _, .type "tuple", _, true, rfl, .ty "tuple", tup_ty ha, kit_ty (by decide +kernel), _, rfl, iteF ?_⟩
    refine ⟨_, rfl, a, rfl, ⟨_, ha⟩, fun D nD => lc_tup (K := K) (a := a) (xs := xs) (fun i H' => Same H H' ∧ H' D = some (.lst ((List.replicate i true).map V.bl))) ⟨same_new nD, upd_same⟩ (fun i H' _ h => sqT_same h.1 ha) ?_ ?_⟩
    · rintro i x H2 hi ⟨s2, hD⟩
      obtain ⟨t, ht, tx⟩ := hx.get hi
      have ilt := (List.getElem?_eq_some_iff.mp hi).1
      refine ⟨rfl, _, rfl, _, rfl, n, x, t, rfl, tx.same s2, va.tr t (List.mem_of_getElem? ht), _, hD, ?_, same_off nD s2 off_upd, ?_⟩
      · rw [List.length_map, List.length_replicate]
        exact small1000 (by omega)
      · rw [upd_same, List.replicate_succ', List.map_append]
        rfl
    · rintro H2 ⟨s2, hD⟩
      refine ⟨_, _, rfl, .of hD, _, rfl, iteNT' (by simp) ?_⟩
      -- pairs
      refine ⟨_, rfl, a, rfl, ⟨_, sqT_same s2 ha⟩, fun D2 nD2 => lc_tup (K := K) (a := a) (xs := xs) (fun i H' => Same H2 H' ∧ ∃ ys, H' D2 = some (.lst ys) ∧ TIs K H' ys ((bs.take i).map (·.take 2))) ⟨same_new nD2, [], upd_same, by simp [TIs]⟩ (fun i H' _ h => sqT_same (s2.trans h.1) ha) ?_ ?_⟩
      · rintro i x H3 hi ⟨s3, ys, hD2, hy⟩
        obtain ⟨t, ht, tx⟩ := hx.get hi
        have ilt := (List.getElem?_eq_some_iff.mp hi).1
        obtain ⟨b, rfl, hb⟩ := tx.same (s2.trans s3)
        obtain ⟨l, h, d, rfl, _⟩ := va.tr t (List.mem_of_getElem? ht)
        refine ⟨_, _, rfl, hb, rfl, _, _, rfl, _, _, rfl, _, _, rfl, rfl, rfl, _, rfl, _, rfl, show 2 ≤ sizeLine by decide, fun p np => ?_⟩
        have hD3 : (upd H3 p (.tup [.int l, .int h])) D2 = some (.lst ys) := same_new np _ _ hD2
        refine ⟨_, hD3, ?_, same_off nD2 (s3.trans (same_new np)) off_upd, _, upd_same, ?_⟩
        · have := hy.len
          rw [List.length_map, List.length_take] at this
          exact small1000 (by omega)
        · rw [take_snoc ht, List.map_append]
          exact (off_upd.tis hD3 (hy.same (same_new np))).snoc (off_upd.ti hD3 ⟨p, rfl, .of upd_same⟩)
      · rintro H3 ⟨s3, ys, hD2, hy⟩
        rw [hlen, List.take_length] at hy
        have yl := hy.len
        rw [List.length_map] at yl
        refine ⟨_, rfl, _, rfl, _, rfl, _, _, rfl, .of hD2, fun p np => ?_⟩
        have cut : cutV ys (some 1) none = ys.drop 1 := by
          show (ys.drop (HT.sIx ys.length 0 (some ((1 : Nat) : Int)))).take (ys.length - HT.sIx ys.length 0 (some ((1 : Nat) : Int))) = ys.drop 1
          rw [HT.sIx_nat]
          rcases ys with _ | ⟨y, ys⟩
          · rfl
          · rw [Nat.min_eq_left (by simp)]
            simp
        have hz := walk_zip (K := K) (a := D2) (b := p) (xs := ys) (ys := ys.drop 1) (n := ys.length - 1) (by rw [List.length_drop]; omega)
        rw [cut]
        have hD4 : (upd H3 p (.lst (ys.drop 1))) D2 = some (.lst ys) := same_new np _ _ hD2
        refine ⟨_, _, _, _, rfl, .inl ⟨.of hD4, .of upd_same, fun D3 nD3 => lc_it hz (fun i H' => Same (upd H3 p (.lst (ys.drop 1))) H' ∧ H' D3 = some (.lst ((List.replicate i true).map V.bl))) ⟨same_new nD3, upd_same⟩ (fun i H' _ h => ⟨.of (h.1 _ _ hD4), .of (h.1 _ _ upd_same)⟩) ?_ ?_⟩⟩
        · rintro i x H4 H5 hi ⟨s4, hD5⟩ ⟨q, x1, x2, rfl, nq, rfl, e1, e2⟩
          have e2' : ys[i + 1]? = some x2 := by
            have e2b : (List.drop 1 ys)[i]? = some x2 := e2
            rw [List.getElem?_drop] at e2b
            rw [Nat.add_comm]
            exact e2b
          obtain ⟨t1, g1, y1⟩ := hy.get e1
          obtain ⟨t2, g2, y2⟩ := hy.get e2'
          have s5 : Same H3 (upd H4 q (.tup [x1, x2])) := (same_new np).trans (s4.trans (same_new nq))
          obtain ⟨a1, rfl, z1⟩ := y1.same s5
          obtain ⟨a2, rfl, z2⟩ := y2.same s5
          have lt : HT.lexLt t1 t2 = true := by
            obtain ⟨l1, e1⟩ := List.getElem?_eq_some_iff.mp g1
            obtain ⟨l2, e2⟩ := List.getElem?_eq_some_iff.mp g2
            have := List.pairwise_iff_getElem.mp va.as i (i + 1) l1 l2 (by omega)
            rw [e1, e2] at this
            exact this
          refine ⟨_, _, rfl, .of upd_same, rfl, _, _, rfl, _, _, rfl, rfl, rfl, _, rfl, _, rfl, _, _, _, _, rfl, rfl, z1, z2, ?_⟩
          rw [lt]
          have hD6 := same_new (o := .tup [.ref a1, .ref a2]) nq _ _ hD5
          refine ⟨_, hD6, ?_, same_off nD3 (s4.trans (same_new nq)) off_upd, ?_⟩
          · rw [List.length_map, List.length_replicate]
            exact small1000 (by omega)
          · rw [upd_same, List.replicate_succ', List.map_append]
            rfl
        · rintro H4 ⟨s4, hD5⟩
          refine ⟨_, _, rfl, .of hD5, ?_⟩
          have e : (List.replicate (ys.length - 1) true).all id = true := by simp
          rw [e]
          exact k _ (s2.trans (s3.trans ((same_new np).trans s4)))
end
end Sk

namespace Sk
open PySem L2 Ow
/-! the bond of two letters, in numbers -/
def isPr (i j : Int) (t : List Int) : Bool := (t.take 2 == [i, j]) || (t.take 2 == [j, i])
def bondOf (bs : List (List Int)) (i j : Int) : Int := match bs.filter (isPr i j) with
  | [] => 2
  | t :: _ => t.getD 2 0
theorem eqv2 (a b c d : Int) : PyData.eqv (dT [a, b]) (dT [c, d]) = (([a, b] : List Int) == [c, d]) := by
  simp [dT, PyData.eqv, PyData.eqvAll]
section
variable {P : Program} {w : World} {K : PySem.W.Frag} {mg : Str → Option Value} {base : Heap} {C : Addr}
theorem ok_init (T : Txt K mg C) {f e : Addr} {fd : FuncData} (D : FunD K "__init__" "System.__init__" (defArgs s_init) (defBody s_init) (defScope s_init) [.ref e] [] f fd) : FnOk P w K mg base CX0 4 f fd ["self", "letters", "bonds"] (spInit K C) := by
  refine D.ok sc_init (fun vs H Q E h => ?_) (fun cdv A outer s H vs Q E hr h => ?_)
  · obtain ⟨p, dx, n, bv, bs, rfl, _⟩ := h
    rfl
  · obtain ⟨p, dx, n, bv, bs, rfl, hb, va, hp, q⟩ := h
    refine ⟨_, (pss_cons (ps_if (pt_not (pt_val (pe_cal (cal_is_within T) (hr.mono (by decide)) (by rfl) (pa_cons (pv 1) (pa_cons pe_int (pa_cons (C8.pe_gc (v := .int 4) (by rfl) T.g_MAX_LETTERS) pa_nil)))))) (pss_one ps_never) pss_nil)
      (pss_cons (ps_if (pt_not (pt_val (pe_cal (cal_are_bonds T) (hr.mono (by decide)) (by rfl) (pa_cons (pv 1) (pa_cons (pv 2) pa_nil))))) (pss_one ps_never) pss_nil)
      (pss_cons (ps_fld (pv 0) (pv 1) rfl)
      (pss_one (ps_fld (pv 0) (pv 2) rfl))))), ?_⟩
    refine ⟨_, rfl, _, _, _, rfl, _, rfl, iteNT' (by rw [decide_eq_true va.lo, decide_eq_true va.hi]; rfl) ?_⟩
    refine ⟨_, rfl, _, rfl, n, bv, bs, rfl, hb, va, fun H1 s1 => ⟨_, rfl, iteF ?_⟩⟩
    refine ⟨_, rfl, _, rfl, p, C, dx, [], rfl, s1 _ _ hp, T.cl, T.nL, (by decide), _, rfl, _, rfl, p, C, dx, _, rfl, upd_same, T.cl, T.nB, (show 1 < 1000 by decide), ?_⟩
    show Q .non (upd (upd H1 p _) p _)
    rw [upd_upd]
    exact q _ s1
/-- a new system -/
def NewS (K : PySem.W.Frag) (C : Addr) (H : Hp) (Q : VK) (n : Int) (bv : V) (bs : List (List Int)) : Prop := ∀ (r : Addr) (H' : Hp), Same H H' → H r = none → SysAt K C H' r n bv bs → Q (.ref r) H'
def tSys (K : PySem.W.Frag) (C : Addr) (t : TA) : TE := fun σ H Q => t σ H fun vs H1 => ∃ n bv bs, (vs = [.int n, bv] ∨ (vs = [.int n] ∧ bs = [] ∧ ∃ e, bv = .ref e)) ∧ (vs = [.int n, bv] → BsAt K H1 bv bs) ∧ Valid n bs ∧ ∀ bv, NewS K C H1 Q n bv bs
section
variable {X : Cx} {k : Nat} {e : Expr} {es : List Expr} {ta : TE} {t : TA} {p pos : Pos}
theorem run_sys {pins : List (Addr × Obj)} {σ : L2.St} {H1 : Hp} {s1 : Shared} {Q : VK} {us : List Value} {vs : List V} (T : Txt X.K X.mg C) (hr : Room 5 X.A) (I1 : Inv X pins σ H1 s1) (r : Vals vs us) {f fd e0} (M : Mk X.K C f) (D : FunD X.K "__init__" "System.__init__" (defArgs s_init) (defBody s_init) (defScope s_init) [.ref e0] [] f fd) (sE : ∀ H, SqT X.K H e0 [])
    (h : ∃ n bv bs, (vs = [.int n, bv] ∨ (vs = [.int n] ∧ bs = [] ∧ ∃ e, bv = .ref e)) ∧ (vs = [.int n, bv] → BsAt X.K H1 bv bs) ∧ Valid n bs ∧ ∀ bv, NewS X.K C H1 Q n bv bs) : wpAny (model X.prog X.w) X.A (call (.ref C) us) (EP X pins σ Q) X.xe s1 := by
  obtain ⟨n, bv, bs, hvs, hb, va, q⟩ := h
  have b2 : ∃ ds, Vals (([.ref e0] : List V).drop 1) ds ∧ Binds X.K fd ["self", "letters", "bonds"] ds := by
    refine D.binds1 3 1 (by simp) rfl fun T kV doc pm an cdv ct us its hl hi => ?_
    match us, hl, its, hi with
    | [_, _, _], _, [_], _ => exact ⟨_, rfl, rfl⟩
  have b1 : ∃ ds, Vals (([.ref e0] : List V).drop 0) ds ∧ Binds X.K fd ["self", "letters", "bonds"] ds := by
    refine D.binds1 2 0 (by simp) rfl fun T kV doc pm an cdv ct us its hl hi => ?_
    match us, hl, its, hi with
    | [_, _], _, [_], _ => exact ⟨_, rfl, rfl⟩
  obtain ⟨d2, v2, b2⟩ := b2
  obtain ⟨d1, v1, b1⟩ := b1
  have fin : ∀ bv, BsAt X.K H1 bv bs → ∀ x dx, H1 x = none → H1 dx = none → dx ≠ x → spInit X.K C [.ref x, .int n, bv] (upd (upd H1 dx (.own x)) x (.ins C dx [])) (fun v H2 => v = .non ∧ Q (.ref x) H2) E0 := fun bv hb x dx nx ndx ne => by
    have s0 : Same H1 (upd (upd H1 dx (.own x)) x (.ins C dx [])) := fun c o e => by
      rw [upd_ne (ne_of_none e nx), upd_ne (ne_of_none e ndx)]
      exact e
    refine ⟨x, dx, n, bv, bs, rfl, hb.same s0, va, upd_same, fun H' s' => ⟨rfl, ?_⟩⟩
    have sx : Same H1 (upd H' x (.ins C dx (sf n bv))) := fun c o e => by
      rw [upd_ne (ne_of_none e nx)]
      exact s' _ _ (s0 _ _ e)
    exact q bv x _ sx nx ⟨⟨dx, upd_same⟩, hb.same sx⟩
  rcases hvs with rfl | ⟨rfl, rfl, _⟩
  · exact run_make M (ok_init T D) hr b2 v2 pass0 I1 r (fin bv (hb rfl))
  · exact run_make M (ok_init T D) hr b1 v1 pass0 I1 r (fin (.ref e0) ⟨e0, [], rfl, sE _, trivial⟩)
theorem pe_sys (T : Txt X.K X.mg C) (hr : Room 5 X.A) (hg : Gl X "System") (ha : PA X (e :: es) t)
    (he : starEach (e :: es) X.env = (false, eval e X.env) :: starEach es X.env := by rfl) (hpl : (backTo pos (starEach es X.env)).any (·.1) = false := by rfl) : PE X (.Call (.Name "System" p) (e :: es) [] pos) (tSys X.K C t) := by
  obtain ⟨f, fd, e0, M, D, sE⟩ := T.mkS
  refine ⟨fun pins s σ H Q I h => ?_⟩
  refine wpAny_Call_Name_kw (ld_glob I hg T.mgSystem ?_ (by decide))
  refine PySem.W.callWith_K (h₀ := X.base) I.ok.mod.kin M.kp (thn (ha.run pos pins s σ H _ I h) fun us s1 ⟨vs, H1, I1, r, q⟩ => ⟨I1.kIn, run_sys T hr I1 r M D sE q⟩) he hpl
end
def spL (K : PySem.W.Frag) (C : Addr) : Sp := fun vs H Q _ => ∃ (p : Addr) (n : Int) (bv : V) (bs : List (List Int)), vs = [.ref p] ∧ SysAt K C H p n bv bs ∧ Q (.int n) H
def spB (K : PySem.W.Frag) (C : Addr) : Sp := fun vs H Q _ => ∃ (p : Addr) (n : Int) (bv : V) (bs : List (List Int)), vs = [.ref p] ∧ SysAt K C H p n bv bs ∧ Q bv H
def spBondOf (K : PySem.W.Frag) (C : Addr) : Sp := fun vs H Q _ => ∃ (p : Addr) (n : Int) (bv : V) (bs : List (List Int)) (i j : Int), vs = [.ref p, .int i, .int j] ∧ SysAt K C H p n bv bs ∧ Valid n bs ∧ 0 ≤ i ∧ i < n ∧ 0 ≤ j ∧ j < n ∧ i ≠ j ∧
  ∀ H' : Hp, Same H H' → Q (.int (bondOf bs i j)) H'
theorem ok_letters (T : Txt K mg C) {f : Addr} {fd : FuncData} (D : Fun K "letters" "System.letters" s_letters f fd) : FnOk P w K mg base CX0 1 f fd ["self"] (spL K C) := by
  refine D.ok sc_letters (fun vs H Q E h => ?_) (fun cdv A outer s H vs Q E hr h => ?_)
  · obtain ⟨p, n, bv, bs, rfl, _⟩ := h
    rfl
  · obtain ⟨p, n, bv, bs, rfl, ⟨⟨dx, g⟩, hb⟩, q⟩ := h
    exact ⟨_, (pss_one (ps_ret (pe_fld (pv 0) rfl))), _, rfl, _, _, _, _, _, rfl, g, T.cl, T.nL, sf_l _ _, q⟩
theorem ok_bond_of (T : Txt K mg C) {f : Addr} {fd : FuncData} (D : Fun K "bond_of" "System.bond_of" s_bond_of f fd) : FnOk P w K mg base CX0 2 f fd ["self", "one", "other"] (spBondOf K C) := by
  refine D.ok sc_bond_of (fun vs H Q E h => ?_) (fun cdv A outer s H vs Q E hr h => ?_)
  · obtain ⟨p, n, bv, bs, i, j, rfl, _⟩ := h
    rfl
  · obtain ⟨p, n, bv, bs, i, j, rfl, ⟨⟨dx, g⟩, hb⟩, va, i0, i1, j0, j1, ne, k⟩ := h
    refine ⟨_, (pss_cons (ps_if (pt_not (pt_val (pe_cal (cal_is_within T) (hr.mono (by decide)) (by rfl) (pa_cons (pv 1) (pa_cons pe_int (pa_cons (pe_op op_sub (pe_fld (pv 0) rfl) pe_int) pa_nil)))))) (pss_one ps_never) pss_nil)
      (pss_cons (ps_if (pt_not (pt_val (pe_cal (cal_is_within T) (hr.mono (by decide)) (by rfl) (pa_cons (pv 2) (pa_cons pe_int (pa_cons (pe_op op_sub (pe_fld (pv 0) rfl) pe_int) pa_nil)))))) (pss_one ps_never) pss_nil)
      (pss_cons (ps_if (pt_cmpR op_eq (pv 1) (pv 2) (nomark _)) (pss_one ps_never) pss_nil)
      (pss_cons (ps_setLc (i := 3) (own := [("low", 4), ("high", 5), ("bond", 6)]) (g := gTup K 3 (gCons (gName 4) (gCons (gName 5) (gCons (gName 6) (gNil))))) rfl sc_bond_of.nd rfl rfl (sw_true rfl rfl rfl (by decide +kernel)) (pi_tup (pe_fld (pv 0) rfl)) (blkOk_by (own := [("low", 4), ("high", 5), ("bond", 6)]) (N := ["self", "one", "other", "told", "low", "high", "bond"]) (sc := defScope s_bond_of) (by decide +kernel)) (fun _ _ _ _ _ => (pg_tup (by rfl) (pgs_cons (pg_name (i := 4) sc_bond_of.nd rfl (Or.inl rfl)) (pgs_cons (pg_name (i := 5) sc_bond_of.nd rfl (Or.inl rfl)) (pgs_cons (pg_name (i := 6) sc_bond_of.nd rfl (Or.inl rfl)) pgs_nil))))) (fun _ _ _ _ _ => (pts_one (pt_cmpR (show OpR _ _ (rInT K) from (op_inT (u65 hr))) (pe_tup (pa_cons (pv 4) (pa_cons (pv 5) pa_nil))) (pe_tup (pa_cons (pe_tup (pa_cons (pv 1) (pa_cons (pv 2) pa_nil))) (pa_cons (pe_tup (pa_cons (pv 2) (pa_cons (pv 1) pa_nil))) pa_nil))) (by rfl)))) (fun _ _ _ _ _ => (pv 6)))
      (pss_one (ps_ret (pe_ifExp (pt_truth (pv 3) (by intro _; rfl)) (pe_ix ix_list (pv 3) pe_int (fun _ _ => rfl)) pe_int))))))), ?_⟩
    refine ⟨_, rfl, _, rfl, _, _, _, _, _, rfl, g, T.cl, T.nL, sf_l _ _, _, _, rfl, rfl, _, _, _, rfl, _, rfl, iteNT' (by rw [decide_eq_true i0, decide_eq_true (show i ≤ n - 1 by omega)]; rfl) ?_⟩
    refine ⟨_, rfl, _, rfl, _, _, _, _, _, rfl, g, T.cl, T.nL, sf_l _ _, _, _, rfl, rfl, _, _, _, rfl, _, rfl, iteNT' (by rw [decide_eq_true j0, decide_eq_true (show j ≤ n - 1 by omega)]; rfl) ?_⟩
    refine ⟨_, rfl, _, rfl, rfl, _, rfl, ite2 (fun h => absurd (V.int.inj (of_decide_eq_true h)) ne) (fun _ => ?_)⟩
    obtain ⟨a, xs, rfl, ha, hx⟩ := hb
    have hlen := hx.len
    have few := va.few
    refine ⟨_, rfl, _, _, _, _, _, rfl, g, T.cl, T.nB, sf_b _ _, a, rfl, ⟨_, ha⟩, fun D nD => lc_tup (K := K) (a := a) (xs := xs) (fun m H' => Same H H' ∧ H' D = some (.lst (((bs.take m).filter (isPr i j)).map fun t => V.int (t.getD 2 0)))) ⟨same_new nD, upd_same⟩ (fun m H' _ h => sqT_same h.1 ha) ?_ ?_⟩
    · rintro m x H2 hm ⟨s2, hD⟩
      obtain ⟨t, ht, tx⟩ := hx.get hm
      have ilt := (List.getElem?_eq_some_iff.mp hm).1
      obtain ⟨b, rfl, hb⟩ := tx.same s2
      obtain ⟨l, h, d, rfl, _⟩ := va.tr t (List.mem_of_getElem? ht)
      refine ⟨_, _, rfl, hb, rfl, _, _, rfl, _, _, rfl, _, _, rfl, rfl, rfl, ?_⟩
      refine ⟨_, rfl, _, rfl, show 2 ≤ sizeLine by decide, fun p1 n1 => ?_⟩
      refine ⟨_, rfl, _, rfl, show 2 ≤ sizeLine by decide, fun p2 n2 => ?_⟩
      refine ⟨_, rfl, _, rfl, show 2 ≤ sizeLine by decide, fun p3 n3 => ?_⟩
      refine ⟨show 2 ≤ sizeLine by decide, fun p4 n4 => ?_⟩
      have S4 : Same H2 (upd (upd (upd (upd H2 p1 (.tup [.int l, .int h])) p2 (.tup [.int i, .int j])) p3 (.tup [.int j, .int i])) p4 (.tup [.ref p2, .ref p3])) := (same_new n1).trans ((same_new n2).trans ((same_new n3).trans (same_new n4)))
      have g1 : (upd (upd (upd (upd H2 p1 (.tup [.int l, .int h])) p2 (.tup [.int i, .int j])) p3 (.tup [.int j, .int i])) p4 (.tup [.ref p2, .ref p3])) p1 = some (.tup [.int l, .int h]) := same_new n4 _ _ (same_new n3 _ _ (same_new n2 _ _ upd_same))
      have g2 : (upd (upd (upd (upd H2 p1 (.tup [.int l, .int h])) p2 (.tup [.int i, .int j])) p3 (.tup [.int j, .int i])) p4 (.tup [.ref p2, .ref p3])) p2 = some (.tup [.int i, .int j]) := same_new n4 _ _ (same_new n3 _ _ upd_same)
      have g3 : (upd (upd (upd (upd H2 p1 (.tup [.int l, .int h])) p2 (.tup [.int i, .int j])) p3 (.tup [.int j, .int i])) p4 (.tup [.ref p2, .ref p3])) p3 = some (.tup [.int j, .int i]) := same_new n4 _ _ upd_same
      have g4 : (upd (upd (upd (upd H2 p1 (.tup [.int l, .int h])) p2 (.tup [.int i, .int j])) p3 (.tup [.int j, .int i])) p4 (.tup [.ref p2, .ref p3])) p4 = some (.tup [.ref p2, .ref p3]) := upd_same
      generalize (upd (upd (upd (upd H2 p1 (.tup [.int l, .int h])) p2 (.tup [.int i, .int j])) p3 (.tup [.int j, .int i])) p4 (.tup [.ref p2, .ref p3])) = H4 at S4 g1 g2 g3 g4
      have dz : ∀ {q : Addr} {u v : Int}, H4 q = some (.tup [.int u, .int v]) → Dp K H4 (.ref q) (dT [u, v]) := fun {q u v} g => TI.dp (ns := [u, v]) ⟨q, rfl, .of g⟩
      refine ⟨dT [l, h], [dT [i, j], dT [j, i]], dz g1, .tup (.of g4) (.cons (dz g2) (.cons (dz g3) .nil)), sh_dT _, sh_dB [[i, j], [j, i]], _, rfl, ?_⟩
      have hD4 := S4 _ _ hD
      have et : ([dT [i, j], dT [j, i]].any fun z => PyData.eqv z (dT [l, h])) = isPr i j [l, h, d] := by
        simp only [List.any_cons, List.any_nil, Bool.or_false, eqv2]
        unfold isPr
        rw [show ([l, h, d] : List Int).take 2 = [l, h] from rfl]
        congr 1 <;> exact Bool.beq_comm
      rw [et]
      refine ite2 (fun hp => ?_) (fun hp => ?_)
      · refine ⟨_, rfl, _, hD4, ?_, same_off nD (s2.trans S4) off_upd, ?_⟩
        · rw [List.length_map]
          have := List.length_filter_le (isPr i j) (bs.take m)
          rw [List.length_take] at this
          exact small1000 (by omega)
        · rw [upd_same, take_snoc ht, List.filter_append, List.map_append, List.filter_cons_of_pos hp]
          rfl
      · refine ⟨s2.trans S4, ?_⟩
        rw [take_snoc ht, List.filter_append, List.filter_cons_of_neg hp, List.filter_nil, List.append_nil]
        exact hD4
    · rintro H2 ⟨s2, hD⟩
      rw [hlen, List.take_length] at hD
      refine ⟨_, rfl, _, .inl ⟨_, .of hD, rfl⟩, ?_⟩
      have kk := k _ s2
      unfold bondOf at kk
      cases hf : bs.filter (isPr i j) with
      | nil =>
        rw [hf] at kk
        exact iteF kk
      | cons t ts =>
        rw [hf] at kk hD
        refine iteT ?_
        exact ⟨_, rfl, _, _, _, _, rfl, rfl, .of hD, at_of (j := 0) rfl rfl, kk⟩
end
end Sk

namespace Sk
open PySem L2 Ow
theorem szl {n : Nat} (h : n ≤ 1000) : n ≤ sizeLine := Nat.le_trans h (by decide)
abbrev Dat := Int × List (List Int)
def okB (d : Dat) : Bool := decide (1 ≤ d.1) && decide (d.1 ≤ 4) && d.2.all (fun t => match t with
  | [l, h, b] => decide (0 ≤ l) && decide (l < h) && decide (h < d.1) && (decide (b = 0) || decide (b = 3) || decide (b = 4) || decide (b = 5) || decide (b = 6))
  | _ => false) && decide ((d.2.map (·.take 2)).Pairwise (fun p q => HT.lexLt p q = true)) && decide (d.2.length ≤ 20)
theorem okB_valid {d : Dat} (h : okB d = true) : Valid d.1 d.2 := by
  unfold okB at h
  simp only [Bool.and_eq_true, decide_eq_true_eq, List.all_eq_true] at h
  obtain ⟨⟨⟨⟨h1, h2⟩, h3⟩, h4⟩, h5⟩ := h
  refine ⟨h1, h2, fun t ht => ?_, h4, h5⟩
  have := h3 t ht
  split at this
  · rename_i l hh b
    simp only [Bool.and_eq_true, Bool.or_eq_true, decide_eq_true_eq] at this
    exact ⟨l, hh, b, rfl, by omega, by omega, by omega, by omega⟩
  · cases this
def tSysL (K : PySem.W.Frag) (i : Nat) (C : Addr) (t : TA) : TE := fun σ H Q => σ[i]? = some (some (.ref C)) ∧ tSys K C t σ H Q
section
variable {X : Cx} {k i : Nat} {C : Addr} {e o : Expr} {es : List Expr} {ta : TE} {t : TA} {p pos apos : Pos} {x : Str}
theorem pe_cls (T : Txt X.K X.mg C) (hr : Room 5 X.A) (hN : X.N[i]? = some x) (hv : Vis X.env.scope x) (ha : PA X (e :: es) t)
    (hdb : (x == ("__debug__" : Str)) = false := by decide) (hcd : (x == ("__classdict__" : Str)) = false := by decide)
    (he : starEach (e :: es) X.env = (false, eval e X.env) :: starEach es X.env := by rfl) (hpl : (backTo pos (starEach es X.env)).any (·.1) = false := by rfl) : PE X (.Call (.Name x p) (e :: es) [] pos) (tSysL X.K i C t) := by
  obtain ⟨f, fd, e0, M, D, sE⟩ := T.mkS
  refine ⟨fun pins s σ H Q I h => ?_⟩
  obtain ⟨hs, ht⟩ := h
  refine wpAny_Call_Name_kw (thn ((pe_var (pos := p) hN hv hdb hcd).run pins s σ H (fun v H1 => v = .ref C ∧ H1 = H) I ⟨.ref C, hs, rfl, rfl⟩) fun u s1 ⟨v, H1, I1, r1, q1⟩ => ?_)
  obtain ⟨rfl, rfl⟩ := q1
  cases r1
  refine PySem.W.callWith_K (h₀ := X.base) I.ok.mod.kin M.kp (thn (ha.run pos pins s1 σ _ _ I1 ht) fun us s2 ⟨vs, H2, I2, r, q⟩ => ⟨I2.kIn, run_sys T hr I2 r M D sE q⟩) he hpl
def nb (a b : Int) : List (List Int) := (List.range (b - 1 - a).toNat).map fun i : Nat => [a + (i : Int), a + (i : Int) + 1, 3]
def rowsD (p : Int) : Dat := (p - 1, nb 0 (p - 1))
def NewD (K : PySem.W.Frag) (C : Addr) (H : Hp) (Q : VK) (d : Dat) : Prop := ∀ (r : Addr) (bv : V) (H' : Hp), Same H H' → H r = none → SysAt K C H' r d.1 bv d.2 → Q (.ref r) H'
def spC (K : PySem.W.Frag) (C : Addr) (dom : Int → Prop) (d : Int → Dat) : Sp := fun vs H Q _ => ∃ i, vs = [.ref C, .int i] ∧ dom i ∧ NewD K C H Q (d i)
def spNb (K : PySem.W.Frag) : Sp := fun vs H Q _ => ∃ a b, vs = [.int a, .int b] ∧ a ≤ 9 ∧ b ≤ 9 ∧ 0 ≤ a ∧ 0 ≤ b ∧ ∀ (v : V) (H' : Hp), Same H H' → BsAt K H' v (nb a b) → Q v H'
theorem NewD.sys {K : PySem.W.Frag} {H H1 : Hp} {Q : VK} {d : Dat} {n : Int} {bs : List (List Int)} (q : NewD K C H Q d) (s : Same H H1) (e : d = (n, bs)) : ∀ bv, NewS K C H1 Q n bv bs := fun bv r H' s' n0 a => q r bv H' (s.trans s') (s.free n0) (by rw [e]; exact a)
end
section
variable {P : Program} {w : World} {K : PySem.W.Frag} {mg : Str → Option Value} {base : Heap} {C : Addr}
theorem cal_neighbours (T : Txt K mg C) : Cal P w K mg base "neighbours" 1 (spNb K) := by
  refine T.d_neighbours.cal (ps := ["first", "letters"]) (fun f fd D => ?_) (fun _ _ _ _ _ _ us hl => match us, hl with | [_, _], _ => rfl)
  refine D.ok sc_neighbours (fun vs H Q E h => ?_) (fun cdv A outer s H vs Q E hr h => ?_)
  · obtain ⟨a, b, rfl, _⟩ := h
    rfl
  · obtain ⟨a, b, rfl, a9, b9, a0, b0, k⟩ := h
    refine ⟨_, (pss_one (ps_ret (pe_callTy call_tuple_of (by rfl) T.b_tuple (by decide +kernel) (pa_cons (pe_lc (own := [("letter", 2)]) (g := gName 2) (tt := tYes) rfl sc_neighbours.nd (pi_range2 (by rfl) T.b_range (pa_cons (pv 0) (pa_cons (pe_op op_sub (pv 1) pe_int) pa_nil))) (blkOk_by (own := [("letter", 2)]) (N := ["first", "letters", "letter"]) (sc := defScope s_neighbours) (by decide +kernel)) (fun _ _ _ _ _ => (pg_name (i := 2) sc_neighbours.nd rfl (Or.inl rfl))) (fun _ _ _ _ _ => pts_nil) (fun _ _ _ _ _ => (pe_tup (pa_cons (pv 2) (pa_cons (pe_op op_add (pv 2) pe_int) (pa_cons pe_int pa_nil)))))) pa_nil)))), ?_⟩
    refine ⟨_, rfl, _, rfl, _, _, rfl, rfl, _, _, rfl, ⟨by omega, by omega, by omega, by omega⟩, fun D nD => lc_range (lo := a) (n := (b - 1 - a).toNat) (fun i H' => ∃ xs, Same H H' ∧ H' D = some (.lst xs) ∧ TIs K H' xs ((List.range i).map fun i : Nat => [a + (i : Int), a + (i : Int) + 1, 3])) ⟨[], same_new nD, upd_same, trivial⟩ ?_ ?_⟩
    · rintro i H2 hi ⟨xs, s2, hD, hx⟩
      refine ⟨rfl, ?_⟩
      refine ⟨_, rfl, _, rfl, _, _, rfl, rfl, show 3 ≤ sizeLine by decide, fun q nq => ?_⟩
      have hl := hx.len
      rw [List.length_map, List.length_range] at hl
      have hD3 := same_new (o := .tup [.int (a + i), .int (a + i + 1), .int 3]) nq _ _ hD
      refine ⟨_, hD3, small1000 (by omega), _, same_off nD (s2.trans (same_new nq)) off_upd, upd_same, ?_⟩
      rw [List.range_succ, List.map_append]
      exact (off_upd.tis hD3 (hx.same (same_new nq))).snoc (off_upd.ti hD3 ⟨q, rfl, .of upd_same⟩)
    · rintro H2 ⟨xs, s2, hD, hx⟩
      refine ⟨_, xs, rfl, .inl ⟨.of hD, fun q nq => ?_⟩⟩
      exact k _ _ (s2.trans (same_new nq)) ⟨q, xs, rfl, .of upd_same, hx.same (same_new nq)⟩
theorem ok_rows (T : Txt K mg C) {f : Addr} {fd : FuncData} (D : Fun K "rows" "System.rows" s_rows f fd) : FnOk P w K mg base CX0 6 f fd ["cls", "places"] (spC K C (fun p => 2 ≤ p ∧ p ≤ 5) rowsD) := by
  refine D.ok sc_rows (fun vs H Q E h => ?_) (fun cdv A outer s H vs Q E hr h => ?_)
  · obtain ⟨i, rfl, _⟩ := h
    rfl
  · obtain ⟨i, rfl, ⟨h2, h5⟩, q⟩ := h
    refine ⟨_, (pss_cons (ps_if (pt_not (pt_val (pe_cal (cal_is_within T) (hr.mono (by decide)) (by rfl) (pa_cons (pv 1) (pa_cons pe_int (pa_cons (pe_op op_add (C8.pe_gc (v := .int 4) (by rfl) T.g_MAX_LETTERS) pe_int) pa_nil)))))) (pss_one ps_never) pss_nil)
      (pss_one (ps_ret (pe_cls (i := 0) T (hr.mono (by decide)) rfl (Or.inl rfl) (pa_cons (pe_op op_sub (pv 1) pe_int) (pa_cons (pe_cal (cal_neighbours T) (hr.mono (by decide)) (by rfl) (pa_cons pe_int (pa_cons (pe_op op_sub (pv 1) pe_int) pa_nil))) pa_nil)))))), ?_⟩
    refine ⟨_, rfl, _, _, rfl, rfl, _, _, _, rfl, _, rfl, iteNT' (by rw [decide_eq_true h2, decide_eq_true (show i ≤ 4 + 1 by omega)]; rfl) ?_⟩
    refine ⟨rfl, _, rfl, _, _, rfl, rfl, _, rfl, _, _, rfl, rfl, _, _, rfl, by omega, by omega, by omega, by omega, fun v H1 s1 hb => ?_⟩
    refine ⟨_, v, nb 0 (i - 1), .inl rfl, fun _ => hb, okB_valid (d := rowsD i) ?_, q.sys s1 rfl⟩
    have : i = 2 ∨ i = 3 ∨ i = 4 ∨ i = 5 := by omega
    rcases this with rfl | rfl | rfl | rfl <;> decide
theorem unraw {CX : CXT} {n : Nat} {g : Addr} {fd : FuncData} {ps : List Str} {sp : Sp} (F : FnOk P w K mg base CX n g fd ps sp) (hb : Binds K fd ps []) : FnR P w K mg base CX n g sp := (F.raw hb .nil).imp fun vs H Q E h => by rw [List.append_nil]; exact h
section
variable {X : Cx} {o e : Expr} {ta : TE} {t : TA} {apos pos : Pos}
theorem pe_cRows {pl : Sem Bool} (T : Txt X.K X.mg C) (hr : Room 6 X.A) (he : PE X o ta) (ha : PA X [e] t)
    (hst : starEach [e] X.env = (false, eval e X.env) :: starEach [] X.env := by rfl)
    (ht : eval (.Call (.Attribute o "rows" apos) [e] [] pos) X.env = (do
      let ov ← eval o X.env
      standAt apos.atName
      let (f, first) ← holding [ov] (getMethod ov "rows" pl)
      callWith pos f first (backTo pos (starEach [e] X.env)) (backToKw pos (keywordEach [] X.env))) := by rfl) :
    PE X (.Call (.Attribute o "rows" apos) [e] [] pos) (ClX.tCMeth C (spC X.K C (fun p => 2 ≤ p ∧ p ≤ 5) rowsD) E0 ta t) := by
  obtain ⟨_, _, _, c, D⟩ := T.cRows
  exact ClX.pe_cmeth he T.crd c (unraw (ok_rows T D) (D.binds fun _ _ _ _ _ _ us hl => match us, hl with | [_, _], _ => rfl)) hr pass0 ha hst rfl ht
end
section
variable {X : Cx} {e : Expr} {es : List Expr} {ta : TE} {t : TA} {apos pos : Pos}
theorem pe_sletters (T : Txt X.K X.mg C) (hr : Room 2 X.A) (he : PE X e ta) (hab : attributeBase e "letters" X.env (eval e X.env) = eval e X.env := by rfl) : PE X (.Attribute e "letters" pos) (tProp C (spL X.K C) [] E0 ta) := by
  obtain ⟨_, _, _, hp, D⟩ := T.pL
  exact pe_prop he T.cl hp (ok_letters T D) hr (D.binds fun _ _ _ _ _ _ us hl => match us, hl with | [_], _ => rfl) .nil pass0 hab
theorem pe_bond_of {pl : Sem Bool} {o : Expr} (T : Txt X.K X.mg C) (hr : Room 2 X.A) (he : PE X o ta) (ha : PA X (e :: es) t)
    (hst : starEach (e :: es) X.env = (false, eval e X.env) :: starEach es X.env := by rfl) (hpl : (backTo pos (starEach es X.env)).any (·.1) = false := by rfl)
    (ht : eval (.Call (.Attribute o "bond_of" apos) (e :: es) [] pos) X.env = (do
      let ov ← eval o X.env
      standAt apos.atName
      let (f, first) ← holding [ov] (getMethod ov "bond_of" pl)
      callWith pos f first (backTo pos (starEach (e :: es) X.env)) (backToKw pos (keywordEach [] X.env))) := by rfl) :
    PE X (.Call (.Attribute o "bond_of" apos) (e :: es) [] pos) (tMeth C "bond_of" (spBondOf X.K C) [] E0 ta t) := by
  obtain ⟨_, _, D, m⟩ := T.mBond
  exact pe_meth he T.cl ⟨m.at_, m.fn, D.kp⟩ (ok_bond_of T D) hr (D.binds fun _ _ _ _ _ _ us hl => match us, hl with | [_, _, _], _ => rfl) .nil pass0 ha hst hpl ht
end
end
end Sk

namespace Sk
open PySem L2 Ow
/-- a def of the module by its raw promise -/
structure CalR (P : Program) (w : World) (K : PySem.W.Frag) (mg : Str → Option Value) (base : Heap) (x : Str) (k : Nat) (sp : Sp) : Prop where
  ex : ∃ f, FnR P w K mg base CX0 k f sp ∧ mg x = some (.ref f) ∧ PySem.W.keepIn K (.ref f) = true
theorem pe_calR {X : Cx} {x : Str} {k : Nat} {sp : Sp} {e : Expr} {es : List Expr} {t : TA} {p pos : Pos} (C : CalR X.prog X.w X.K X.mg X.base x k sp) (hr : Room k X.A) (hg : Gl X x) (ha : PA X (e :: es) t) (hdb : (x == ("__debug__" : Str)) = false := by decide)
    (he : starEach (e :: es) X.env = (false, eval e X.env) :: starEach es X.env := by rfl) (hpl : (backTo pos (starEach es X.env)).any (·.1) = false := by rfl) : PE X (.Call (.Name x p) (e :: es) [] pos) (tCall sp [] E0 t) := by
  obtain ⟨f, F, hm, hk⟩ := C.ex
  refine ⟨fun pins s σ H Q I h => ?_⟩
  refine wpAny_Call_Name_kw (ld_glob I hg hm ?_ hdb)
  refine PySem.W.callWith_K (h₀ := X.base) I.ok.mod.kin hk (thn (ha.run pos pins s σ H _ I h) fun us s1 ⟨vs, H1, I1, r, q⟩ => ⟨I1.kIn, wpAny_call (run_fnR F hr pass0 I1 r ?_)⟩) he hpl
  have q' : sp (vs ++ []) H1 Q E0 := q
  rw [List.append_nil] at q'
  exact q'
def Wd (n : Int) (ws : List Int) : Prop := (∀ x ∈ ws, 0 ≤ x ∧ x < n) ∧ ws.length ≤ 40
def spLetter (K : PySem.W.Frag) (C : Addr) : Sp := fun vs H Q _ => ∃ (p : Addr) (n : Int) (bv : V) (bs : List (List Int)) (i : Int), vs = [.ref p, .int i] ∧ SysAt K C H p n bv bs ∧ Q (.bl (decide (0 ≤ i) && decide (i ≤ n - 1))) H
def spWord (K : PySem.W.Frag) (C : Addr) : Sp := fun vs H Q _ => ∃ (p : Addr) (n : Int) (bv : V) (bs : List (List Int)) (v : V) (ws : List Int), vs = [.ref p, v] ∧ SysAt K C H p n bv bs ∧ TI K H v ws ∧ Wd n ws ∧ ∀ H', Same H H' → Q (.bl true) H'
def spCSys (K : PySem.W.Frag) (C : Addr) : Sp := fun vs H Q _ => ∃ (p : Addr) (n : Int) (bv : V) (bs : List (List Int)), vs = [.ref p] ∧ SysAt K C H p n bv bs ∧ Q .non H
def spCWord (K : PySem.W.Frag) (C : Addr) : Sp := fun vs H Q _ => ∃ (p : Addr) (n : Int) (bv : V) (bs : List (List Int)) (v : V) (ws : List Int), vs = [.ref p, v] ∧ SysAt K C H p n bv bs ∧ TI K H v ws ∧ Wd n ws ∧ ∀ H', Same H H' → Q .non H'
def TWs (K : PySem.W.Frag) (H : Hp) (n : Int) (vs : List V) : Prop := ∀ v ∈ vs, ∃ ws, TI K H v ws ∧ Wd n ws
def spCWords (K : PySem.W.Frag) (C : Addr) : Sp := fun vs H Q _ => ∃ (p : Addr) (n : Int) (bv : V) (bs : List (List Int)) (us : List V), vs = .ref p :: us ∧ us.length ≤ 1000 ∧ SysAt K C H p n bv bs ∧ TWs K H n us ∧ ∀ H', Same H H' → Q .non H'
section
variable {P : Program} {w : World} {K : PySem.W.Frag} {mg : Str → Option Value} {base : Heap} {C : Addr}
theorem cal_is_letter (T : Txt K mg C) : Cal P w K mg base "is_letter" 3 (spLetter K C) := by
  refine T.d_is_letter.cal (ps := ["system", "value"]) (fun f fd D => ?_) (fun _ _ _ _ _ _ us hl => match us, hl with | [_, _], _ => rfl)
  refine D.ok sc_is_letter (fun vs H Q E h => ?_) (fun cdv A outer s H vs Q E hr h => ?_)
  · obtain ⟨p, n, bv, bs, i, rfl, _⟩ := h
    rfl
  · obtain ⟨p, n, bv, bs, i, rfl, y, k⟩ := h
    obtain ⟨dx, g⟩ := id y.1
    refine ⟨_, (pss_one (ps_ret (pe_cal (cal_is_within T) (hr.mono (by decide)) (by rfl) (pa_cons (pv 1) (pa_cons pe_int (pa_cons (pe_op op_sub (pe_sletters T (hr.mono (by decide)) (pv 0)) pe_int) pa_nil)))))), ?_⟩
    exact ⟨_, rfl, _, rfl, p, dx, _, rfl, g, p, n, bv, bs, rfl, y, _, _, rfl, rfl, _, _, _, rfl, k⟩
theorem cal_is_word (T : Txt K mg C) : Cal P w K mg base "is_word" 4 (spWord K C) := by
  refine T.d_is_word.cal (ps := ["system", "value"]) (fun f fd D => ?_) (fun _ _ _ _ _ _ us hl => match us, hl with | [_, _], _ => rfl)
  refine D.ok sc_is_word (fun vs H Q E h => ?_) (fun cdv A outer s H vs Q E hr h => ?_)
  · obtain ⟨p, n, bv, bs, v, ws, rfl, _⟩ := h
    rfl
  · obtain ⟨p, n, bv, bs, v, ws, rfl, y, ⟨a, rfl, ha⟩, hw, k⟩ := h
    have h40 := hw.2
    have ll : (ws.map V.int).length = ws.length := List.length_map _
    refine ⟨_, (pss_cons (ps_if (PW.pt (pw_or (pt_not (pt_val (pe_callB call_isi (by rfl) T.b_isinstance (by decide +kernel) (pa_cons (pv 1) (pa_cons (pe_bltn (v := .ty "tuple") (by rfl) T.b_tuple (by decide +kernel) rfl) pa_nil))))) (pw_or1 (pt_cmpR op_gt (pe_callB call_len_seq (by rfl) T.b_len (by decide +kernel) (pa_cons (pv 1) pa_nil)) (C8.pe_gc (v := .int 40) (by rfl) T.g_LONGEST_WORD) (nomark _))))) (pss_one (ps_ret pe_bl)) pss_nil)
      (pss_one (ps_ret (pe_callB (cr_all rfl) (by rfl) T.b_all (by decide +kernel) (pa_cons (pe_lc (own := [("letter", 2)]) (g := gName 2) (tt := tYes) rfl sc_is_word.nd (pi_tup (pv 1)) (blkOk_by (own := [("letter", 2)]) (N := ["system", "value", "letter"]) (sc := defScope s_is_word) (by decide +kernel)) (fun _ _ _ _ _ => (pg_name (i := 2) sc_is_word.nd rfl (Or.inl rfl))) (fun _ _ _ _ _ => pts_nil) (fun _ _ _ _ _ => (pe_cal (cal_is_letter T) (hr.mono (by decide)) (by rfl) (pa_cons (pv 0) (pa_cons (pv 2) pa_nil))))) pa_nil))))), ?_⟩
    refine ⟨_, rfl, _, _, _, _, true, rfl, .ty "tuple", tup_ty ha, kit_ty (by decide +kernel), _, rfl, iteF ?_⟩
    refine ⟨_, rfl, _, _, rfl, .inr ha, _, _, rfl, rfl, _, rfl, ite2 (fun z => absurd (of_decide_eq_true z) (by rw [ll]; omega)) (fun _ => ?_)⟩
    refine ⟨_, rfl, a, rfl, ⟨_, ha⟩, fun D nD => lc_tup (K := K) (a := a) (xs := ws.map V.int) (fun i H' => Same H H' ∧ H' D = some (.lst ((List.replicate i true).map V.bl))) ⟨same_new nD, upd_same⟩ (fun i H' _ h => sqT_same h.1 ha) ?_ ?_⟩
    · rintro i x H2 hi ⟨s2, hD⟩
      have ilt := (List.getElem?_eq_some_iff.mp hi).1
      rw [ll] at ilt
      rw [List.getElem?_map, List.getElem?_eq_getElem ilt] at hi
      obtain rfl : V.int ws[i] = x := Option.some.inj hi
      have hb := hw.1 _ (List.getElem_mem ilt)
      refine ⟨rfl, _, rfl, _, rfl, p, n, bv, bs, _, rfl, y.same s2, _, hD, ?_, same_off nD s2 off_upd, ?_⟩
      · rw [List.length_map, List.length_replicate]
        exact small1000 (by omega)
      · rw [upd_same, decide_eq_true hb.1, decide_eq_true (show ws[i] ≤ n - 1 by omega), List.replicate_succ', List.map_append]
        rfl
    · rintro H2 ⟨s2, hD⟩
      refine ⟨_, _, rfl, .of hD, ?_⟩
      rw [show (List.replicate (ws.map V.int).length true).all id = true by simp]
      exact k _ s2
theorem cal_check_system (T : Txt K mg C) : Cal P w K mg base "check_system" 1 (spCSys K C) := by
  refine T.d_check_system.cal (ps := ["system"]) (fun f fd D => ?_) (fun _ _ _ _ _ _ us hl => match us, hl with | [_], _ => rfl)
  refine D.ok sc_check_system (fun vs H Q E h => ?_) (fun cdv A outer s H vs Q E hr h => ?_)
  · obtain ⟨p, n, bv, bs, rfl, _⟩ := h
    rfl
  · obtain ⟨p, n, bv, bs, rfl, y, k⟩ := h
    obtain ⟨dx, g⟩ := id y.1
    refine ⟨_, (pss_one (ps_if (pt_not (pt_val (pe_callB call_isi (by rfl) T.b_isinstance (by decide +kernel) (pa_cons (pv 0) (pa_cons (pe_glob (v := .ref C) (by rfl) T.mgSystem rfl) pa_nil))))) (pss_one ps_never) pss_nil)), ?_⟩
    exact ⟨_, rfl, _, _, _, _, true, rfl, .own C, .base (.ins g T.cl T.ic.ha T.ic.hn T.ic.htk T.ic.hm), T.ic.me, _, rfl, iteF k⟩
theorem cal_check_word (T : Txt K mg C) : Cal P w K mg base "check_word" 5 (spCWord K C) := by
  refine T.d_check_word.cal (ps := ["system", "word"]) (fun f fd D => ?_) (fun _ _ _ _ _ _ us hl => match us, hl with | [_, _], _ => rfl)
  refine D.ok sc_check_word (fun vs H Q E h => ?_) (fun cdv A outer s H vs Q E hr h => ?_)
  · obtain ⟨p, n, bv, bs, v, ws, rfl, _⟩ := h
    rfl
  · obtain ⟨p, n, bv, bs, v, ws, rfl, y, t, hw, k⟩ := h
    refine ⟨_, (pss_one (ps_if (pt_not (pt_val (pe_cal (cal_is_word T) (hr.mono (by decide)) (by rfl) (pa_cons (pv 0) (pa_cons (pv 1) pa_nil))))) (pss_one ps_never) pss_nil)), ?_⟩
    exact ⟨_, rfl, _, rfl, p, n, bv, bs, v, ws, rfl, y, t, hw, fun H1 s1 => ⟨_, rfl, iteF (k _ s1)⟩⟩
theorem cal_check_words (T : Txt K mg C) : CalR P w K mg base "check_words" 6 (spCWords K C) := by
  obtain ⟨f, fd, D, hm⟩ := T.d_check_words
  obtain ⟨oc, od, kV, doc, pm, an, cdv, ct, osl, rfl, lk, hcd⟩ := D.ex
  have F := StX.fn_star (P := P) (w := w) (K := K) (mg := mg) (base := base) (k := 5) (ps := ["system"]) (pv := "words") (CX := CX0) (sp := fun vs H Q _ => ∃ (p t : Addr) (n : Int) (bv : V) (bs : List (List Int)) (us : List V), vs = [.ref p, .ref t] ∧ us.length ≤ 1000 ∧ SqT K H t us ∧ SysAt K C H p n bv bs ∧ TWs K H n us ∧ ∀ H', Same H H' → Q .non H')
    lk hcd sc_check_words StX.cxUp_none (fun us rest hl => match us, rest, hl with | [_], [], _ => rfl | [_], _ :: _, _ => rfl) (fun A outer s H vs Q E hr h => ?_)
  · refine ⟨⟨f, fun A outer s H us vs Q E hr e0 r h => F A outer s H us vs Q E hr e0 r ?_, hm, D.kp⟩⟩
    obtain ⟨p, n, bv, bs, us, rfl, hl, y, t, k⟩ := h
    refine ⟨[.ref p], us, rfl, rfl, szl hl, fun q nq => ?_⟩
    have sn := same_new (o := .tup us) nq
    exact ⟨p, q, n, bv, bs, us, rfl, hl, .of upd_same, y.same sn, fun v hv => (t v hv).elim fun ws z => ⟨ws, z.1.same sn, z.2⟩, fun H' s' => k _ (sn.trans s')⟩
  · obtain ⟨p, t, n, bv, bs, us, rfl, hl, ht, y, tw, k⟩ := h
    refine ⟨_, PSs.nox (show PSs (cxOf CX0 P w K mg base _ "check_words" (defScope s_check_words) f cdv A outer s H E).nox (defBody s_check_words) _ from (pss_cons (ps_expr (pe_cal (cal_check_system T) (hr.mono (by decide)) (by rfl) (pa_cons (pv 0) pa_nil)))
      (pss_one (ps_for PassesOwn.never rfl (pi_tup (pv 1)) (pg_name (i := 2) sc_check_words.nd rfl (Or.inl rfl)) (pss_one (ps_expr (pe_cal (cal_check_word T) (hr.mono (by decide)) (by rfl) (pa_cons (pv 0) (pa_cons (pv 2) pa_nil))))))))), ?_⟩
    refine ⟨_, rfl, p, n, bv, bs, rfl, y, ?_⟩
    refine ⟨_, rfl, t, rfl, ⟨_, ht⟩, for_tup (K := K) (a := t) (xs := us) (fun i σ H' => Same H H' ∧ ∃ v2, σ = [some (.ref p), some (.ref t), v2]) ⟨.refl _, none, rfl⟩ (fun i σ H' _ h => sqT_same h.1 ht) ?_ ?_⟩
    · rintro i x σ H2 hx ⟨s2, v2, rfl⟩
      obtain ⟨ws, hws, wd⟩ := tw x (List.mem_of_getElem? hx)
      exact ⟨_, rfl, _, rfl, p, n, bv, bs, x, ws, rfl, y.same s2, hws.same s2, wd, fun H3 s3 => ⟨s2.trans s3, _, rfl⟩⟩
    · rintro σ H2 ⟨s2, v2, rfl⟩
      exact k _ s2
end
end Sk

namespace Sk
open PySem PySem.Spec PyProof.Rows L2 Ow
/-! a dict of the written part by whole numbers -/
def rKI (d : Addr) (es : Array DictEntry) : R2 := fun x y H Q => ∃ (k : Int) (u0 : Value) (v0 : V), x = .ref d ∧ y = .int k ∧ findBy Value.isInt es k = some u0 ∧ RelV v0 u0 ∧ Q v0 H
theorem ix_kint {X : Cx} {d : Addr} {es : Array DictEntry} {n : Nat} (hl : X.K.lookup d = some ⟨.type "dict", none, .dict es n, #[]⟩) (hk : IntKeys es) : IxR X (rKI d es) := by
  intro value slice pins s σ H x y v u Q I rx ry h hs
  obtain ⟨k, u0, v0, rfl, rfl, e, r, q⟩ := h
  cases rx
  obtain ⟨t, rfl⟩ := ry
  have hm : s.heap.IntMap d (fun k => findBy Value.isInt es k) := ⟨_, es, n, I.kIn _ _ hl, rfl, rfl, hk, fun _ => rfl⟩
  exact tail_any hm.typeIs slot_dict_getitem.lookup (wpAny_getItem_intMap hm e ⟨v0, H, I.tok _, r, q⟩) hs
end Sk
namespace Sk
open PySem L2 Ow
/-! lists of values, each by what it reads -/
def A2 {α : Type} (R : V → α → Prop) : List V → List α → Prop
  | [], [] => True
  | x :: xs, a :: as => R x a ∧ A2 R xs as
  | _, _ => False
theorem A2.imp {α : Type} {R S : V → α → Prop} (h : ∀ x a, R x a → S x a) : ∀ {xs : List V} {as : List α}, A2 R xs as → A2 S xs as
  | [], [], _ => trivial
  | _ :: _, _ :: _, z => ⟨h _ _ z.1, A2.imp h z.2⟩
theorem A2.len {α : Type} {R : V → α → Prop} : ∀ {xs : List V} {as : List α}, A2 R xs as → xs.length = as.length
  | [], [], _ => rfl
  | _ :: _, _ :: _, h => congrArg Nat.succ (A2.len h.2)
theorem A2.get {α : Type} {R : V → α → Prop} : ∀ {xs : List V} {as : List α} {i : Nat} {x : V}, A2 R xs as → xs[i]? = some x → ∃ a, as[i]? = some a ∧ R x a
  | x :: xs, n :: ns, 0, y, h, e => ⟨n, rfl, (show x = y by simpa using e) ▸ h.1⟩
  | x :: xs, n :: ns, i + 1, y, h, e => (A2.get (xs := xs) (as := ns) (i := i) h.2 (by simpa using e)).elim fun m z => ⟨m, by simpa using z.1, z.2⟩
  | [], [], i, y, _, e => by simp at e
theorem A2.at_ {α : Type} {R : V → α → Prop} : ∀ {xs : List V} {as : List α} {i : Nat} {a : α}, A2 R xs as → as[i]? = some a → ∃ x, xs[i]? = some x ∧ R x a
  | x :: xs, n :: ns, 0, y, h, e => ⟨x, rfl, (show n = y by simpa using e) ▸ h.1⟩
  | x :: xs, n :: ns, i + 1, y, h, e => (A2.at_ (xs := xs) (as := ns) (i := i) h.2 (by simpa using e)).elim fun m z => ⟨m, by simpa using z.1, z.2⟩
  | [], [], i, y, _, e => by simp at e
theorem A2.snoc {α : Type} {R : V → α → Prop} : ∀ {xs : List V} {as : List α} {x : V} {a : α}, A2 R xs as → R x a → A2 R (xs ++ [x]) (as ++ [a])
  | [], [], _, _, _, h => ⟨h, trivial⟩
  | _ :: _, _ :: _, _, _, h, k => ⟨h.1, A2.snoc h.2 k⟩
theorem A2.set {α : Type} {R : V → α → Prop} : ∀ {xs : List V} {as : List α} {i : Nat} {x : V} {a : α}, A2 R xs as → R x a → A2 R (xs.set i x) (as.set i a)
  | [], [], _, _, _, _, _ => trivial
  | _ :: _, _ :: _, 0, _, _, h, k => ⟨k, h.2⟩
  | _ :: _, _ :: _, i + 1, _, _, h, k => ⟨h.1, A2.set (i := i) h.2 k⟩
theorem A2.of_tis {K : PySem.W.Frag} {H : Hp} : ∀ {xs : List V} {as : List (List Int)}, TIs K H xs as → A2 (TI K H) xs as
  | [], [], _ => trivial
  | _ :: _, _ :: _, h => ⟨h.1, A2.of_tis h.2⟩
theorem A2.tis {K : PySem.W.Frag} {H : Hp} : ∀ {xs : List V} {as : List (List Int)}, A2 (TI K H) xs as → TIs K H xs as
  | [], [], _ => trivial
  | _ :: _, _ :: _, h => ⟨h.1, A2.tis h.2⟩
/-! factors -/
def bondOk (b : Int) : Prop := b = 0 ∨ b = 2 ∨ b = 3 ∨ b = 4 ∨ b = 5 ∨ b = 6
theorem bondOf_ok {n : Int} {bs : List (List Int)} (va : Valid n bs) (i j : Int) : bondOk (bondOf bs i j) := by
  unfold bondOf
  cases h : bs.filter (isPr i j) with
  | nil => exact .inr (.inl rfl)
  | cons t ts =>
    have hm : t ∈ bs.filter (isPr i j) := by rw [h]; simp
    obtain ⟨l, k, b, rfl, _, _, _, hb⟩ := va.tr t (List.mem_filter.mp hm).1
    show bondOk b
    unfold bondOk
    omega
def fac (bs : List (List Int)) (i j : Int) : List Int := if i < j then (facT (bondOf bs i j)).getD 0 [] else (facT (bondOf bs i j)).getD 1 []
theorem facT_two {b : Int} (h : bondOk b) : ∃ w p u q, facT b = [[w, p], [u, q]] ∧ 0 ≤ w ∧ w ≤ 3 ∧ 0 ≤ p ∧ p ≤ 1 ∧ 0 ≤ u ∧ u ≤ 3 ∧ 0 ≤ q ∧ q ≤ 1 := by
  unfold facT
  rcases h with rfl | rfl | rfl | rfl | rfl | rfl
  · exact ⟨_, _, _, _, rfl, by decide⟩
  · exact ⟨_, _, _, _, rfl, by decide⟩
  · exact ⟨_, _, _, _, rfl, by decide⟩
  · exact ⟨_, _, _, _, rfl, by decide⟩
  · exact ⟨_, _, _, _, rfl, by decide⟩
  · exact ⟨_, _, _, _, rfl, by decide⟩
theorem fac_two {n : Int} {bs : List (List Int)} (va : Valid n bs) (i j : Int) : ∃ w p, fac bs i j = [w, p] ∧ 0 ≤ w ∧ w ≤ 3 ∧ 0 ≤ p ∧ p ≤ 1 := by
  obtain ⟨w, p, u, q, e, h⟩ := facT_two (bondOf_ok va i j)
  unfold fac
  rw [e]
  by_cases c : i < j
  · rw [if_pos c]
    exact ⟨w, p, rfl, by omega⟩
  · rw [if_neg c]
    exact ⟨u, q, rfl, by omega⟩
def upto (n : Int) : List Int := (List.range n.toNat).map fun i : Nat => (0 : Int) + (i : Nat)
def oth (n l : Int) : List Int := (upto n).filter fun o => o != l
def nz (f : List Int) : Bool := f.getD 0 0 != 0 || f.getD 1 0 != 0
def trip (bs : List (List Int)) (n l : Int) : List (List Int) := ((oth n l).filter fun o => nz (fac bs o l)).map fun o => o :: fac bs o l
def lkOf (bs : List (List Int)) (n : Int) : List (List (List Int)) := (upto n).map fun l => trip bs n l
def PrAt (K : PySem.W.Frag) (H : Hp) (v : V) (d : Int × List Int) : Prop := ∃ a u, v = .ref a ∧ SqT K H a [.int d.1, u] ∧ TI K H u d.2
theorem PrAt.same {K : PySem.W.Frag} {H H' : Hp} {v : V} {d : Int × List Int} (h : PrAt K H v d) (s : Same H H') : PrAt K H' v d := h.elim fun a ⟨u, e, q, t⟩ => ⟨a, u, e, sqT_same s q, t.same s⟩
theorem PrAt.off {K : PySem.W.Frag} {D : Addr} {H H' : Hp} {acc : List V} {v : V} {d : Int × List Int} (h : PrAt K H v d) (o : Off D H H') (hD : H D = some (.lst acc)) : PrAt K H' v d := h.elim fun a ⟨u, e, q, t⟩ => ⟨a, u, e, o.sqT hD q, o.ti hD t⟩
/-- links: a tuple of tuples of triples -/
def LkAt (K : PySem.W.Frag) (H : Hp) (v : V) (lk : List (List (List Int))) : Prop := ∃ a xs, v = .ref a ∧ SqT K H a xs ∧ A2 (BsAt K H) xs lk
theorem LkAt.same {K : PySem.W.Frag} {H H' : Hp} {v : V} {lk : List (List (List Int))} (h : LkAt K H v lk) (s : Same H H') : LkAt K H' v lk := h.elim fun a ⟨xs, e, q, t⟩ => ⟨a, xs, e, sqT_same s q, t.imp fun _ _ z => z.same s⟩
def spFactor (K : PySem.W.Frag) (C : Addr) : Sp := fun vs H Q _ => ∃ (p : Addr) (n : Int) (bv : V) (bs : List (List Int)) (i j : Int), vs = [.ref p, .int i, .int j] ∧ SysAt K C H p n bv bs ∧ Valid n bs ∧ 0 ≤ i ∧ i < n ∧ 0 ≤ j ∧ j < n ∧ i ≠ j ∧
  ∀ v H', Same H H' → TI K H' v (fac bs i j) → Q v H'
def spOther (K : PySem.W.Frag) (C : Addr) : Sp := fun vs H Q _ => ∃ (p : Addr) (n : Int) (bv : V) (bs : List (List Int)) (l : Int), vs = [.ref p, .int l] ∧ SysAt K C H p n bv bs ∧ Valid n bs ∧
  ∀ a H', Same H H' → H' a = some (.lst ((oth n l).map V.int)) → Q (.ref a) H'
def spWZ (K : PySem.W.Frag) : Sp := fun vs H Q _ => ∃ (a : Addr) (xs : List V) (ds : List (Int × List Int)), vs = [.ref a] ∧ H a = some (.lst xs) ∧ A2 (PrAt K H) xs ds ∧ ds.length ≤ 100 ∧ (∀ d ∈ ds, ∃ w p, d.2 = [w, p]) ∧
  ∀ v H', Same H H' → BsAt K H' v ((ds.filter fun d => nz d.2).map fun d => d.1 :: d.2) → Q v H'
def spTrip (K : PySem.W.Frag) (C : Addr) : Sp := fun vs H Q _ => ∃ (p : Addr) (n : Int) (bv : V) (bs : List (List Int)) (l : Int), vs = [.ref p, .int l] ∧ SysAt K C H p n bv bs ∧ Valid n bs ∧ 0 ≤ l ∧ l < n ∧
  ∀ v H', Same H H' → BsAt K H' v (trip bs n l) → Q v H'
def spLinks (K : PySem.W.Frag) (C : Addr) : Sp := fun vs H Q _ => ∃ (p : Addr) (n : Int) (bv : V) (bs : List (List Int)), vs = [.ref p] ∧ SysAt K C H p n bv bs ∧ Valid n bs ∧
  ∀ v H', Same H H' → LkAt K H' v (lkOf bs n) → Q v H'
theorem upto_length (n : Int) : (upto n).length = n.toNat := by unfold upto; rw [List.length_map, List.length_range]
theorem upto_get {n : Int} {i : Nat} (h : i < n.toNat) : (upto n)[i]? = some ((0 : Int) + (i : Nat)) := by
  unfold upto
  rw [List.getElem?_map, List.getElem?_range h]
  rfl
theorem mem_upto {n x : Int} : x ∈ upto n ↔ 0 ≤ x ∧ x < n := by
  unfold upto
  rw [List.mem_map]
  constructor
  · rintro ⟨i, hi, rfl⟩
    have := List.mem_range.mp hi
    omega
  · rintro ⟨h1, h2⟩
    exact ⟨x.toNat, List.mem_range.mpr (by omega), by omega⟩
theorem mem_oth {n l x : Int} : x ∈ oth n l ↔ (0 ≤ x ∧ x < n) ∧ x ≠ l := by
  unfold oth
  rw [List.mem_filter, mem_upto]
  simp
theorem oth_length (n l : Int) : (oth n l).length ≤ n.toNat := by
  unfold oth
  exact Nat.le_trans (List.length_filter_le _ _) (by rw [upto_length]; exact Nat.le_refl _)
section
variable {P : Program} {w : World} {K : PySem.W.Frag} {mg : Str → Option Value} {base : Heap} {C : Addr}
theorem cal_factor (T : Txt K mg C) : Cal P w K mg base "factor" 3 (spFactor K C) := by
  refine T.d_factor.cal (ps := ["system", "one", "other"]) (fun f fd D => ?_) (fun _ _ _ _ _ _ us hl => match us, hl with | [_, _, _], _ => rfl)
  refine D.ok sc_factor (fun vs H Q E h => ?_) (fun cdv A outer s H vs Q E hr h => ?_)
  · obtain ⟨_, _, _, _, _, _, rfl, _⟩ := h
    rfl
  · obtain ⟨p, n, bv, bs, i, j, rfl, y, va, i0, i1, j0, j1, ne, k⟩ := h
    obtain ⟨dF, esF, nF, gF, lF, kF, hF⟩ := T.gF
    obtain ⟨dx, g⟩ := id y.1
    refine ⟨_, (pss_cons (ps_asg (pe_ix (show IxR _ (rKI dF esF) from ix_kint lF kF) (pe_bonds (by rfl) gF) (pe_bond_of T (hr.mono (by decide)) (pv 0) (pa_cons (pv 1) (pa_cons (pv 2) pa_nil))) (fun _ _ => rfl)) (pg_tup (by rfl) (pgs_cons (pg_name (i := 3) sc_factor.nd rfl (Or.inl rfl)) (pgs_cons (pg_name (i := 4) sc_factor.nd rfl (Or.inl rfl)) pgs_nil))))
      (pss_one (ps_ret (pe_ifExp (pt_cmpR op_lt (pv 1) (pv 2) (nomark _)) (pv 3) (pv 4))))), ?_⟩
    refine ⟨_, rfl, p, dx, _, rfl, g, sf_no _ _ (by decide +kernel) (by decide +kernel), _, rfl, _, rfl, p, n, bv, bs, i, j, rfl, y, va, i0, i1, j0, j1, ne, fun H1 s1 => ?_⟩
    obtain ⟨a, ha, hb⟩ := hF _ (bondOf_ok va i j)
    obtain ⟨w, q, u, z, e, _⟩ := facT_two (bondOf_ok va i j)
    have hb1 := hb H1
    rw [e] at hb1
    obtain ⟨a', xs, ea, hs, hx⟩ := hb1
    cases ea
    rcases xs with _ | ⟨x1, _ | ⟨x2, _ | ⟨x3, xs⟩⟩⟩
    · exact absurd hx id
    · exact absurd hx.2 id
    · refine ⟨_, _, .ref a, rfl, rfl, ha, rfl, _, _, rfl, hs, rfl, _, _, rfl, _, _, rfl, rfl, ?_⟩
      refine ⟨_, rfl, _, rfl, _, _, rfl, rfl, _, rfl, ite2 (fun c => ?_) (fun c => ?_)⟩
      · refine ⟨_, rfl, k _ _ s1 ?_⟩
        unfold fac
        rw [if_pos (of_decide_eq_true c), e]
        exact hx.1
      · refine ⟨_, rfl, k _ _ s1 ?_⟩
        unfold fac
        rw [if_neg (fun c' => c (decide_eq_true c')), e]
        exact hx.2.1
    · exact absurd hx.2.2 id
theorem cal_other_letters (T : Txt K mg C) : Cal P w K mg base "other_letters" 3 (spOther K C) := by
  refine T.d_other_letters.cal (ps := ["system", "letter"]) (fun f fd D => ?_) (fun _ _ _ _ _ _ us hl => match us, hl with | [_, _], _ => rfl)
  refine D.ok sc_other_letters (fun vs H Q E h => ?_) (fun cdv A outer s H vs Q E hr h => ?_)
  · obtain ⟨_, _, _, _, _, rfl, _⟩ := h
    rfl
  · obtain ⟨p, n, bv, bs, l, rfl, y, va, k⟩ := h
    obtain ⟨dx, g⟩ := id y.1
    have n1 := va.lo
    have n4 := va.hi
    refine ⟨_, (pss_one (ps_ret (pe_lc (own := [("other", 2)]) (g := gName 2) rfl sc_other_letters.nd (pi_range1 (by rfl) T.b_range (pa_cons (pe_sletters T (hr.mono (by decide)) (pv 0)) pa_nil)) (blkOk_by (own := [("other", 2)]) (N := ["system", "letter", "other"]) (sc := defScope s_other_letters) (by decide +kernel)) (fun _ _ _ _ _ => (pg_name (i := 2) sc_other_letters.nd rfl (Or.inl rfl))) (fun _ _ _ _ _ => (pts_one (pt_cmpR op_ne (pv 2) (pv 1) (nomark _)))) (fun _ _ _ _ _ => (pv 2))))), ?_⟩
    refine ⟨_, rfl, p, dx, _, rfl, g, p, n, bv, bs, rfl, y, _, rfl, by omega, by omega, fun D nD => lc_range (lo := 0) (n := n.toNat) (fun i H' => Same H H' ∧ H' D = some (.lst ((((upto n).take i).filter fun o => o != l).map V.int))) ⟨same_new nD, upd_same⟩ ?_ ?_⟩
    · rintro i H2 hi ⟨s2, hD⟩
      have hg := upto_get hi
      have hlen : (((upto n).take i).filter fun o => o != l).length ≤ 4 := Nat.le_trans (List.length_filter_le _ _) (by rw [List.length_take, upto_length]; omega)
      refine ⟨rfl, _, rfl, _, rfl, rfl, _, rfl, ite2 (fun c => ?_) (fun c => ?_)⟩
      · have c' : ((0 : Int) + (i : Nat) != l) = true := by
          rw [bne_iff_ne]
          intro e
          rw [e] at c
          simp at c
        refine ⟨_, rfl, _, hD, small1000 (by rw [List.length_map]; omega), same_off nD s2 off_upd, ?_⟩
        rw [upd_same, take_snoc hg, List.filter_append, List.filter_cons_of_pos (p := fun o => o != l) c', List.filter_nil, List.map_append]
        rfl
      · have c' : ¬ ((0 : Int) + (i : Nat) != l) = true := by
          rw [bne_iff_ne]
          intro e
          refine c ?_
          rw [decide_eq_false (fun z => e (V.int.inj z))]
          rfl
        refine ⟨s2, ?_⟩
        rw [take_snoc hg, List.filter_append, List.filter_cons_of_neg (p := fun o => o != l) c', List.filter_nil, List.append_nil]
        exact hD
    · rintro H2 ⟨s2, hD⟩
      rw [List.take_of_length_le (by rw [upto_length]; exact Nat.le_refl _)] at hD
      exact k _ _ s2 hD
end
end Sk

namespace Sk
open PySem L2 Ow
theorem A2.same {α : Type} {R S : V → α → Prop} {xs : List V} {as : List α} (h : A2 R xs as) (f : ∀ x a, R x a → S x a) : A2 S xs as := h.imp f
section
variable {P : Program} {w : World} {K : PySem.W.Frag} {mg : Str → Option Value} {base : Heap} {C : Addr}
theorem cal_without_zeros (T : Txt K mg C) : Cal P w K mg base "without_zeros" 1 (spWZ K) := by
  refine T.d_without_zeros.cal (ps := ["pairs"]) (fun f fd D => ?_) (fun _ _ _ _ _ _ us hl => match us, hl with | [_], _ => rfl)
  refine D.ok sc_without_zeros (fun vs H Q E h => ?_) (fun cdv A outer s H vs Q E hr h => ?_)
  · obtain ⟨_, _, _, rfl, _⟩ := h
    rfl
  · obtain ⟨a, xs, ds, rfl, ha, hx, hl, hd, k⟩ := h
    refine ⟨_, (pss_one (ps_ret (pe_callTy call_tuple_of (by rfl) T.b_tuple (by decide +kernel) (pa_cons (pe_lc (own := [("other", 1), ("whole", 2), ("part", 3)]) (g := gTup K 2 (gCons (gName 1) (gCons (gTup K 2 (gCons (gName 2) (gCons (gName 3) (gNil)))) (gNil)))) rfl sc_without_zeros.nd (pi_list (pv 0)) (blkOk_by (own := [("other", 1), ("whole", 2), ("part", 3)]) (N := ["pairs", "other", "whole", "part"]) (sc := defScope s_without_zeros) (by decide +kernel)) (fun _ _ _ _ _ => (pg_tup (by rfl) (pgs_cons (pg_name (i := 1) sc_without_zeros.nd rfl (Or.inl rfl)) (pgs_cons (pg_tup (by rfl) (pgs_cons (pg_name (i := 2) sc_without_zeros.nd rfl (Or.inl rfl)) (pgs_cons (pg_name (i := 3) sc_without_zeros.nd rfl (Or.inl rfl)) pgs_nil))) pgs_nil)))) (fun _ _ _ _ _ => (pts_one (PW.pt (pw_or (show PT _ _ (tTru K 2) from pt_truth (pv 2) (by intro _; rfl)) (pw_or1 (show PT _ _ (tTru K 3) from pt_truth (pv 3) (by intro _; rfl))))))) (fun _ _ _ _ _ => (pe_tup (pa_cons (pv 1) (pa_cons (pv 2) (pa_cons (pv 3) pa_nil)))))) pa_nil)))), ?_⟩
    refine ⟨_, rfl, a, rfl, ⟨_, .of ha⟩, fun D nD => lc_list (K := K) (a := a) (xs := xs) (fun i H' => Same H H' ∧ ∃ ys, H' D = some (.lst ys) ∧ TIs K H' ys (((ds.take i).filter fun d => nz d.2).map fun d => d.1 :: d.2)) ⟨same_new nD, [], upd_same, by simp [TIs]⟩ (fun i H' _ h => .of (h.1 _ _ ha)) ?_ ?_⟩
    · rintro i x H2 hi ⟨s2, ys, hD, hy⟩
      obtain ⟨d, hdg, hp⟩ := hx.get hi
      obtain ⟨b, u, rfl, hb, hu⟩ := hp.same s2
      obtain ⟨ww, pp, e2⟩ := hd d (List.mem_of_getElem? hdg)
      obtain ⟨d1, d2⟩ := d
      obtain rfl : d2 = [ww, pp] := e2
      obtain ⟨c, rfl, hc⟩ := hu
      have hlen := hy.len
      rw [List.length_map] at hlen
      have hl2 := List.length_filter_le (fun d : Int × List Int => nz d.2) (ds.take i)
      rw [List.length_take] at hl2
      have fin : nz [ww, pp] = true → ∀ t, H2 t = none → ∃ acc, (upd H2 t (.tup [.int d1, .int ww, .int pp])) D = some (.lst acc) ∧ acc.length < sizeLine ∧ Same H (upd (upd H2 t (.tup [.int d1, .int ww, .int pp])) D (.lst (acc ++ [.ref t]))) ∧ ∃ ys, upd (upd H2 t (.tup [.int d1, .int ww, .int pp])) D (.lst (acc ++ [.ref t])) D = some (.lst ys) ∧ TIs K (upd (upd H2 t (.tup [.int d1, .int ww, .int pp])) D (.lst (acc ++ [.ref t]))) ys (((ds.take (i + 1)).filter fun d => nz d.2).map fun d => d.1 :: d.2) := fun hz t nt => by
        have hD3 := same_new (o := .tup [.int d1, .int ww, .int pp]) nt _ _ hD
        refine ⟨ys, hD3, small1000 (by omega), same_off nD (s2.trans (same_new nt)) off_upd, _, upd_same, ?_⟩
        rw [take_snoc hdg, List.filter_append, List.filter_cons_of_pos (p := fun d : Int × List Int => nz d.2) hz, List.map_append]
        exact (off_upd.tis hD3 (hy.same (same_new nt))).snoc (off_upd.ti hD3 ⟨t, rfl, .of upd_same⟩)
      refine ⟨_, _, rfl, hb, rfl, _, _, rfl, _, _, rfl, _, _, rfl, hc, rfl, _, _, rfl, _, _, rfl, rfl, rfl, rfl, ?_⟩
      have tail : ∀ c : Bool, nz [ww, pp] = c → c = true → (2 : Nat) = 2 := fun _ _ _ => rfl
      refine ⟨_, rfl, (ww != 0), rfl, ite2 (fun hw => ?_) (fun hw => ?_)⟩
      · refine iteT ⟨_, rfl, _, rfl, _, rfl, show 3 ≤ sizeLine by decide, fun t nt => ?_⟩
        exact fin (by unfold nz; rw [show ([ww, pp] : List Int).getD 0 0 = ww from rfl, hw]; rfl) t nt
      · refine ⟨_, rfl, (pp != 0), rfl, ite2 (fun hq => ?_) (fun hq => ?_)⟩
        · refine ⟨_, rfl, _, rfl, _, rfl, show 3 ≤ sizeLine by decide, fun t nt => ?_⟩
          exact fin (by unfold nz; rw [show ([ww, pp] : List Int).getD 1 0 = pp from rfl, hq, Bool.or_true]) t nt
        · have hz : ¬ nz [ww, pp] = true := by
            unfold nz
            rw [show ([ww, pp] : List Int).getD 0 0 = ww from rfl, show ([ww, pp] : List Int).getD 1 0 = pp from rfl, Bool.eq_false_iff.mpr hw, Bool.eq_false_iff.mpr hq]
            decide
          refine ⟨s2, ys, hD, ?_⟩
          rw [take_snoc hdg, List.filter_append, List.filter_cons_of_neg (p := fun d : Int × List Int => nz d.2) hz, List.filter_nil, List.append_nil]
          exact hy
    · rintro H2 ⟨s2, ys, hD, hy⟩
      rw [show xs.length = ds.length from hx.len, List.take_length] at hy
      refine ⟨D, _, rfl, .inl ⟨.of hD, fun t nt => ?_⟩⟩
      exact k _ _ (s2.trans (same_new nt)) ⟨t, ys, rfl, .of upd_same, hy.same (same_new nt)⟩
theorem cal_triples_from (T : Txt K mg C) : Cal P w K mg base "triples_from" 4 (spTrip K C) := by
  refine T.d_triples_from.cal (ps := ["system", "letter"]) (fun f fd D => ?_) (fun _ _ _ _ _ _ us hl => match us, hl with | [_, _], _ => rfl)
  refine D.ok sc_triples_from (fun vs H Q E h => ?_) (fun cdv A outer s H vs Q E hr h => ?_)
  · obtain ⟨_, _, _, _, _, rfl, _⟩ := h
    rfl
  · obtain ⟨p, n, bv, bs, l, rfl, y, va, l0, l1, k⟩ := h
    have n4 := va.hi
    refine ⟨_, (pss_one (ps_ret (pe_cal (cal_without_zeros T) (hr.mono (by decide)) (by rfl) (pa_cons (pe_lc (own := [("other", 2)]) (g := gName 2) (tt := tYes) rfl sc_triples_from.nd (pi_list (pe_cal (cal_other_letters T) (hr.mono (by decide)) (by rfl) (pa_cons (pv 0) (pa_cons (pv 1) pa_nil)))) (blkOk_by (own := [("other", 2)]) (N := ["system", "letter", "other"]) (sc := defScope s_triples_from) (by decide +kernel)) (fun _ _ _ _ _ => (pg_name (i := 2) sc_triples_from.nd rfl (Or.inl rfl))) (fun _ _ _ _ _ => pts_nil) (fun _ _ _ _ _ => (pe_tup (pa_cons (pv 2) (pa_cons (pe_cal (cal_factor T) (hr.mono (by decide)) (by rfl) (pa_cons (pv 0) (pa_cons (pv 2) (pa_cons (pv 1) pa_nil)))) pa_nil))))) pa_nil)))), ?_⟩
    refine ⟨_, rfl, _, rfl, p, n, bv, bs, l, rfl, y, va, fun a H1 s1 ha => ?_⟩
    refine ⟨a, rfl, ⟨_, .of ha⟩, fun D nD => lc_list (K := K) (a := a) (xs := (oth n l).map V.int) (fun i H' => Same H1 H' ∧ ∃ ys, H' D = some (.lst ys) ∧ A2 (PrAt K H') ys (((oth n l).take i).map fun o => (o, fac bs o l))) ⟨same_new nD, [], upd_same, by simp [A2]⟩ (fun i H' _ h => .of (h.1 _ _ ha)) ?_ ?_⟩
    · rintro i x H2 hi ⟨s2, ys, hD, hy⟩
      have ilt := (List.getElem?_eq_some_iff.mp hi).1
      rw [List.length_map] at ilt
      have hg : (oth n l)[i]? = some (oth n l)[i] := List.getElem?_eq_getElem ilt
      rw [List.getElem?_map, hg] at hi
      obtain rfl : V.int (oth n l)[i] = x := Option.some.inj hi
      have mo := mem_oth.mp (List.getElem_mem ilt)
      have ol := oth_length n l
      have hlen := hy.len
      rw [List.length_map, List.length_take] at hlen
      refine ⟨rfl, _, rfl, _, rfl, _, rfl, _, rfl, p, n, bv, bs, _, _, rfl, (y.same s1).same s2, va, mo.1.1, mo.1.2, l0, l1, mo.2, fun v H3 s3 tv => ⟨show 2 ≤ sizeLine by decide, fun t nt => ?_⟩⟩
      have hD4 := same_new (o := .tup [.int (oth n l)[i], v]) nt _ _ (s3 _ _ hD)
      refine ⟨ys, hD4, small1000 (by omega), same_off nD ((s2.trans s3).trans (same_new nt)) off_upd, _, upd_same, ?_⟩
      rw [take_snoc hg, List.map_append]
      refine A2.snoc (hy.imp fun x a z => ((z.same s3).same (same_new nt)).off off_upd hD4) ?_
      exact PrAt.off ⟨t, v, rfl, .of upd_same, tv.same (same_new nt)⟩ off_upd hD4
    · rintro H2 ⟨s2, ys, hD, hy⟩
      rw [List.length_map, List.take_length] at hy
      have ol := oth_length n l
      refine ⟨D, ys, _, rfl, hD, hy, by rw [List.length_map]; omega, fun d hd => ?_, fun v H3 s3 hb => k _ _ ((s1.trans s2).trans s3) ?_⟩
      · obtain ⟨o, _, rfl⟩ := List.mem_map.mp hd
        obtain ⟨w, q, e, _⟩ := fac_two va o l
        exact ⟨w, q, e⟩
      · unfold trip
        rw [List.filter_map, List.map_map] at hb
        exact hb
theorem cal_links_of (T : Txt K mg C) : Cal P w K mg base "links_of" 5 (spLinks K C) := by
  refine T.d_links_of.cal (ps := ["system"]) (fun f fd D => ?_) (fun _ _ _ _ _ _ us hl => match us, hl with | [_], _ => rfl)
  refine D.ok sc_links_of (fun vs H Q E h => ?_) (fun cdv A outer s H vs Q E hr h => ?_)
  · obtain ⟨_, _, _, _, rfl, _⟩ := h
    rfl
  · obtain ⟨p, n, bv, bs, rfl, y, va, k⟩ := h
    obtain ⟨dx, g⟩ := id y.1
    have n1 := va.lo
    have n4 := va.hi
    refine ⟨_, (pss_one (ps_ret (pe_callTy call_tuple_of (by rfl) T.b_tuple (by decide +kernel) (pa_cons (pe_lc (own := [("letter", 1)]) (g := gName 1) (tt := tYes) rfl sc_links_of.nd (pi_range1 (by rfl) T.b_range (pa_cons (pe_sletters T (hr.mono (by decide)) (pv 0)) pa_nil)) (blkOk_by (own := [("letter", 1)]) (N := ["system", "letter"]) (sc := defScope s_links_of) (by decide +kernel)) (fun _ _ _ _ _ => (pg_name (i := 1) sc_links_of.nd rfl (Or.inl rfl))) (fun _ _ _ _ _ => pts_nil) (fun _ _ _ _ _ => (pe_cal (cal_triples_from T) (hr.mono (by decide)) (by rfl) (pa_cons (pv 0) (pa_cons (pv 1) pa_nil))))) pa_nil)))), ?_⟩
    refine ⟨_, rfl, p, dx, _, rfl, g, p, n, bv, bs, rfl, y, _, rfl, by omega, by omega, fun D nD => lc_range (lo := 0) (n := n.toNat) (fun i H' => Same H H' ∧ ∃ ys, H' D = some (.lst ys) ∧ A2 (BsAt K H') ys (((upto n).take i).map fun l => trip bs n l)) ⟨same_new nD, [], upd_same, by simp [A2]⟩ ?_ ?_⟩
    · rintro i H2 hi ⟨s2, ys, hD, hy⟩
      have hg := upto_get hi
      have hlen := hy.len
      rw [List.length_map, List.length_take, upto_length] at hlen
      refine ⟨rfl, _, rfl, _, rfl, p, n, bv, bs, _, rfl, y.same s2, va, by omega, by omega, fun v H3 s3 hb => ?_⟩
      have hD3 := s3 _ _ hD
      refine ⟨ys, hD3, small1000 (by omega), same_off nD (s2.trans s3) off_upd, _, upd_same, ?_⟩
      rw [take_snoc hg, List.map_append]
      exact A2.snoc (hy.imp fun x a z => off_upd.bs hD3 (z.same s3)) (off_upd.bs hD3 hb)
    · rintro H2 ⟨s2, ys, hD, hy⟩
      rw [List.take_of_length_le (by rw [upto_length]; exact Nat.le_refl _)] at hy
      refine ⟨D, _, rfl, .inl ⟨.of hD, fun t nt => ?_⟩⟩
      exact k _ _ (s2.trans (same_new nt)) ⟨t, ys, rfl, .of upd_same, hy.imp fun x a z => z.same (same_new nt)⟩
end
end Sk

namespace Sk
open PySem L2 Ow
/-! states and their steps -/
def step1 (w p : Int) (ns : List (List Int)) (t : List Int) : List (List Int) :=
  ns.set (t.getD 0 0).toNat [(ns.getD (t.getD 0 0).toNat []).getD 0 0 + t.getD 1 0 * w + t.getD 2 0 * p, (ns.getD (t.getD 0 0).toNat []).getD 1 0 + t.getD 1 0 * p + t.getD 2 0 * (w + p)]
theorem step1_eq {w p o m g a b : Int} {ns : List (List Int)} (e : ns.getD o.toNat [] = [a, b]) : step1 w p ns [o, m, g] = ns.set o.toNat [a + m * w + g * p, b + m * p + g * (w + p)] := by
  show ns.set o.toNat [(ns.getD o.toNat []).getD 0 0 + m * w + g * p, (ns.getD o.toNat []).getD 1 0 + m * p + g * (w + p)] = _
  rw [e]
  rfl
def putA (lk : List (List (List Int))) (st : List (List Int)) (l : Int) : List (List Int) :=
  (lk.getD l.toNat []).foldl (step1 ((st.getD l.toNat []).getD 0 0) ((st.getD l.toNat []).getD 1 0)) (st.set l.toNat [-(st.getD l.toNat []).getD 0 0, -(st.getD l.toNat []).getD 1 0])
def aheadW (lk : List (List (List Int))) (st : List (List Int)) (ws : List Int) : List (List Int) := ws.reverse.foldl (putA lk) st
def first (n : Nat) : List (List Int) := List.replicate n [1, 0]
structure StOk (n : Nat) (st : List (List Int)) : Prop where
  len : st.length = n
  two : ∀ x ∈ st, ∃ w p, x = [w, p]
def trio (n : Nat) (x : List Int) : Prop := ∃ o m g, x = [o, m, g] ∧ 0 ≤ o ∧ o < n ∧ 0 ≤ m ∧ m ≤ 3 ∧ 0 ≤ g ∧ g ≤ 3
structure LkOk (n : Nat) (lk : List (List (List Int))) : Prop where
  len : lk.length = n
  few : n ≤ 100
  tri : ∀ t ∈ lk, ∀ x ∈ t, trio n x
theorem StOk.at_ {n : Nat} {st : List (List Int)} (h : StOk n st) {i : Nat} (hi : i < n) : ∃ w p, st[i]? = some [w, p] ∧ st.getD i [] = [w, p] := by
  have hl : i < st.length := by rw [h.len]; exact hi
  obtain ⟨w, p, e⟩ := h.two _ (List.getElem_mem hl)
  have e1 : st[i]? = some [w, p] := by rw [List.getElem?_eq_getElem hl, e]
  exact ⟨w, p, e1, by rw [List.getD_eq_getElem?_getD, e1]; rfl⟩
theorem StOk.set {n : Nat} {st : List (List Int)} (h : StOk n st) (i : Nat) (a b : Int) : StOk n (st.set i [a, b]) := by
  refine ⟨by rw [List.length_set]; exact h.len, fun x hx => ?_⟩
  rcases List.mem_or_eq_of_mem_set hx with hx | rfl
  · exact h.two x hx
  · exact ⟨a, b, rfl⟩
theorem StOk.fold {n : Nat} {w p : Int} : ∀ {ts : List (List Int)} {st : List (List Int)}, StOk n st → StOk n (ts.foldl (step1 w p) st)
  | [], _, h => h
  | t :: ts, st, h => StOk.fold (ts := ts) (st := step1 w p st t) (h.set _ _ _)
theorem StOk.put {n : Nat} {st : List (List Int)} (h : StOk n st) (lk : List (List (List Int))) (l : Int) : StOk n (putA lk st l) := (h.set _ _ _).fold
theorem StOk.ahead {n : Nat} (lk : List (List (List Int))) : ∀ (ws : List Int) {st : List (List Int)}, StOk n st → StOk n (ws.foldl (putA lk) st)
  | [], _, h => h
  | w :: ws, st, h => StOk.ahead lk ws (h.put lk w)
theorem StOk.first (n : Nat) : StOk n (first n) := ⟨List.length_replicate, fun x hx => ⟨1, 0, (List.mem_replicate.mp hx).2⟩⟩
theorem lkOf_ok {n : Int} {bs : List (List Int)} (va : Valid n bs) : LkOk n.toNat (lkOf bs n) := by
  have h1 := va.lo
  have h4 := va.hi
  refine ⟨by unfold lkOf; rw [List.length_map, upto_length], by omega, fun t ht x hx => ?_⟩
  unfold lkOf at ht
  obtain ⟨l, _, rfl⟩ := List.mem_map.mp ht
  unfold trip at hx
  obtain ⟨o, ho, rfl⟩ := List.mem_map.mp hx
  have hm := mem_oth.mp (List.mem_filter.mp ho).1
  obtain ⟨w, p, e, b⟩ := fac_two va o l
  rw [e]
  exact ⟨o, w, p, rfl, by omega, by omega, by omega, by omega, by omega, by omega⟩
theorem ixI {xs : List V} {l : Int} {x : V} (h0 : 0 ≤ l) (h : xs[l.toNat]? = some x) : atI xs l = some x := at_of (j := l.toNat) (by omega) h
theorem ixN_ok {n : Nat} {l : Int} (h0 : 0 ≤ l) (h1 : l < n) : ixN n l = some l.toNat := by unfold ixN; rw [if_pos h0, if_pos h1]
def spFirst (K : PySem.W.Frag) : Sp := fun vs H Q _ => ∃ (v : V) (lk : List (List (List Int))), vs = [v] ∧ LkAt K H v lk ∧ lk.length ≤ 100 ∧ ∀ v' H', Same H H' → BsAt K H' v' (first lk.length) → Q v' H'
def spPut (K : PySem.W.Frag) : Sp := fun vs H Q _ => ∃ (lv sv : V) (l : Int) (n : Nat) (lk : List (List (List Int))) (st : List (List Int)), vs = [lv, sv, .int l] ∧ LkAt K H lv lk ∧ BsAt K H sv st ∧ LkOk n lk ∧ StOk n st ∧ 0 ≤ l ∧ l < n ∧
  ∀ v H', Same H H' → BsAt K H' v (putA lk st l) → Q v H'
def spAhead (K : PySem.W.Frag) : Sp := fun vs H Q _ => ∃ (lv sv wv : V) (ws : List Int) (n : Nat) (lk : List (List (List Int))) (st : List (List Int)), vs = [lv, sv, wv] ∧ LkAt K H lv lk ∧ BsAt K H sv st ∧ TI K H wv ws ∧ LkOk n lk ∧ StOk n st ∧ (∀ x ∈ ws, 0 ≤ x ∧ x < n) ∧ ws.length ≤ 1000 ∧
  ∀ v H', Same H H' → BsAt K H' v (aheadW lk st ws) → Q v H'
def spState (K : PySem.W.Frag) : Sp := fun vs H Q _ => ∃ (lv wv : V) (ws : List Int) (n : Nat) (lk : List (List (List Int))), vs = [lv, wv] ∧ LkAt K H lv lk ∧ TI K H wv ws ∧ LkOk n lk ∧ (∀ x ∈ ws, 0 ≤ x ∧ x < n) ∧ ws.length ≤ 1000 ∧
  ∀ v H', Same H H' → BsAt K H' v (aheadW lk (first n) ws) → Q v H'
section
variable {P : Program} {w : World} {K : PySem.W.Frag} {mg : Str → Option Value} {base : Heap} {C : Addr}
theorem cal_first_state (T : Txt K mg C) : Cal P w K mg base "first_state" 1 (spFirst K) := by
  refine T.d_first_state.cal (ps := ["links"]) (fun f fd D => ?_) (fun _ _ _ _ _ _ us hl => match us, hl with | [_], _ => rfl)
  refine D.ok sc_first_state (fun vs H Q E h => ?_) (fun cdv A outer s H vs Q E hr h => ?_)
  · obtain ⟨_, _, rfl, _⟩ := h
    rfl
  · obtain ⟨_, lk, rfl, ⟨a, xs, rfl, ha, hx⟩, hl, k⟩ := h
    have hxl := hx.len
    refine ⟨_, (pss_one (ps_ret (pe_callTy call_tuple_of (by rfl) T.b_tuple (by decide +kernel) (pa_cons (pe_lc (own := [("_", 1)]) (g := gName 1) (tt := tYes) rfl sc_first_state.nd (pi_tup (pv 0)) (blkOk_by (own := [("_", 1)]) (N := ["links", "_"]) (sc := defScope s_first_state) (by decide +kernel)) (fun _ _ _ _ _ => (pg_name (i := 1) sc_first_state.nd rfl (Or.inl rfl))) (fun _ _ _ _ _ => pts_nil) (fun _ _ _ _ _ => (pe_tup (pa_cons pe_int (pa_cons pe_int pa_nil))))) pa_nil)))), ?_⟩
    refine ⟨_, rfl, a, rfl, ⟨_, ha⟩, fun D nD => lc_tup (K := K) (a := a) (xs := xs) (fun i H' => Same H H' ∧ ∃ ys, H' D = some (.lst ys) ∧ TIs K H' ys (first i)) ⟨same_new nD, [], upd_same, trivial⟩ (fun i H' _ h => sqT_same h.1 ha) ?_ ?_⟩
    · rintro i x H2 hi ⟨s2, ys, hD, hy⟩
      have ilt := (List.getElem?_eq_some_iff.mp hi).1
      have hlen : ys.length = i := by rw [hy.len]; unfold first; rw [List.length_replicate]
      refine ⟨rfl, show 2 ≤ sizeLine by decide, fun t nt => ?_⟩
      have hD3 := same_new (o := .tup [.int 1, .int 0]) nt _ _ hD
      refine ⟨ys, hD3, small1000 (by omega), same_off nD (s2.trans (same_new nt)) off_upd, _, upd_same, ?_⟩
      rw [show first (i + 1) = first i ++ [[1, 0]] from List.replicate_succ']
      exact (off_upd.tis hD3 (hy.same (same_new nt))).snoc (off_upd.ti hD3 ⟨t, rfl, .of upd_same⟩)
    · rintro H2 ⟨s2, ys, hD, hy⟩
      rw [hxl] at hy
      refine ⟨D, _, rfl, .inl ⟨.of hD, fun t nt => ?_⟩⟩
      exact k _ _ (s2.trans (same_new nt)) ⟨t, ys, rfl, .of upd_same, hy.same (same_new nt)⟩
theorem cal_put_ahead (T : Txt K mg C) : Cal P w K mg base "put_ahead" 1 (spPut K) := by
  refine T.d_put_ahead.cal (ps := ["links", "state", "letter"]) (fun f fd D => ?_) (fun _ _ _ _ _ _ us hl => match us, hl with | [_, _, _], _ => rfl)
  refine D.ok sc_put_ahead (fun vs H Q E h => ?_) (fun cdv A outer s H vs Q E hr h => ?_)
  · obtain ⟨_, _, _, _, _, _, rfl, _⟩ := h
    rfl
  · obtain ⟨_, _, l, n, lk, st, rfl, ⟨la, lx, rfl, hla, hlx⟩, ⟨sa, sx, rfl, hsa, hsx⟩, hlk, hst, l0, l1, k⟩ := h
    have l1' : l.toNat < n := by omega
    have sl : sx.length = n := by rw [hsx.len, hst.len]
    obtain ⟨w, p, hst1, hst2⟩ := hst.at_ l1'
    obtain ⟨x, hx, tx⟩ := (A2.of_tis hsx).at_ hst1
    obtain ⟨xa, rfl, hxa⟩ := tx
    have hlkl : l.toNat < lk.length := by rw [hlk.len]; exact l1'
    obtain ⟨tv, htv, tb⟩ := hlx.at_ (List.getElem?_eq_getElem hlkl)
    obtain ⟨ta, tx, rfl, hta, htx⟩ := tb
    have hgl : lk.getD l.toNat [] = lk[l.toNat] := by rw [List.getD_eq_getElem?_getD, List.getElem?_eq_getElem hlkl]; rfl
    have few := hlk.few
    refine ⟨_, (pss_cons (ps_asg (pe_ix ix_tup (pv 1) (pv 2) (fun _ _ => rfl)) (pg_tup (by rfl) (pgs_cons (pg_name (i := 3) sc_put_ahead.nd rfl (Or.inl rfl)) (pgs_cons (pg_name (i := 4) sc_put_ahead.nd rfl (Or.inl rfl)) pgs_nil))))
      (pss_cons (ps_set (i := 5) sc_put_ahead.nd rfl (Or.inl rfl) (pe_callTy call_list_of (by rfl) T.b_list (by decide +kernel) (pa_cons (pv 1) pa_nil)))
      (pss_cons (ps_asg (pe_tup (pa_cons (pe_un un_neg (pv 3)) (pa_cons (pe_un un_neg (pv 4)) pa_nil))) (pg_sub (pv 5) (pv 2) set_list))
      (pss_cons (ps_for PassesOwn.never rfl (pi_tup (pe_ix ix_tup (pv 0) (pv 2) (fun _ _ => rfl))) (pg_tup (by rfl) (pgs_cons (pg_name (i := 6) sc_put_ahead.nd rfl (Or.inl rfl)) (pgs_cons (pg_name (i := 7) sc_put_ahead.nd rfl (Or.inl rfl)) (pgs_cons (pg_name (i := 8) sc_put_ahead.nd rfl (Or.inl rfl)) pgs_nil)))) (pss_cons (ps_asg (pe_ix ix_list (pv 5) (pv 6) (fun _ _ => rfl)) (pg_tup (by rfl) (pgs_cons (pg_name (i := 9) sc_put_ahead.nd rfl (Or.inl rfl)) (pgs_cons (pg_name (i := 10) sc_put_ahead.nd rfl (Or.inl rfl)) pgs_nil))))
      (pss_one (ps_asg (pe_tup (pa_cons (pe_op op_add (pe_op op_add (pv 9) (pe_op op_mul (pv 7) (pv 3))) (pe_op op_mul (pv 8) (pv 4))) (pa_cons (pe_op op_add (pe_op op_add (pv 10) (pe_op op_mul (pv 7) (pv 4))) (pe_op op_mul (pv 8) (pe_op op_add (pv 3) (pv 4)))) pa_nil))) (pg_sub (pv 5) (pv 6) set_list)))))
      (pss_one (ps_ret (pe_callTy call_tuple_of (by rfl) T.b_tuple (by decide +kernel) (pa_cons (pv 5) pa_nil)))))))), ?_⟩
    refine ⟨_, rfl, _, rfl, sa, sx, l, .ref xa, rfl, rfl, hsa, ixI l0 hx, _, _, rfl, hxa, rfl, _, _, rfl, _, _, rfl, rfl, ?_⟩
    refine ⟨_, rfl, sa, sx, rfl, .inr hsa, fun N nN => ?_⟩
    have sN := same_new (o := .lst sx) nN
    refine ⟨_, rfl, _, rfl, _, rfl, _, rfl, show 2 ≤ sizeLine by decide, fun t nt => ?_⟩
    have sNt := sN.trans (same_new (o := .tup [.int (-w), .int (-p)]) nt)
    have hN1 : (upd (upd H N (.lst sx)) t (.tup [.int (-w), .int (-p)])) N = some (.lst sx) := same_new nt _ _ upd_same
    refine ⟨_, rfl, _, rfl, N, sx, l, l.toNat, rfl, rfl, hN1, ixN_ok l0 (by omega), ?_⟩
    have s1 : Same H (upd (upd (upd H N (.lst sx)) t (.tup [.int (-w), .int (-p)])) N (.lst (sx.set l.toNat (.ref t)))) := same_off nN sNt off_upd
    have hy0 : TIs K (upd (upd (upd H N (.lst sx)) t (.tup [.int (-w), .int (-p)])) N (.lst (sx.set l.toNat (.ref t)))) (sx.set l.toNat (.ref t)) (st.set l.toNat [-w, -p]) :=
      (A2.set (A2.of_tis (off_upd.tis hN1 (hsx.same sNt))) (off_upd.ti hN1 ⟨t, rfl, .of upd_same⟩)).tis
    refine ⟨_, rfl, _, rfl, la, lx, l, .ref ta, rfl, rfl, sqT_same s1 hla, ixI l0 htv, ta, rfl, ⟨_, sqT_same s1 hta⟩, for_tup (K := K) (a := ta) (xs := tx) (fun i σ H' => ∃ (ys : List V) (v6 v7 v8 v9 v10 : Option V), σ = [some (.ref la), some (.ref sa), some (.int l), some (.int w), some (.int p), some (.ref N), v6, v7, v8, v9, v10] ∧ Same H H' ∧ H' N = some (.lst ys) ∧ TIs K H' ys ((lk[l.toNat].take i).foldl (step1 w p) (st.set l.toNat [-w, -p])))
      ⟨_, none, none, none, none, none, rfl, s1, upd_same, hy0⟩ (fun i σ H' _ h => by obtain ⟨_, _, _, _, _, _, _, h, _⟩ := h; exact sqT_same h hta) ?_ ?_⟩
    · rintro i x σ H2 hi ⟨ys, v6, v7, v8, v9, v10, rfl, s2, hN, hy⟩
      obtain ⟨tr, htr, tx⟩ := htx.get hi
      obtain ⟨o, m, g, rfl, o0, o1, m0, m1, g0, g1⟩ := hlk.tri _ (List.getElem_mem hlkl) _ (List.mem_of_getElem? htr)
      obtain ⟨b, rfl, hb⟩ := tx.same s2
      have hok : StOk n ((lk[l.toNat].take i).foldl (step1 w p) (st.set l.toNat [-w, -p])) := (hst.set _ _ _).fold
      obtain ⟨a1, b1, e1, e2⟩ := hok.at_ (i := o.toNat) (by omega)
      obtain ⟨z, hz, tz⟩ := (A2.of_tis hy).at_ e1
      obtain ⟨za, rfl, hza⟩ := tz
      have yl : ys.length = n := by rw [hy.len, hok.len]
      refine ⟨_, _, rfl, hb, rfl, _, _, rfl, _, _, rfl, _, _, rfl, rfl, ?_⟩
      refine ⟨_, rfl, _, rfl, N, ys, o, .ref za, rfl, rfl, .of hN, ixI o0 hz, _, _, rfl, hza, rfl, _, _, rfl, _, _, rfl, rfl, ?_⟩
      refine ⟨_, rfl, _, rfl, _, rfl, _, _, rfl, rfl, .inl ⟨by omega, by omega⟩, _, _, rfl, rfl, _, rfl, _, rfl, _, _, rfl, rfl, .inl ⟨by omega, by omega⟩, _, _, rfl, rfl, ?_⟩
      refine ⟨_, rfl, _, rfl, _, rfl, _, _, rfl, rfl, .inl ⟨by omega, by omega⟩, _, _, rfl, rfl, _, rfl, _, rfl, _, rfl, _, _, rfl, rfl, _, _, rfl, rfl, .inl ⟨by omega, by omega⟩, _, _, rfl, rfl, show 2 ≤ sizeLine by decide, fun t2 nt2 => ?_⟩
      have s3 := same_new (o := .tup [.int (a1 + m * w + g * p), .int (b1 + m * p + g * (w + p))]) nt2
      have hN3 := s3 _ _ hN
      refine ⟨_, rfl, _, rfl, N, ys, o, o.toNat, rfl, rfl, hN3, ixN_ok o0 (by omega), ?_⟩
      refine ⟨_, _, _, _, _, _, rfl, same_off nN (s2.trans s3) off_upd, upd_same, ?_⟩
      rw [take_snoc htr, List.foldl_append]
      show TIs K _ _ (step1 w p _ [o, m, g])
      rw [step1_eq e2]
      exact (A2.set (A2.of_tis (off_upd.tis hN3 (hy.same s3))) (off_upd.ti hN3 ⟨t2, rfl, .of upd_same⟩)).tis
    · rintro σ H2 ⟨ys, v6, v7, v8, v9, v10, rfl, s2, hN, hy⟩
      refine ⟨_, rfl, N, ys, rfl, .inl ⟨.of hN, fun t2 nt2 => ?_⟩⟩
      refine k _ _ (s2.trans (same_new nt2)) ⟨t2, ys, rfl, .of upd_same, ?_⟩
      have hx := hy.same (same_new (o := .tup ys) nt2)
      rw [htx.len, List.take_length] at hx
      unfold putA
      rw [hgl, hst2]
      exact hx
theorem cal_word_ahead (T : Txt K mg C) : Cal P w K mg base "word_ahead" 2 (spAhead K) := by
  refine T.d_word_ahead.cal (ps := ["links", "state", "word"]) (fun f fd D => ?_) (fun _ _ _ _ _ _ us hl => match us, hl with | [_, _, _], _ => rfl)
  refine D.ok sc_word_ahead (fun vs H Q E h => ?_) (fun cdv A outer s H vs Q E hr h => ?_)
  · obtain ⟨_, _, _, _, _, _, _, rfl, _⟩ := h
    rfl
  · obtain ⟨lv, sv, _, ws, n, lk, st, rfl, hlv, hsv, ⟨wa, rfl, hwa⟩, hlk, hst, hws, hw, k⟩ := h
    refine ⟨_, (pss_cons (ps_for PassesOwn.never rfl (pi_tup (pe_revT (pv 2))) (pg_name (i := 3) sc_word_ahead.nd rfl (Or.inl rfl)) (pss_one (ps_set (i := 1) sc_word_ahead.nd rfl (Or.inl rfl) (pe_cal (cal_put_ahead T) (hr.mono (by decide)) (by rfl) (pa_cons (pv 0) (pa_cons (pv 1) (pa_cons (pv 3) pa_nil)))))))
      (pss_one (ps_ret (pv 1)))), ?_⟩
    refine ⟨_, rfl, wa, _, rfl, hwa, fun r nr => ?_⟩
    have s1 := same_new (o := .tup (ws.map V.int).reverse) nr
    refine ⟨r, rfl, ⟨_, .of upd_same⟩, for_tup (K := K) (a := r) (xs := (ws.map V.int).reverse) (fun i σ H' => ∃ (v : V) (v3 : Option V), σ = [some lv, some v, some (.ref wa), v3] ∧ Same (upd H r (.tup (ws.map V.int).reverse)) H' ∧ BsAt K H' v ((ws.reverse.take i).foldl (putA lk) st)) ⟨sv, none, rfl, .refl _, hsv.same s1⟩ (fun i σ H' _ h => by obtain ⟨_, _, _, h, _⟩ := h; exact sqT_same h (.of upd_same)) ?_ ?_⟩
    · rintro i x σ H2 hi ⟨v, v3, rfl, s2, hb⟩
      rw [← List.map_reverse, List.getElem?_map] at hi
      obtain ⟨c, hc, rfl⟩ := Option.map_eq_some_iff.mp hi
      have hcm := hws c (List.mem_reverse.mp (List.mem_of_getElem? hc))
      refine ⟨_, rfl, _, rfl, _, rfl, lv, v, c, n, lk, _, rfl, (hlv.same s1).same s2, hb, hlk, StOk.ahead lk _ hst, hcm.1, hcm.2, fun v' H3 s3 hb3 => ?_⟩
      refine ⟨v', _, rfl, s2.trans s3, ?_⟩
      rw [take_snoc hc, List.foldl_append]
      exact hb3
    · rintro σ H2 ⟨v, v3, rfl, s2, hb⟩
      rw [List.length_reverse, List.length_map, List.take_of_length_le (by rw [List.length_reverse]; exact Nat.le_refl _)] at hb
      exact ⟨_, rfl, k _ _ (s1.trans s2) hb⟩
theorem cal_state_of (T : Txt K mg C) : Cal P w K mg base "state_of" 3 (spState K) := by
  refine T.d_state_of.cal (ps := ["links", "word"]) (fun f fd D => ?_) (fun _ _ _ _ _ _ us hl => match us, hl with | [_, _], _ => rfl)
  refine D.ok sc_state_of (fun vs H Q E h => ?_) (fun cdv A outer s H vs Q E hr h => ?_)
  · obtain ⟨_, _, _, _, _, rfl, _⟩ := h
    rfl
  · obtain ⟨lv, wv, ws, n, lk, rfl, hlv, hwv, hlk, hws, hw, k⟩ := h
    have hl := hlk.len
    have few := hlk.few
    refine ⟨_, (pss_one (ps_ret (pe_cal (cal_word_ahead T) (hr.mono (by decide)) (by rfl) (pa_cons (pv 0) (pa_cons (pe_cal (cal_first_state T) (hr.mono (by decide)) (by rfl) (pa_cons (pv 0) pa_nil)) (pa_cons (pv 1) pa_nil)))))), ?_⟩
    refine ⟨_, rfl, _, rfl, lv, lk, rfl, hlv, by omega, fun v H1 s1 hb => ?_⟩
    rw [hl] at hb
    exact ⟨_, rfl, lv, v, wv, ws, n, lk, _, rfl, hlv.same s1, hb, hwv.same s1, hlk, .first n, hws, hw, fun v' H2 s2 hb2 => k _ _ (s1.trans s2) hb2⟩
end
end Sk

namespace Sk
open PySem L2 Ow
def B (n : Nat) (i : Int) : Prop := i.natAbs < 2 ^ n
theorem B.mono {n m : Nat} {i : Int} (h : B n i) (k : n ≤ m) : B m i := Nat.lt_of_lt_of_le h (Nat.pow_le_pow_right (by decide) k)
theorem B.mul {n m : Nat} {i j : Int} (h : B n i) (k : B m j) : B (n + m) (i * j) := wide_lt h k
theorem B.add {n : Nat} {i j : Int} (h : B n i) (k : B n j) : B (n + 1) (i + j) := by
  unfold B at *
  rw [Nat.pow_succ]
  omega
theorem B.sub {n : Nat} {i j : Int} (h : B n i) (k : B n j) : B (n + 1) (i - j) := by
  unfold B at *
  rw [Nat.pow_succ]
  omega
theorem B.neg {n : Nat} {i : Int} (h : B n i) : B n (-i) := by
  unfold B at *
  omega
theorem B.ok {n m : Nat} {i j : Int} (h : B n i) (k : B m j) (hn : 0 < n := by decide) (hm : 0 < m := by decide) (hs : n + m ≤ 1000000 := by decide) : CMulW i j := wide_mul h k hn hm hs
theorem B.lit {n : Nat} (i : Int) (h : i.natAbs < 2 ^ n := by decide) : B n i := h

theorem ite_and {c d : Bool} {A B X Y : Prop} (hx : (if d = true then A else B) → X) (hy : B → Y) (h1 : c = true → d = true → A) (h2 : ¬ (c = true ∧ d = true) → B) : if c = true then X else Y := by
  cases c with
  | false => exact iteF (hy (h2 fun z => Bool.noConfusion z.1))
  | true =>
    refine iteT (hx ?_)
    cases d with
    | false => exact iteF (h2 fun z => Bool.noConfusion z.2)
    | true => exact iteT (h1 rfl rfl)
theorem vi_eq {i j : Int} (h : decide (V.int i = V.int j) = true) : i = j := V.int.inj (of_decide_eq_true h)
theorem vi_of {i j : Int} (h : i = j) : decide (V.int i = V.int j) = true := decide_eq_true (by rw [h])

def spSenseOf : Sp := fun vs H Q _ => ∃ a b : Int, vs = [.int a, .int b] ∧ B 1000 a ∧ B 1000 b ∧ Q (.int (Gd.gsI a b)) H
/-- below 0, of a number's two whole numbers -/
def bel (x : List Int) : Bool := if x.getD 1 0 = 0 then decide (x.getD 0 0 < 0) else decide (Gd.gsI (x.getD 0 0) (x.getD 1 0) < 0)
def FineN (x : List Int) : Prop := x.getD 1 0 = 0 ∨ (B 1000 (x.getD 0 0) ∧ B 1000 (x.getD 1 0))
def Fine (st : List (List Int)) : Prop := ∀ x ∈ st, FineN x
def lefts (st : List (List Int)) : List Int := (upto st.length).filter fun i => bel (st.getD i.toNat [])
def lenAt (H : Hp) (l : Addr) : Nat := match H l with
  | some (.lst xs) => xs.length
  | _ => 0
/-- the letters that are taken, one behind the other, until none is left -/
inductive Runs (lk : List (List (List Int))) : List (List Int) → List Int → Prop
  | done {st : List (List Int)} : Fine st → lefts st = [] → Runs lk st []
  | step {st : List (List Int)} {l : Int} {r ws : List Int} : Fine st → lefts st = l :: r → Runs lk (putA lk st l) ws → Runs lk st (l :: ws)
theorem Runs.fine {lk : List (List (List Int))} {st : List (List Int)} {ws : List Int} (h : Runs lk st ws) : Fine st := by cases h <;> assumption
def spBelow (K : PySem.W.Frag) : Sp := fun vs H Q _ => ∃ (v : V) (x : List Int), vs = [v] ∧ TI K H v x ∧ x.length = 2 ∧ FineN x ∧ Q (.bl (bel x)) H
def spLeft (K : PySem.W.Frag) : Sp := fun vs H Q _ => ∃ (v : V) (st : List (List Int)) (n : Nat), vs = [v] ∧ BsAt K H v st ∧ StOk n st ∧ n ≤ 100 ∧ Fine st ∧ ∀ a H', Same H H' → H a = none → H' a = some (.lst ((lefts st).map V.int)) → Q (.ref a) H'
def spNormalOf (K : PySem.W.Frag) : Sp := fun vs H Q _ => ∃ (lv sv : V) (n : Nat) (lk : List (List (List Int))) (st : List (List Int)) (ws : List Int), vs = [lv, sv] ∧ LkAt K H lv lk ∧ BsAt K H sv st ∧ LkOk n lk ∧ StOk n st ∧ Runs lk st ws ∧ ws.length ≤ 1000 ∧
  ∀ v H', Same H H' → TI K H' v ws → Q v H'
def spNormalW (K : PySem.W.Frag) : Sp := fun vs H Q _ => ∃ (lv wv : V) (n : Nat) (lk : List (List (List Int))) (us ws : List Int), vs = [lv, wv] ∧ LkAt K H lv lk ∧ TI K H wv us ∧ LkOk n lk ∧ (∀ x ∈ us, 0 ≤ x ∧ x < n) ∧ us.length ≤ 1000 ∧ Runs lk (aheadW lk (first n) us) ws ∧ ws.length ≤ 1000 ∧
  ∀ v H', Same H H' → TI K H' v ws → Q v H'
section
variable {P : Program} {w : World} {K : PySem.W.Frag} {mg : Str → Option Value} {base : Heap} {C : Addr}
theorem cal_sense_of (T : Txt K mg C) : Cal P w K mg base "sense_of" 1 spSenseOf := by
  refine T.d_sense_of.cal (ps := ["whole", "part"]) (fun f fd D => ?_) (fun _ _ _ _ _ _ us hl => match us, hl with | [_, _], _ => rfl)
  refine D.ok sc_sense_of (fun vs H Q E h => ?_) (fun cdv A outer s H vs Q E hr h => ?_)
  · obtain ⟨a, b, rfl, _⟩ := h
    rfl
  · obtain ⟨a, b, rfl, ha, hb, q⟩ := h
    refine ⟨_, (pss_cons (ps_set (i := 2) sc_sense_of.nd rfl (Or.inl rfl) (pe_op op_add (pe_op op_mul pe_int (pv 0)) (pv 1)))
      (pss_cons (ps_if (PW.pt (pw_and (pt_cmpR op_eq (pv 2) pe_int (nomark _)) (pw_and1 (pt_cmpR op_eq (pv 1) pe_int (nomark _))))) (pss_one (ps_ret pe_int)) pss_nil)
      (pss_cons (ps_if (PW.pt (pw_and (pt_cmpR op_ge (pv 2) pe_int (nomark _)) (pw_and1 (pt_cmpR op_ge (pv 1) pe_int (nomark _))))) (pss_one (ps_ret pe_int)) pss_nil)
      (pss_cons (ps_if (PW.pt (pw_and (pt_cmpR op_le (pv 2) pe_int (nomark _)) (pw_and1 (pt_cmpR op_le (pv 1) pe_int (nomark _))))) (pss_one (ps_ret (pe_un un_neg pe_int))) pss_nil)
      (pss_cons (ps_set (i := 3) sc_sense_of.nd rfl (Or.inl rfl) (pe_cmpR op_gt (pe_op op_mulW (pv 2) (pv 2)) (pe_op op_mulW (pe_op op_mul pe_int (pv 1)) (pv 1)) (nomark _)))
      (pss_one (ps_ret (pe_ifExp (pt_cmpR op_eq (pv 3) (pe_cmpR op_gt (pv 2) pe_int (nomark _)) (nomark _)) pe_int (pe_un un_neg pe_int))))))))), ?_⟩
    refine ⟨_, rfl, _, _, rfl, rfl, .inl ⟨by decide, by decide⟩, _, rfl, _, _, rfl, rfl, ?_⟩
    refine ⟨_, rfl, rfl, _, rfl, ite_and (fun z => ⟨_, rfl, rfl, _, rfl, z⟩) (fun z => iteF z) (fun h1 h2 => ?_) (fun n1 => ?_)⟩
    · have e : Gd.gsI a b = 0 := by
        unfold Gd.gsI
        rw [if_pos ⟨vi_eq h1, vi_eq h2⟩]
      rw [e] at q
      exact q
    have m1 : ¬ (2 * a + b = 0 ∧ b = 0) := fun z => n1 ⟨vi_of z.1, vi_of z.2⟩
    refine ⟨_, rfl, _, _, rfl, rfl, _, rfl, ite_and (fun z => ⟨_, rfl, _, _, rfl, rfl, _, rfl, z⟩) (fun z => iteF z) (fun h1 h2 => ?_) (fun n2 => ?_)⟩
    · have e : Gd.gsI a b = 1 := by
        unfold Gd.gsI
        rw [if_neg m1, if_pos ⟨of_decide_eq_true h1, of_decide_eq_true h2⟩]
      rw [e] at q
      exact q
    have m2 : ¬ (0 ≤ 2 * a + b ∧ 0 ≤ b) := fun z => n2 ⟨decide_eq_true z.1, decide_eq_true z.2⟩
    refine ⟨_, rfl, _, _, rfl, rfl, _, rfl, ite_and (fun z => ⟨_, rfl, _, _, rfl, rfl, _, rfl, z⟩) (fun z => iteF z) (fun h1 h2 => ?_) (fun n3 => ?_)⟩
    · have e : Gd.gsI a b = -1 := by
        unfold Gd.gsI
        rw [if_neg m1, if_neg m2, if_pos ⟨of_decide_eq_true h1, of_decide_eq_true h2⟩]
      rw [e] at q
      exact ⟨_, rfl, q⟩
    have m3 : ¬ (2 * a + b ≤ 0 ∧ b ≤ 0) := fun z => n3 ⟨decide_eq_true z.1, decide_eq_true z.2⟩
    have bt : B 1003 (2 * a + b) := ((B.lit (n := 2) 2).mul ha : B 1002 (2 * a)).add (hb.mono (by decide))
    have b5 : B 1003 (5 * b) := (B.lit (n := 3) 5).mul hb
    refine ⟨_, rfl, _, rfl, _, _, rfl, rfl, bt.ok bt, _, rfl, _, _, rfl, rfl, .inl ⟨by decide, by decide⟩, _, rfl, _, _, rfl, rfl, b5.ok hb, _, _, rfl, rfl, ?_⟩
    refine ⟨_, rfl, _, rfl, _, _, rfl, rfl, rfl, _, rfl, ?_⟩
    have e : Gd.gsI a b = if (decide ((2 * a + b) * (2 * a + b) > 5 * b * b) == decide (2 * a + b > 0)) = true then 1 else -1 := by
      unfold Gd.gsI
      rw [if_neg m1, if_neg m2, if_neg m3]
    refine ite2 (fun h => ?_) (fun h => ?_)
    · rw [e, if_pos (by rw [← dec_bl]; exact h)] at q
      exact q
    · rw [e, if_neg (by rw [← dec_bl]; exact h)] at q
      exact ⟨_, rfl, q⟩
theorem cal_is_below (T : Txt K mg C) : Cal P w K mg base "is_below" 2 (spBelow K) := by
  refine T.d_is_below.cal (ps := ["number"]) (fun f fd D => ?_) (fun _ _ _ _ _ _ us hl => match us, hl with | [_], _ => rfl)
  refine D.ok sc_is_below (fun vs H Q E h => ?_) (fun cdv A outer s H vs Q E hr h => ?_)
  · obtain ⟨_, _, rfl, _⟩ := h
    rfl
  · obtain ⟨_, x, rfl, ⟨a, rfl, ha⟩, hl, hf, k⟩ := h
    rcases x with _ | ⟨w1, _ | ⟨p1, _ | ⟨z, x⟩⟩⟩
    · simp at hl
    · simp at hl
    · refine ⟨_, (pss_cons (ps_asg (pv 0) (pg_tup (by rfl) (pgs_cons (pg_name (i := 1) sc_is_below.nd rfl (Or.inl rfl)) (pgs_cons (pg_name (i := 2) sc_is_below.nd rfl (Or.inl rfl)) pgs_nil))))
      (pss_one (ps_ret (pe_ifExp (pt_cmpR op_eq (pv 2) pe_int (nomark _)) (pe_cmpR op_lt (pv 1) pe_int (nomark _)) (pe_cmpR op_lt (pe_cal (cal_sense_of T) (hr.mono (by decide)) (by rfl) (pa_cons (pv 1) (pa_cons (pv 2) pa_nil))) pe_int (nomark _)))))), ?_⟩
      refine ⟨_, rfl, _, _, rfl, ha, rfl, _, _, rfl, _, _, rfl, rfl, ?_⟩
      refine ⟨_, rfl, rfl, _, rfl, ite2 (fun c => ?_) (fun c => ?_)⟩
      · refine ⟨_, rfl, _, _, rfl, rfl, ?_⟩
        have e : bel [w1, p1] = decide (w1 < 0) := if_pos (vi_eq c)
        rw [e] at k
        exact k
      · have np : p1 ≠ 0 := fun e => c (vi_of e)
        have e : bel [w1, p1] = decide (Gd.gsI w1 p1 < 0) := if_neg np
        rcases hf with hf | ⟨h1, h2⟩
        · exact absurd hf np
        · rw [e] at k
          exact ⟨_, rfl, _, rfl, w1, p1, rfl, h1, h2, _, _, rfl, rfl, k⟩
    · simp at hl
theorem cal_left_of (T : Txt K mg C) : Cal P w K mg base "left_of" 3 (spLeft K) := by
  refine T.d_left_of.cal (ps := ["state"]) (fun f fd D => ?_) (fun _ _ _ _ _ _ us hl => match us, hl with | [_], _ => rfl)
  refine D.ok sc_left_of (fun vs H Q E h => ?_) (fun cdv A outer s H vs Q E hr h => ?_)
  · obtain ⟨_, _, _, rfl, _⟩ := h
    rfl
  · obtain ⟨_, st, n, rfl, ⟨a, xs, rfl, ha, hx⟩, hst, few, fine, k⟩ := h
    have hxl := hx.len
    have sl := hst.len
    refine ⟨_, (pss_one (ps_ret (pe_lc (own := [("letter", 1), ("number", 2)]) (g := gTup K 2 (gCons (gName 1) (gCons (gName 2) (gNil)))) rfl sc_left_of.nd (pi_enumT (by rfl) T.b_enumerate (pa_cons (pv 0) pa_nil)) (blkOk_by (own := [("letter", 1), ("number", 2)]) (N := ["state", "letter", "number"]) (sc := defScope s_left_of) (by decide +kernel)) (fun _ _ _ _ _ => (pg_tup (by rfl) (pgs_cons (pg_name (i := 1) sc_left_of.nd rfl (Or.inl rfl)) (pgs_cons (pg_name (i := 2) sc_left_of.nd rfl (Or.inl rfl)) pgs_nil)))) (fun _ _ _ _ _ => (pts_one (pt_val (pe_cal (cal_is_below T) (hr.mono (by decide)) (by rfl) (pa_cons (pv 2) pa_nil))))) (fun _ _ _ _ _ => (pv 1))))), ?_⟩
    refine ⟨_, rfl, a, _, rfl, ha, fun D nD => lc_it (walk_enumT (K := K) (a := a) (xs := xs)) (fun i H' => Same H H' ∧ H' D = some (.lst ((((upto st.length).take i).filter fun i => bel (st.getD i.toNat [])).map V.int))) ⟨same_new nD, upd_same⟩ (fun i H' _ h => sqT_same h.1 ha) ?_ ?_⟩
    · rintro i x H4 H5 hi ⟨s4, hD⟩ ⟨q, x1, x2, rfl, nq, rfl, e1, e2⟩
      obtain rfl : x1 = .int (i : Nat) := (Option.some.inj e1).symm
      obtain ⟨y, hy, ty⟩ := hx.get e2
      have s5 := s4.trans (same_new (o := .tup [.int (i : Nat), x2]) nq)
      have hD5 := same_new (o := .tup [.int (i : Nat), x2]) nq _ _ hD
      obtain ⟨ww, pp, ey⟩ := hst.two y (List.mem_of_getElem? hy)
      have il : i < ((st.length : Nat) : Int).toNat := by
        have := (List.getElem?_eq_some_iff.mp hy).1
        omega
      have hg := upto_get il
      rw [show (0 : Int) + (i : Nat) = (i : Nat) by omega] at hg
      have gd : st.getD ((i : Nat) : Int).toNat [] = y := by
        rw [show ((i : Nat) : Int).toNat = i by omega, List.getD_eq_getElem?_getD, hy]
        rfl
      have hlen : (((upto st.length).take i).filter fun i => bel (st.getD i.toNat [])).length ≤ 100 := Nat.le_trans (List.length_filter_le _ _) (by rw [List.length_take, upto_length]; omega)
      refine ⟨_, _, rfl, .of upd_same, rfl, _, _, rfl, _, _, rfl, rfl, rfl, ?_⟩
      refine ⟨_, rfl, x2, y, rfl, ty.same s5, by rw [ey]; rfl, fine y (List.mem_of_getElem? hy), _, rfl, ite2 (fun c => ?_) (fun c => ?_)⟩
      · refine ⟨_, rfl, _, hD5, small1000 (by rw [List.length_map]; omega), same_off nD s5 off_upd, ?_⟩
        rw [upd_same, take_snoc hg, List.filter_append, List.filter_cons_of_pos (p := fun i : Int => bel (st.getD i.toNat [])) (by rw [gd]; exact c), List.filter_nil, List.map_append]
        rfl
      · refine ⟨s5, ?_⟩
        rw [take_snoc hg, List.filter_append, List.filter_cons_of_neg (p := fun i : Int => bel (st.getD i.toNat [])) (by rw [gd]; exact c), List.filter_nil, List.append_nil]
        exact hD5
    · rintro H4 ⟨s4, hD⟩
      rw [List.take_of_length_le (by rw [upto_length]; omega)] at hD
      exact k _ _ s4 nD hD
theorem lefts_in {n : Nat} {st : List (List Int)} (h : StOk n st) {l : Int} (hl : l ∈ lefts st) : 0 ≤ l ∧ l < n := by
  unfold lefts at hl
  have := mem_upto.mp (List.mem_filter.mp hl).1
  rw [h.len] at this
  exact this
theorem cal_normal_of (T : Txt K mg C) : Cal P w K mg base "normal_of" 4 (spNormalOf K) := by
  refine T.d_normal_of.cal (ps := ["links", "state"]) (fun f fd D => ?_) (fun _ _ _ _ _ _ us hl => match us, hl with | [_, _], _ => rfl)
  refine D.ok sc_normal_of (fun vs H Q E h => ?_) (fun cdv A outer s H vs Q E hr h => ?_)
  · obtain ⟨_, _, _, _, _, _, rfl, _⟩ := h
    rfl
  · obtain ⟨lv, sv, n, lk, st, ws, rfl, hlv, hsv, hlk, hst, hrun, hws, k⟩ := h
    have few := hlk.few
    refine ⟨_, (pss_cons (ps_set (i := 2) sc_normal_of.nd rfl (Or.inl rfl) (pe_lst pa_nil))
      (pss_cons (ps_set (i := 3) sc_normal_of.nd rfl (Or.inl rfl) (pe_cal (cal_left_of T) (hr.mono (by decide)) (by rfl) (pa_cons (pv 1) pa_nil)))
      (pss_cons (ps_while PassesOwn.never (pt_truth (pv 3) (by intro _; rfl)) (pss_cons (ps_expr (pe_bm PySem.F.plainAttrs_list PySem.F.slot_list_append PySem.F.type_list_append mt_append (pv 2) (pa_cons (pe_ix ix_list (pv 3) pe_int (fun _ _ => rfl)) pa_nil)))
      (pss_cons (ps_set (i := 1) sc_normal_of.nd rfl (Or.inl rfl) (pe_cal (cal_put_ahead T) (hr.mono (by decide)) (by rfl) (pa_cons (pv 0) (pa_cons (pv 1) (pa_cons (pe_ix ix_list (pv 3) pe_int (fun _ _ => rfl)) pa_nil)))))
      (pss_one (ps_set (i := 3) sc_normal_of.nd rfl (Or.inl rfl) (pe_cal (cal_left_of T) (hr.mono (by decide)) (by rfl) (pa_cons (pv 1) pa_nil)))))))
      (pss_one (ps_ret (pe_callTy call_tuple_of (by rfl) T.b_tuple (by decide +kernel) (pa_cons (pv 2) pa_nil))))))), ?_⟩
    refine ⟨Nat.zero_le _, fun g ng => ?_⟩
    have s1 := same_new (o := .lst []) ng
    refine ⟨_, rfl, sv, st, n, rfl, hsv.same s1, hst, few, hrun.fine, fun a H2 s2 na ha => ?_⟩
    dsimp only [gName, tSeq]
    refine while_by (fun σ H' => ∃ (sv' : V) (fa : Addr) (st' : List (List Int)) (us rs : List Int), σ = [some lv, some sv', some (.ref g), some (.ref fa)] ∧ Same H H' ∧ BsAt K H' sv' st' ∧ StOk n st' ∧ H' g = some (.lst (us.map V.int)) ∧ H' fa = some (.lst ((lefts st').map V.int)) ∧ fa ≠ g ∧ Runs lk st' rs ∧ us ++ rs = ws) (fun _ H' => 1000 - lenAt H' g) ?_ ?_ ?_
    · exact ⟨sv, a, st, [], ws, rfl, s1.trans s2, (hsv.same s1).same s2, hst, s2 _ _ upd_same, ha, (ne_of_none (upd_same (H := H) (o := .lst [])) na).symm, hrun, rfl⟩
    · rintro _ H3 ⟨sv', fa, st', us, rs, rfl, s3, hb, hok, hg, hf, nfg, hr', rfl⟩
      rw [List.length_append] at hws
      refine ⟨_, rfl, _, .inl ⟨_, .of hf, rfl⟩, ?_⟩
      cases hr' with
      | done fine hl =>
        rw [hl] at hf ⊢
        refine iteF ⟨_, rfl, g, _, rfl, .inl ⟨.of hg, fun t nt => ?_⟩⟩
        rw [List.append_nil] at k
        exact k _ _ (s3.trans (same_new nt)) ⟨t, rfl, .of upd_same⟩
      | @step _ l r rs fine hl hr' =>
        have hin := lefts_in hok (l := l) (by rw [hl]; simp)
        rw [hl] at hf ⊢
        simp only [List.length_cons] at hws
        refine iteT ?_
        refine ⟨_, rfl, .inl ⟨rfl, _, .of hg⟩, ?_⟩
        refine ⟨_, rfl, _, _, _, _, rfl, rfl, .of hf, at_of (j := 0) rfl rfl, g, _, _, rfl, rfl, hg, by rw [List.length_map]; exact small1000 (by omega), ?_⟩
        have so : Off g H3 (upd H3 g (.lst (us.map V.int ++ [.int l]))) := off_upd
        have sH : Same H (upd H3 g (.lst (us.map V.int ++ [.int l]))) := same_off ng s3 so
        obtain ⟨sb, sy, rfl, hsb, hsy⟩ := hb
        have hb4 : BsAt K (upd H3 g (.lst (us.map V.int ++ [.int l]))) (.ref sb) st' := so.bs hg ⟨sb, sy, rfl, hsb, hsy⟩
        have hf4 := so _ _ nfg hf
        refine ⟨_, rfl, _, rfl, _, rfl, _, _, _, _, rfl, rfl, .of hf4, at_of (j := 0) rfl rfl, lv, .ref sb, l, n, lk, st', rfl, hlv.same sH, hb4, hlk, hok, hin.1, hin.2, fun v H5 s5 hb5 => ?_⟩
        refine ⟨_, rfl, v, _, n, rfl, hb5, hok.put lk l, few, hr'.fine, fun a6 H6 s6 n6 ha6 => ?_⟩
        have hg6 : H6 g = some (.lst ((us ++ [l]).map V.int)) := by
          have := s6 _ _ (s5 _ _ (upd_same (H := H3) (a := g) (o := .lst (us.map V.int ++ [.int l]))))
          rw [List.map_append]
          exact this
        refine ⟨⟨v, a6, _, us ++ [l], rs, rfl, (sH.trans s5).trans s6, hb5.same s6, hok.put lk l, hg6, ha6, (ne_of_none (s5 _ _ upd_same) n6).symm, hr', by simp⟩, ?_⟩
        unfold lenAt
        rw [hg6, hg]
        simp only [List.length_map, List.length_append, List.length_cons, List.length_nil]
        omega
    · rintro σ H Q Q' hq ⟨v, hv, k, h1, h2⟩
      exact ⟨v, hv, k, h1, hq _ _ h2⟩
theorem cal_normal_word (T : Txt K mg C) : Cal P w K mg base "normal_word" 5 (spNormalW K) := by
  refine T.d_normal_word.cal (ps := ["links", "word"]) (fun f fd D => ?_) (fun _ _ _ _ _ _ us hl => match us, hl with | [_, _], _ => rfl)
  refine D.ok sc_normal_word (fun vs H Q E h => ?_) (fun cdv A outer s H vs Q E hr h => ?_)
  · obtain ⟨_, _, _, _, _, _, rfl, _⟩ := h
    rfl
  · obtain ⟨lv, wv, n, lk, us, ws, rfl, hlv, hwv, hlk, hus, hul, hrun, hws, k⟩ := h
    refine ⟨_, (pss_one (ps_ret (pe_cal (cal_normal_of T) (hr.mono (by decide)) (by rfl) (pa_cons (pv 0) (pa_cons (pe_cal (cal_state_of T) (hr.mono (by decide)) (by rfl) (pa_cons (pv 0) (pa_cons (pv 1) pa_nil))) pa_nil))))), ?_⟩
    refine ⟨_, rfl, _, rfl, _, rfl, lv, wv, us, n, lk, rfl, hlv, hwv, hlk, hus, hul, fun v H1 s1 hb => ?_⟩
    exact ⟨lv, v, n, lk, _, ws, rfl, hlv.same s1, hb, hlk, StOk.ahead lk _ (.first n), hrun, hws, fun v' H2 s2 t => k _ _ (s1.trans s2) t⟩
end
end Sk

namespace Sk
open PySem L2 Ow
/-- the state of a word -/
def stOf (bs : List (List Int)) (n : Int) (ws : List Int) : List (List Int) := aheadW (lkOf bs n) (first n.toNat) ws
/-- the word is the normal one -/
def Nw (bs : List (List Int)) (n : Int) (ws us : List Int) : Prop := Runs (lkOf bs n) (stOf bs n ws) us
def SyW (K : PySem.W.Frag) (C : Addr) (H : Hp) (sv wv : V) (n : Int) (bs : List (List Int)) (ws : List Int) : Prop := ∃ (p : Addr) (bv : V), sv = .ref p ∧ SysAt K C H p n bv bs ∧ Valid n bs ∧ TI K H wv ws ∧ Wd n ws
def spNormal (K : PySem.W.Frag) (C : Addr) : Sp := fun vs H Q _ => ∃ (sv wv : V) (n : Int) (bs : List (List Int)) (ws us : List Int), vs = [sv, wv] ∧ SyW K C H sv wv n bs ws ∧ Nw bs n ws us ∧ us.length ≤ 1000 ∧ ∀ v H', Same H H' → TI K H' v us → Q v H'
def spLength (K : PySem.W.Frag) (C : Addr) : Sp := fun vs H Q _ => ∃ (sv wv : V) (n : Int) (bs : List (List Int)) (ws us : List Int), vs = [sv, wv] ∧ SyW K C H sv wv n bs ws ∧ Nw bs n ws us ∧ us.length ≤ 1000 ∧ ∀ H', Same H H' → Q (.int (us.length : Nat)) H'
def spInverse (K : PySem.W.Frag) (C : Addr) : Sp := fun vs H Q _ => ∃ (sv wv : V) (n : Int) (bs : List (List Int)) (ws us : List Int), vs = [sv, wv] ∧ SyW K C H sv wv n bs ws ∧ Nw bs n ws.reverse us ∧ us.length ≤ 1000 ∧ ∀ v H', Same H H' → TI K H' v us → Q v H'
def spProduct (K : PySem.W.Frag) (C : Addr) : Sp := fun vs H Q _ => ∃ (sv wv zv : V) (n : Int) (bs : List (List Int)) (ws zs us : List Int), vs = [sv, wv, zv] ∧ SyW K C H sv wv n bs ws ∧ TI K H zv zs ∧ Wd n zs ∧ Nw bs n (ws ++ zs) us ∧ us.length ≤ 40 ∧ ∀ v H', Same H H' → TI K H' v us → Q v H'
def spLL (K : PySem.W.Frag) (C : Addr) : Sp := fun vs H Q _ => ∃ (sv wv : V) (n : Int) (bs : List (List Int)) (ws : List Int), vs = [sv, wv] ∧ SyW K C H sv wv n bs ws ∧ Fine (stOf bs n ws) ∧ ∀ v H', Same H H' → TI K H' v (lefts (stOf bs n ws)) → Q v H'
def spRL (K : PySem.W.Frag) (C : Addr) : Sp := fun vs H Q _ => ∃ (sv wv : V) (n : Int) (bs : List (List Int)) (ws : List Int), vs = [sv, wv] ∧ SyW K C H sv wv n bs ws ∧ Fine (stOf bs n ws.reverse) ∧ ∀ v H', Same H H' → TI K H' v (lefts (stOf bs n ws.reverse)) → Q v H'
theorem cat_any {K : PySem.W.Frag} {H : Hp} {Q : VK} {a b : Addr} {xs ys : List V} (ha : SqT K H a xs) (hb : SqT K H b ys) (hl : xs.length + ys.length ≤ 1000)
    (q : ∀ v H', Same H H' → (∃ c, v = .ref c ∧ SqT K H' c (xs ++ ys)) → Q v H') : rCatA K (.ref a) (.ref b) H Q :=
  ⟨a, b, xs, ys, rfl, rfl, ha, hb, szl hl, fun e => q _ _ (.refl _) ⟨b, rfl, by rw [e]; exact hb⟩, fun _ e => q _ _ (.refl _) ⟨a, rfl, by rw [e, List.append_nil]; exact ha⟩, fun _ _ p np => q _ _ (same_new np) ⟨p, rfl, .of upd_same⟩⟩
theorem Wd.in_ {n : Int} {ws : List Int} (h : Wd n ws) (h0 : 0 ≤ n) : ∀ x ∈ ws, 0 ≤ x ∧ x < (n.toNat : Nat) := fun x hx => by
  have := h.1 x hx
  omega
section
variable {P : Program} {w : World} {K : PySem.W.Frag} {mg : Str → Option Value} {base : Heap} {C : Addr}
end
end Sk

namespace Sk
open PySem L2 Ow
theorem sh_L (ns : List Int) : SeqAt.shaped (.list (ns.map PyData.int)) = true := by
  unfold SeqAt.shaped
  have h1 : (PyData.list (ns.map PyData.int)).canLay0 = true := by simp [PyData.canLay0, lay_ints]
  have h2 : (PyData.list (ns.map PyData.int)).depth ≤ 64 := by have := dep_ints ns; simp [PyData.depth]; omega
  rw [h1, decide_eq_true h2]
  rfl
theorem eqv_ints : ∀ a b : List Int, PyData.eqvAll (a.map PyData.int) (b.map PyData.int) = decide (a = b)
  | [], [] => by simp [PyData.eqvAll]
  | [], _ :: _ => by simp [PyData.eqvAll]
  | _ :: _, [] => by simp [PyData.eqvAll]
  | x :: a, y :: b => by
    have h := eqv_ints a b
    by_cases e : x = y
    · subst e
      simp [PyData.eqvAll, PyData.eqv, h]
    · simp [PyData.eqvAll, PyData.eqv, h, e]
theorem eqv_dT (a b : List Int) : PyData.eqv (dT a) (dT b) = decide (a = b) := by
  unfold dT
  rw [show PyData.eqv (.tuple (a.map PyData.int)) (.tuple (b.map PyData.int)) = PyData.eqvAll (a.map PyData.int) (b.map PyData.int) from by simp [PyData.eqv]]
  exact eqv_ints a b
theorem eqv_dTs : ∀ a b : List (List Int), PyData.eqvAll (a.map dT) (b.map dT) = decide (a = b)
  | [], [] => by simp [PyData.eqvAll]
  | [], _ :: _ => by simp [PyData.eqvAll]
  | _ :: _, [] => by simp [PyData.eqvAll]
  | x :: a, y :: b => by
    have h := eqv_dTs a b
    have h2 := eqv_dT x y
    by_cases e : x = y
    · subst e
      simp [PyData.eqvAll, h2, h]
    · simp [PyData.eqvAll, h2, h, e]
theorem eqv_L (a b : List Int) : PyData.eqv (.list (a.map PyData.int)) (.list (b.map PyData.int)) = decide (a = b) := by
  rw [show PyData.eqv (.list (a.map PyData.int)) (.list (b.map PyData.int)) = PyData.eqvAll (a.map PyData.int) (b.map PyData.int) from by simp [PyData.eqv]]
  exact eqv_ints a b
/-- a list of tuples of ints, as data -/
def dL (bs : List (List Int)) : PyData := .list (bs.map dT)
theorem sh_dL (bs : List (List Int)) : SeqAt.shaped (dL bs) = true := by
  unfold SeqAt.shaped
  have h1 : (dL bs).canLay0 = true := by simp [dL, PyData.canLay0, lay_dTs]
  have h2 : (dL bs).depth ≤ 64 := by have := dep_dTs bs; simp [dL, PyData.depth]; omega
  rw [h1, decide_eq_true h2]
  rfl
theorem eqv_dL (a b : List (List Int)) : PyData.eqv (dL a) (dL b) = decide (a = b) := by
  unfold dL
  rw [show PyData.eqv (.list (a.map dT)) (.list (b.map dT)) = PyData.eqvAll (a.map dT) (b.map dT) from by simp [PyData.eqv]]
  exact eqv_dTs a b
/-- a list of tuples of ints at l -/
def LT (K : PySem.W.Frag) (H : Hp) (l : Addr) (bs : List (List Int)) : Prop := ∃ xs, H l = some (.lst xs) ∧ TIs K H xs bs
theorem LT.same {K : PySem.W.Frag} {H H' : Hp} {l : Addr} {bs : List (List Int)} (h : LT K H l bs) (s : Same H H') : LT K H' l bs := h.elim fun xs ⟨e, t⟩ => ⟨xs, s _ _ e, t.same s⟩
theorem LT.dp {K : PySem.W.Frag} {H : Hp} {l : Addr} {bs : List (List Int)} (h : LT K H l bs) : Dp K H (.ref l) (dL bs) := h.elim fun xs ⟨e, t⟩ => .lst (.of e) t.dp
theorem any_dT (x : List Int) : ∀ bs : List (List Int), ((bs.map dT).any fun z => PyData.eqv z (dT x)) = decide (x ∈ bs)
  | [] => by simp
  | b :: r => by
    rw [List.map_cons, List.any_cons, any_dT x r, eqv_dT]
    by_cases e : b = x
    · subst e; simp
    · simp [e, Ne.symm e]
/-- the draws' list -/
def VatAt (H : Hp) (p : Addr) : Prop := ∃ b0 b1 b2 : Int, H p = some (.lst [.int b0, .int b1, .int b2])
theorem Off.refl {D : Addr} {H : Hp} : Off D H H := fun _ _ _ h => h
theorem Off.trans {D : Addr} {H H1 H2 : Hp} (a : Off D H H1) (b : Off D H1 H2) : Off D H H2 := fun q o n h => b q o n (a q o n h)
theorem Off.of_same {D : Addr} {H H1 : Hp} (a : Same H H1) : Off D H H1 := fun q o _ h => a q o h
theorem TI.but {K : PySem.W.Frag} {H H' : Hp} {v : V} {ns : List Int} {p : Addr} (h : TI K H v ns) (o : Off p H H') (b : VatAt H p) : TI K H' v ns := h.elim fun a ⟨e, q⟩ => ⟨a, e, by
  obtain ⟨_, _, _, hp⟩ := b
  exact o.sqT hp q⟩
theorem VatAt.same {H H' : Hp} {p : Addr} (b : VatAt H p) (s : Same H H') : VatAt H' p := b.elim fun b0 ⟨b1, b2, e⟩ => ⟨b0, b1, b2, s _ _ e⟩
theorem vat_ne {H : Hp} {p q : Addr} (b : VatAt H p) (n : H q = none) : q ≠ p := fun e => by
  obtain ⟨_, _, _, h⟩ := b
  rw [e, h] at n
  cases n
theorem VatAt.but {H H' : Hp} {p D : Addr} (b : VatAt H p) (o : Off D H H') (n : p ≠ D) : VatAt H' p := b.elim fun b0 ⟨b1, b2, e⟩ => ⟨b0, b1, b2, o _ _ n e⟩
theorem fm {i n : Int} (h : 0 < n) : 0 ≤ i.fmod n ∧ i.fmod n < n := by
  rw [Int.fmod_eq_emod_of_nonneg i (Int.le_of_lt h)]
  exact ⟨Int.emod_nonneg i (by omega), Int.emod_lt_of_pos i h⟩
theorem em {i n : Int} (h : 0 < n) : 0 ≤ i % n ∧ i % n < n := ⟨Int.emod_nonneg i (by omega), Int.emod_lt_of_pos i h⟩
def spVat (K : PySem.W.Frag) : Sp := fun vs H Q _ => ∃ (sa : Addr) (at_ : Int) (ns : List Int), vs = [.ref sa, .int at_] ∧ SqL K H sa (ns.map V.int) ∧ 0 ≤ at_ ∧
  ∀ (p : Addr) (H' : Hp), Same H H' → H p = none → VatAt H' p → Q (.ref p) H'
def spSip : Sp := fun vs H Q _ => ∃ (p : Addr) (n : Int), vs = [.ref p, .int n] ∧ 0 < n ∧ B 8000 n ∧ VatAt H p ∧ ∀ (r : Int) (H' : Hp), 0 ≤ r → r < n → Off p H H' → VatAt H' p → Q (.int r) H'
section
variable {P : Program} {w : World} {K : PySem.W.Frag} {mg : Str → Option Value} {base : Heap} {C : Addr}
theorem cal_l_sip (T : Txt K mg C) : Cal P w K mg base "_law_sip" 1 spSip := by
  refine T.d_l_sip.cal (ps := ["_law_vat_here", "_law_total"]) (fun f fd D => ?_) (fun _ _ _ _ _ _ us hl => match us, hl with | [_, _], _ => rfl)
  refine D.ok sc_l_sip (fun vs H Q E h => ?_) (fun cdv A outer s H vs Q E hr h => ?_)
  · obtain ⟨p, n, rfl, _⟩ := h
    rfl
  · obtain ⟨p, n, rfl, hn, bn, ⟨b0, b1, b2, hp⟩, k⟩ := h
    refine ⟨_, (pss_cons (ps_if (pt_cmpR op_gt (pe_ix ix_list (pv 0) pe_int (fun _ _ => rfl)) pe_int (nomark _)) (pss_cons (ps_set (i := 2) sc_l_sip.nd rfl (Or.inl rfl) (pe_op op_modN (pe_callTy call_int1 (by rfl) T.b_int (by decide +kernel) (pa_cons (pe_ix ix_list (pv 0) pe_int (fun _ _ => rfl)) pa_nil)) (pv 1)))
      (pss_cons (ps_asg (pe_op op_fdivW (pe_ix ix_list (pv 0) pe_int (fun _ _ => rfl)) (pv 1)) (pg_sub (pv 0) pe_int set_list))
      (pss_one (ps_ret (pv 2))))) pss_nil)
      (pss_cons (ps_asg (pe_op op_add (pe_ix ix_list (pv 0) pe_int (fun _ _ => rfl)) pe_int) (pg_sub (pv 0) pe_int set_list))
      (pss_cons (ps_set (i := 3) sc_l_sip.nd rfl (Or.inl rfl) (pe_op op_mod (pe_op op_add (pe_op op_add (pe_op op_mul (pe_ix ix_list (pv 0) pe_int (fun _ _ => rfl)) pe_int) (pe_op op_mul pe_int (pe_ix ix_list (pv 0) pe_int (fun _ _ => rfl)))) pe_int) pe_int))
      (pss_cons (ps_set (i := 4) sc_l_sip.nd rfl (Or.inl rfl) (pe_op op_add (pe_op op_add (pe_op op_mul (pe_op op_mod (pe_op op_mulW (pv 3) (pv 3)) pe_int) pe_int) (pv 3)) (pe_op op_mul pe_int (pe_ix ix_list (pv 0) pe_int (fun _ _ => rfl)))))
      (pss_one (ps_ret (pe_callTy call_int1 (by rfl) T.b_int (by decide +kernel) (pa_cons (pe_op op_modN (pe_op op_mod (pe_op op_fdiv (pv 4) pe_int) pe_int) (pv 1)) pa_nil)))))))), ?_⟩
    refine ⟨_, rfl, _, _, _, _, rfl, rfl, .of hp, rfl, _, _, rfl, rfl, _, rfl, ite2 (fun hpos => ?_) (fun _ => ?_)⟩
    · refine ⟨_, rfl, _, _, _, _, rfl, rfl, .of hp, rfl, .inl ⟨_, rfl, _, rfl, _, _, rfl, rfl, (by omega), ?_⟩⟩
      refine ⟨_, rfl, _, _, _, _, rfl, rfl, .of hp, rfl, _, rfl, _, _, rfl, rfl, wide_div hn bn (by decide) (by decide), _, rfl, _, _, _, _, rfl, rfl, hp, rfl, ?_⟩
      refine ⟨_, rfl, k _ _ (fm hn).1 (fm hn).2 (fun q o hq e => ?_) ⟨_, _, _, upd_same⟩⟩
      rw [upd_ne hq]
      exact e
    · refine ⟨_, rfl, _, _, _, _, rfl, rfl, .of hp, rfl, _, _, rfl, rfl, _, rfl, _, _, _, _, rfl, rfl, hp, rfl, ?_⟩
      have hq : upd H p (.lst [.int b0, .int b1, .int (b2 + 1)]) p = some (.lst [.int b0, .int b1, .int (b2 + 1)]) := upd_same
      have b61 : ∀ i m : Int, 0 < m → m ≤ 2305843009213693951 → B 61 (i % m) := fun i m h0 h1 => by
        have := em (i := i) h0
        show (i % m).natAbs < 2 ^ 61
        omega
      refine ⟨_, rfl, _, _, _, _, rfl, rfl, .of hq, rfl, _, _, rfl, rfl, .inr ⟨by decide, by decide⟩, _, rfl, _, _, _, _, rfl, rfl, .of hq, rfl, _, _, rfl, rfl, .inl ⟨by decide, by decide⟩, _, _, rfl, rfl, _, _, rfl, rfl, _, _, rfl, rfl, show (0 : Int) < 2305843009213693951 by decide, ?_⟩
      refine ⟨_, rfl, _, rfl, _, _, rfl, rfl, (b61 _ _ (by decide) (by decide)).ok (b61 _ _ (by decide) (by decide)), _, _, rfl, rfl, show (0 : Int) < 2305843009213693921 by decide, _, _, rfl, rfl, .inr ⟨by decide, by decide⟩, _, rfl, _, _, rfl, rfl, _, rfl, _, _, _, _, rfl, rfl, .of hq, rfl, _, _, rfl, rfl, .inl ⟨by decide, by decide⟩, _, _, rfl, rfl, ?_⟩
      refine ⟨_, rfl, _, _, rfl, rfl, ⟨by decide, by decide⟩, _, _, rfl, rfl, show (0 : Int) < 4611686018427387847 by decide, _, rfl, _, _, rfl, rfl, (by omega), .inl ⟨_, rfl, ?_⟩⟩
      refine k _ _ (fm hn).1 (fm hn).2 (fun q o hq e => ?_) ⟨_, _, _, upd_same⟩
      rw [upd_ne hq]
      exact e
theorem cal_l_vat (T : Txt K mg C) : Cal P w K mg base "_law_vat" 1 (spVat K) := by
  refine T.d_l_vat.cal (ps := ["_law_script", "_law_spot"]) (fun f fd D => ?_) (fun _ _ _ _ _ _ us hl => match us, hl with | [_, _], _ => rfl)
  refine D.ok sc_l_vat (fun vs H Q E h => ?_) (fun cdv A outer s H vs Q E hr h => ?_)
  · obtain ⟨p, n, ns, rfl, _⟩ := h
    rfl
  · obtain ⟨sa, z, ns, rfl, hs, hz, k⟩ := h
    refine ⟨_, (pss_cons (ps_set (i := 2) sc_l_vat.nd rfl (Or.inl rfl) (pe_ifExp (pt_cmpR op_lt (pv 1) (pe_callB call_len_seq (by rfl) T.b_len (by decide +kernel) (pa_cons (pv 0) pa_nil)) (nomark _)) (pe_ix ix_list (pv 0) (pv 1) (fun _ _ => rfl)) (pe_op op_add (pe_op op_mul pe_int (pv 1)) pe_int)))
      (pss_cons (ps_set (i := 3) sc_l_vat.nd rfl (Or.inl rfl) (pe_op op_modN (pe_callTy call_int1 (by rfl) T.b_int (by decide +kernel) (pa_cons (pe_callB call_abs (by rfl) T.b_abs (by decide +kernel) (pa_cons (pv 2) pa_nil)) pa_nil)) (pe_op op_powW (pe_op op_pow pe_int pe_int) pe_int)))
      (pss_cons (ps_set (i := 4) sc_l_vat.nd rfl (Or.inl rfl) (pe_op op_add (pe_op op_add (pe_op op_add (pe_op op_mul (pe_op op_mod (pv 3) pe_int) pe_int) (pe_op op_mul pe_int (pv 1))) (pe_op op_mul pe_int (pe_callTy call_int1 (by rfl) T.b_int (by decide +kernel) (pa_cons (pe_cmpR op_lt (pv 2) pe_int (nomark _)) pa_nil)))) pe_int))
      (pss_one (ps_ret (pe_lst (pa_cons (pe_callB (call_max2 rfl) (by rfl) T.b_max (by decide +kernel) (pa_cons pe_int (pa_cons (pe_op op_sub (pv 3) (pe_op op_pow pe_int pe_int)) pa_nil))) (pa_cons (pe_op op_mod (pv 4) pe_int) (pa_cons pe_int pa_nil))))))))), ?_⟩
    have hP : CPowW ((10 : Int) ^ (58 : Int).toNat) 9 := ⟨by decide, by decide +kernel⟩
    have hQ : ((10 : Int) ^ (58 : Int).toNat) ^ (9 : Int).toNat ≠ 0 := by decide +kernel
    refine ⟨_, rfl, _, rfl, _, _, rfl, .inl hs, _, _, rfl, rfl, _, rfl, ite2 (fun h => ?_) (fun h => ?_)⟩
    · have hlt : z < ((ns.map V.int).length : Int) := of_decide_eq_true h
      rw [List.length_map] at hlt
      have hi : z.toNat < ns.length := by omega
      have hget : atI (ns.map V.int) z = some (.int ns[z.toNat]) := at_of (j := z.toNat) (by omega) (by rw [List.getElem?_map, List.getElem?_eq_getElem hi]; rfl)
      refine ⟨_, rfl, _, rfl, _, _, _, _, rfl, rfl, hs, hget, ?_⟩
      refine ⟨_, rfl, _, rfl, .inl ⟨_, rfl, _, _, rfl, rfl, ⟨by decide, by decide, by decide⟩, _, _, rfl, rfl, hP, _, _, rfl, rfl, hQ, ?_⟩⟩
      refine ⟨_, rfl, _, _, rfl, rfl, show (0 : Int) < 1152921504606846883 by decide, _, _, rfl, rfl, .inr ⟨by decide, by decide⟩, _, rfl, _, _, rfl, rfl, .inl ⟨by decide, by decide⟩, _, _, rfl, rfl, _, rfl, _, _, rfl, rfl, .inr ⟨_, rfl, _, _, rfl, rfl, .inl ⟨by decide, by decide⟩, _, _, rfl, rfl, _, _, rfl, rfl, ?_⟩⟩
      refine ⟨_, rfl, _, _, rfl, rfl, ⟨by decide, by decide, by decide⟩, _, _, rfl, rfl, _, _, rfl, _, rfl, _, _, rfl, rfl, show (0 : Int) < 2305843009213693921 by decide, show 3 ≤ sizeLine by decide, fun p np => ?_⟩
      exact k p _ (fun q o e => by rw [upd_ne (ne_of_none e np)]; exact e) np ⟨_, _, _, upd_same⟩
    · refine ⟨_, rfl, _, _, rfl, rfl, .inl ⟨by decide, by decide⟩, _, _, rfl, rfl, ?_⟩
      refine ⟨_, rfl, _, rfl, .inl ⟨_, rfl, _, _, rfl, rfl, ⟨by decide, by decide, by decide⟩, _, _, rfl, rfl, hP, _, _, rfl, rfl, hQ, ?_⟩⟩
      refine ⟨_, rfl, _, _, rfl, rfl, show (0 : Int) < 1152921504606846883 by decide, _, _, rfl, rfl, .inr ⟨by decide, by decide⟩, _, rfl, _, _, rfl, rfl, .inl ⟨by decide, by decide⟩, _, _, rfl, rfl, _, rfl, _, _, rfl, rfl, .inr ⟨_, rfl, _, _, rfl, rfl, .inl ⟨by decide, by decide⟩, _, _, rfl, rfl, _, _, rfl, rfl, ?_⟩⟩
      refine ⟨_, rfl, _, _, rfl, rfl, ⟨by decide, by decide, by decide⟩, _, _, rfl, rfl, _, _, rfl, _, rfl, _, _, rfl, rfl, show (0 : Int) < 2305843009213693921 by decide, show 3 ≤ sizeLine by decide, fun p np => ?_⟩
      exact k p _ (fun q o e => by rw [upd_ne (ne_of_none e np)]; exact e) np ⟨_, _, _, upd_same⟩
end
end Sk

namespace Sk
open PySem L2 Ow
/-- 1 to n -/
def up (n : Nat) : List Int := (List.range n).map fun i : Nat => (1 : Int) + (i : Nat)
/-- a row of two to five places -/
structure IsRow (r : List Int) : Prop where
  lo : 2 ≤ r.length
  hi : r.length ≤ 5
  pm : r.Perm (up r.length)
theorem up_length (n : Nat) : (up n).length = n := by unfold up; rw [List.length_map, List.length_range]
theorem mem_up {n : Nat} {x : Int} : x ∈ up n ↔ 1 ≤ x ∧ x ≤ n := by
  unfold up
  rw [List.mem_map]
  constructor
  · rintro ⟨i, hi, rfl⟩
    have := List.mem_range.mp hi
    omega
  · rintro ⟨h1, h2⟩
    exact ⟨(x - 1).toNat, List.mem_range.mpr (by omega), by omega⟩
theorem up_sorted (n : Nat) : (up n).Pairwise (· ≤ ·) := by
  unfold up
  rw [List.pairwise_map]
  exact (List.pairwise_lt_range (n := n)).imp fun h => by omega
theorem up_nodup (n : Nat) : (up n).Nodup := by
  unfold up List.Nodup
  rw [List.pairwise_map]
  exact (List.pairwise_lt_range (n := n)).imp fun h => by omega
theorem IsRow.mem {r : List Int} (h : IsRow r) {x : Int} : x ∈ r ↔ 1 ≤ x ∧ x ≤ r.length := h.pm.mem_iff.trans mem_up
theorem IsRow.nodup {r : List Int} (h : IsRow r) : r.Nodup := h.pm.nodup_iff.mpr (up_nodup _)
theorem rgV_up (n : Nat) : rgV 1 ((n : Int) + 1) = (up n).map V.int := by
  unfold rgV up
  rw [List.map_map, show ((n : Int) + 1 - 1).toNat = n by omega]
  rfl
theorem int_at {ns : List Int} {i : Nat} {x : V} (h : (ns.map V.int)[i]? = some x) : ∃ c, ns[i]? = some c ∧ x = .int c := by
  rw [List.getElem?_map] at h
  cases e : ns[i]? with
  | none => rw [e] at h; cases h
  | some c => rw [e] at h; exact ⟨c, rfl, (Option.some.inj h).symm⟩
theorem small1000 {n : Nat} (h : n ≤ 1000) : n < sizeLine := Nat.lt_of_le_of_lt h (by decide)
def ab (e : Int) : Int := if e < 0 then -e else e
/-- what are_entries tells -/
def entB (r : List Int) (least : Int) : Bool := (r.map fun x => decide (least ≤ x) && decide (x ≤ (r.length : Nat))).all id && (r.map ab).isPerm (up r.length)
def spEntries (K : PySem.W.Frag) : Sp := fun vs H Q _ => ∃ (v : V) (r : List Int) (least : Int), vs = [v, .int least] ∧ TI K H v r ∧ r.length ≤ 10 ∧ ∀ H', Same H H' → Q (.bl (entB r least)) H'
def spRow (K : PySem.W.Frag) : Sp := fun vs H Q _ => ∃ (v : V) (r : List Int), vs = [v] ∧ TI K H v r ∧ 2 ≤ r.length ∧ r.length ≤ 5 ∧ ∀ H', Same H H' → Q (.bl (entB r 1)) H'
def spSigned (K : PySem.W.Frag) : Sp := fun vs H Q _ => ∃ (v : V) (r : List Int), vs = [v] ∧ TI K H v r ∧ 2 ≤ r.length ∧ r.length ≤ 3 ∧ ∀ H', Same H H' → Q (.bl (entB r (-(r.length : Nat)))) H'
section
variable {P : Program} {w : World} {K : PySem.W.Frag} {mg : Str → Option Value} {base : Heap} {C : Addr}
theorem cal_are_entries (T : Txt K mg C) : Cal P w K mg base "are_entries" 2 (spEntries K) := by
  refine T.d_are_entries.cal (ps := ["value", "least"]) (fun f fd D => ?_) (fun _ _ _ _ _ _ us hl => match us, hl with | [_, _], _ => rfl)
  refine D.ok sc_are_entries (fun vs H Q E h => ?_) (fun cdv A outer s H vs Q E hr h => ?_)
  · obtain ⟨v, r, least, rfl, _⟩ := h
    rfl
  · obtain ⟨v, r, least, rfl, ⟨a, rfl, ha⟩, hl5, k⟩ := h
    refine ⟨_, (pss_cons (ps_set (i := 2) sc_are_entries.nd rfl (Or.inr rfl) (pe_callB call_len_seq (by rfl) T.b_len (by decide +kernel) (pa_cons (pv 0) pa_nil)))
      (pss_cons (ps_if (pt_not (pt_val (pe_callB (cr_all rfl) (by rfl) T.b_all (by decide +kernel) (pa_cons (pe_lc (own := [("entry", 3)]) (g := gName 3) (tt := tYes) rfl sc_are_entries.nd (pi_tup (pv 0)) (blkOk_by (own := [("entry", 3)]) (N := ["value", "least", "many", "entry"]) (sc := defScope s_are_entries) (by decide +kernel)) (fun _ _ _ _ _ => (pg_name (i := 3) sc_are_entries.nd rfl (Or.inl rfl))) (fun _ _ _ _ _ => pts_nil) (fun _ _ _ _ _ => (pe_cal (cal_is_within T) (hr.mono (by decide)) (by rfl) (pa_cons (pv 3) (pa_cons (pv 1) (pa_cons (pv 2) pa_nil)))))) pa_nil)))) (pss_one (ps_ret pe_bl)) pss_nil)
      (pss_one (ps_ret (pe_cmpR (op_eqD hr.units) (pe_callB cr_sorted (by rfl) T.b_sorted (by decide +kernel) (pa_cons (pe_lc (own := [("entry", 3)]) (g := gName 3) (tt := tYes) rfl sc_are_entries.nd (pi_tup (pv 0)) (blkOk_by (own := [("entry", 3)]) (N := ["value", "least", "many", "entry"]) (sc := defScope s_are_entries) (by decide +kernel)) (fun _ _ _ _ _ => (pg_name (i := 3) sc_are_entries.nd rfl (Or.inl rfl))) (fun _ _ _ _ _ => pts_nil) (fun _ _ _ _ _ => (pe_callB call_abs (by rfl) T.b_abs (by decide +kernel) (pa_cons (pv 3) pa_nil)))) pa_nil)) (pe_listRg rfl (by rfl) T.b_list (prg_2 (by rfl) T.b_range pe_int (pe_op op_add (pv 2) pe_int))) (nomark _)))))), ?_⟩
    refine ⟨_, rfl, _, _, rfl, .inr ha, ?_⟩
    have ll : (r.map V.int).length = r.length := List.length_map _
    refine ⟨_, rfl, a, rfl, ⟨_, ha⟩, fun D nD => lc_tup (K := K) (a := a) (xs := r.map V.int) (fun i H' => Same H H' ∧ H' D = some (.lst (((r.take i).map fun x => decide (least ≤ x) && decide (x ≤ (r.length : Nat))).map V.bl))) ⟨same_new nD, upd_same⟩ (fun i H' _ h => sqT_same h.1 ha) ?_ ?_⟩
    · rintro i x H2 hm ⟨s2, hD⟩
      obtain ⟨c, hc, rfl⟩ := int_at hm
      have ilt := (List.getElem?_eq_some_iff.mp hc).1
      refine ⟨rfl, _, rfl, _, rfl, _, rfl, _, _, _, rfl, ?_⟩
      rw [ll]
      refine ⟨_, hD, ?_, same_off nD s2 off_upd, ?_⟩
      · rw [List.length_map, List.length_map, List.length_take]
        exact small1000 (by omega)
      · rw [upd_same, take_snoc hc, List.map_append, List.map_append]
        rfl
    · rintro H2 ⟨s2, hD⟩
      rw [ll, List.take_length] at hD
      refine ⟨_, _, rfl, .of hD, ?_⟩
      cases hb : ((r.map fun x => decide (least ≤ x) && decide (x ≤ (r.length : Nat))).all id) with
      | false =>
        refine ⟨_, rfl, iteT ?_⟩
        have := k _ s2
        unfold entB at this
        rw [hb] at this
        exact this
      | true =>
        refine ⟨_, rfl, iteF ?_⟩
        refine ⟨_, rfl, a, rfl, ⟨_, sqT_same s2 ha⟩, fun D2 nD2 => lc_tup (K := K) (a := a) (xs := r.map V.int) (fun i H' => Same H2 H' ∧ H' D2 = some (.lst (((r.take i).map ab).map V.int))) ⟨same_new nD2, upd_same⟩ (fun i H' _ h => sqT_same (s2.trans h.1) ha) ?_ ?_⟩
        · rintro i x H3 hm ⟨s3, hD3⟩
          obtain ⟨c, hc, rfl⟩ := int_at hm
          have ilt := (List.getElem?_eq_some_iff.mp hc).1
          refine ⟨rfl, _, rfl, c, rfl, ?_⟩
          refine ⟨_, hD3, ?_, same_off nD2 s3 off_upd, ?_⟩
          · rw [List.length_map, List.length_map, List.length_take]
            exact small1000 (by omega)
          · rw [upd_same, take_snoc hc, List.map_append, List.map_append]
            rfl
        · rintro H3 ⟨s3, hD3⟩
          rw [List.length_map, List.take_length] at hD3
          refine ⟨_, r.map ab, rfl, .of hD3, by rw [List.length_map]; exact Nat.lt_of_le_of_lt hl5 (by decide), fun ns' p hp hs np => ?_⟩
          have e : decide (ns' = up r.length) = (r.map ab).isPerm (up r.length) := by
            rw [Bool.eq_iff_iff, decide_eq_true_iff, List.isPerm_iff]
            exact ⟨fun z => z ▸ hp.symm, fun z => (hp.trans z).eq_of_pairwise (fun a b _ _ h h2 => Int.le_antisymm h h2) hs (up_sorted _)⟩
          refine ⟨_, rfl, _, _, rfl, rfl, _, _, rfl, rfl, .of_le (by decide) (by rw [List.length_map]; omega) (by decide) (by omega), fun q nq => ?_⟩
          have s4 := same_new (o := .lst (ns'.map V.int)) np
          refine ⟨.list (ns'.map PyData.int), .list ((up r.length).map PyData.int), .lst (.of (same_new nq _ _ upd_same)) (dInts _), .lst (.of (by rw [List.length_map, rgV_up]; exact upd_same)) (dInts _), sh_L _, sh_L _, ?_⟩
          have e2 : entB r least = (r.map ab).isPerm (up r.length) := by
            unfold entB
            rw [hb]
            rfl
          rw [eqv_L, e, ← e2]
          exact k _ ((s2.trans s3).trans (s4.trans (same_new nq)))
theorem cal_is_row (T : Txt K mg C) : Cal P w K mg base "is_row" 3 (spRow K) := by
  refine T.d_is_row.cal (ps := ["value"]) (fun f fd D => ?_) (fun _ _ _ _ _ _ us hl => match us, hl with | [_], _ => rfl)
  refine D.ok sc_is_row (fun vs H Q E h => ?_) (fun cdv A outer s H vs Q E hr h => ?_)
  · obtain ⟨v, r, rfl, _⟩ := h
    rfl
  · obtain ⟨v, r, rfl, ⟨a, rfl, ha⟩, l2, l5, k⟩ := h
    refine ⟨_, (pss_one (ps_ret (pe_and (pe_callB call_isi (by rfl) T.b_isinstance (by decide +kernel) (pa_cons (pv 0) (pa_cons (pe_bltn (v := .ty "tuple") (by rfl) T.b_tuple (by decide +kernel) rfl) pa_nil))) (pe_and (pe_chain op_le op_le pe_int (pe_callB call_len_seq (by rfl) T.b_len (by decide +kernel) (pa_cons (pv 0) pa_nil)) (C8.pe_gc (v := .int 5) (by rfl) T.g_MOST_PLACES)) (pe_one (pe_cal (cal_are_entries T) (hr.mono (by decide)) (by rfl) (pa_cons (pv 0) (pa_cons pe_int pa_nil)))))))), ?_⟩
    refine ⟨_, rfl, _, _, .type "tuple", _, true, rfl, .ty "tuple", tup_ty ha, kit_ty (by decide +kernel), _, rfl, iteT ?_⟩
    refine ⟨_, rfl, _, _, rfl, .inr ha, _, _, rfl, rfl, _, rfl, ?_⟩
    rw [decide_eq_true (show (2 : Int) ≤ ((r.map V.int).length : Nat) by rw [List.length_map]; omega)]
    refine iteT ⟨_, _, rfl, rfl, _, rfl, ?_⟩
    rw [decide_eq_true (show (((r.map V.int).length : Nat) : Int) ≤ 5 by rw [List.length_map]; omega)]
    exact iteT ⟨_, rfl, _, r, 1, rfl, ⟨a, rfl, ha⟩, by omega, k⟩
theorem cal_is_signed (T : Txt K mg C) : Cal P w K mg base "is_signed" 3 (spSigned K) := by
  refine T.d_is_signed.cal (ps := ["value"]) (fun f fd D => ?_) (fun _ _ _ _ _ _ us hl => match us, hl with | [_], _ => rfl)
  refine D.ok sc_is_signed (fun vs H Q E h => ?_) (fun cdv A outer s H vs Q E hr h => ?_)
  · obtain ⟨v, r, rfl, _⟩ := h
    rfl
  · obtain ⟨v, r, rfl, ⟨a, rfl, ha⟩, l2, l5, k⟩ := h
    refine ⟨_, (pss_one (ps_ret (pe_and (pe_callB call_isi (by rfl) T.b_isinstance (by decide +kernel) (pa_cons (pv 0) (pa_cons (pe_bltn (v := .ty "tuple") (by rfl) T.b_tuple (by decide +kernel) rfl) pa_nil))) (pe_and (pe_chain op_le op_le pe_int (pe_callB call_len_seq (by rfl) T.b_len (by decide +kernel) (pa_cons (pv 0) pa_nil)) (C8.pe_gc (v := .int 3) (by rfl) T.g_MOST_SIGNED)) (pe_one (pe_cal (cal_are_entries T) (hr.mono (by decide)) (by rfl) (pa_cons (pv 0) (pa_cons (pe_un un_neg (pe_callB call_len_seq (by rfl) T.b_len (by decide +kernel) (pa_cons (pv 0) pa_nil))) pa_nil)))))))), ?_⟩
    refine ⟨_, rfl, _, _, .type "tuple", _, true, rfl, .ty "tuple", tup_ty ha, kit_ty (by decide +kernel), _, rfl, iteT ?_⟩
    refine ⟨_, rfl, _, _, rfl, .inr ha, _, _, rfl, rfl, _, rfl, ?_⟩
    rw [decide_eq_true (show (2 : Int) ≤ ((r.map V.int).length : Nat) by rw [List.length_map]; omega)]
    refine iteT ⟨_, _, rfl, rfl, _, rfl, ?_⟩
    rw [decide_eq_true (show (((r.map V.int).length : Nat) : Int) ≤ 3 by rw [List.length_map]; omega)]
    exact iteT ⟨_, rfl, _, rfl, _, _, rfl, .inr ha, _, rfl, .ref a, r, _, (by rw [List.length_map]; rfl), ⟨a, rfl, ha⟩, by omega, k⟩
end
end Sk

namespace Sk
open PySem PySem.Spec PyProof.Rows L2 Ow
section
variable {X : Cx}
def rIxI (K : PySem.W.Frag) : V → List V → Hp → VK → Prop := fun x xs H Q => ∃ (p : Addr) (ns : List Int) (c : Int), x = .ref p ∧ xs = [.int c] ∧ SqT K H p (ns.map V.int) ∧ c ∈ ns ∧ Q (.int (ns.idxOf c : Nat)) H
/-- where a whole number stands in a tuple of these -/
theorem ix_ints : MtR X "tuple.index" (rIxI X.K) := by
  intro pins s σ H x xs v us Q I rx rs h
  obtain ⟨p, ns, c, rfl, rfl, sq, mem, q⟩ := h
  cases rx
  obtain ⟨u, rfl, t, rfl⟩ := vals1 rs
  obtain ⟨its, rv, pl, _⟩ := I.tuple sq
  exact SeqAt.tuple_index_ints (vs := its) pl (Vals.ints rv) mem ⟨.int _, H, I.tok _, ⟨_, rfl⟩, q⟩
end
end Sk

namespace Sk
open PySem PySem.Spec PyProof.Rows L2 Ow
/-- a made tuple, of which it is known that it has no dict of its own -/
def FT (H : Hp) (a : Addr) (ys : List V) : Prop := ∃ o : Obj, H a = some (.frz o (.tup ys)) ∧ o.cls = .type "tuple" ∧ o.dict = none
theorem FT.sq {K : PySem.W.Frag} {H : Hp} {a : Addr} {ys : List V} (h : FT H a ys) : SqT K H a ys := h.elim fun o z => .inl (.inr ⟨o, z.1⟩)
theorem FT.same {H H' : Hp} {a : Addr} {ys : List V} (h : FT H a ys) (s : Same H H') : FT H' a ys := h.elim fun o z => ⟨o, s _ _ z.1, z.2⟩
section
variable {X : Cx}
/-- tuple(list), with what is known of the new object -/
def rTupF (K : PySem.W.Frag) : List V → Hp → VK → Prop := fun xs H Q => ∃ (p : Addr) (ys : List V), xs = [.ref p] ∧ SqL K H p ys ∧ ∀ (l : Addr) (H' : Hp), H l = none → (∀ q, q ≠ l → H' q = H q) → FT H' l ys → Q (.ref l) H'
theorem call_tupF : CallR X (.type "tuple") (rTupF X.K) := by
  intro pins s σ H xs us Q I rs h
  obtain ⟨p, ys, rfl, sq, q⟩ := h
  obtain ⟨v, rfl, rv⟩ := vals1 rs
  cases rv
  obtain ⟨its, vv, pl, few⟩ := I.list sq
  have ln := vv.length
  refine call_tuple_list pl.isList (fun g kp => ?_) (by simp only [List.size_toArray]; omega)
  have J : Inv X pins σ H { s with heap := g } := I.kept (t' := s.toks) kp
  have free := J.hok.fresh (Nat.le_refl g.objs.size)
  have J2 := J.laid (t' := s.toks) (o := .frz { cls := .type "tuple", data := .seq its.toArray } (.tup ys)) (h' := g.push { cls := .type "tuple", data := .seq its.toArray }) (fun b o e => Heap.get?_push_of_some _ e) (Nat.le_refl g.objs.size) ⟨Heap.get?_push_size _ rfl, few, its, vv, IsTup.new _ _⟩
  exact ⟨.ref g.objs.size, _, J2, rfl, q _ _ free (fun b hb => upd_ne hb) ⟨_, upd_same, rfl, rfl⟩⟩
variable {o e : Expr} {to : TE} {t : TA} {name : Str} {apos cpos : Pos} {id : String} {r : V → List V → Hp → VK → Prop}
/-- t.m(e), t such a tuple -/
def tTM (r : V → List V → Hp → VK → Prop) (to : TE) (t : TA) : TE := fun σ H Q => to σ H fun x H1 => (∃ a ys, x = .ref a ∧ FT H1 a ys) ∧ t σ H1 fun xs H2 => r x xs H2 Q
theorem pe_tm (slot : Slot "tuple" name id) (hty : typeOf (.builtin id) = pure (.type "method_descriptor")) (hm : MtR X id r) (ho : PE X o to) (ha : PA X [e] t)
    (h1 : attributeBase o name X.env (eval o X.env) = eval o X.env := by rfl)
    (h2 : ((backTo cpos (starEach [e] X.env)).all (fun x => !x.1) && (backToKw cpos (keywordEach [] X.env)).all (fun x => x.1.isSome) && decide (([e] : List Expr).length + ([] : List Keyword).length + (if ([] : List Keyword).isEmpty then 0 else 1) < 30)) = true := by rfl)
    (h3 : (apos.endLine == cpos.line) = true := by rfl) (h4 : starEach [e] X.env = (false, eval e X.env) :: starEach [] X.env := by rfl) (h5 : (backTo cpos (starEach [] X.env)).any (·.1) = false := by rfl) :
    PE X (.Call (.Attribute o name apos) [e] [] cpos) (tTM r to t) := by
  refine ⟨fun pins s σ H Q I h => ?_⟩
  refine wpAny_Call_method_late h1 h2 h3 rfl (thn (ho.run pins s σ H _ I h) fun v s1 ⟨x, H1, I1, r1, ⟨a, ys, ex, ob, hob, hcl, hdi⟩, q1⟩ => ?_)
  subst ex
  cases r1
  have live := (I1.hok a _ hob).1
  refine ⟨"tuple", id, PySem.F.plainAttrs_tuple, slot, hty, ⟨ob, live, hcl⟩, fun b eb => ?_, ?_⟩
  · cases eb
    exact ⟨ob, live, hdi⟩
  · have go := ha.run cpos pins s1 σ H1 _ I1 q1
    rw [h4] at go ⊢
    refine Calls.callWith_builtin (by show (false || (backTo cpos (starEach [] X.env)).any (·.1)) = false; rw [h5] <;> rfl) (Calls.evalArgs_plain ?_)
    exact thn go fun us s2 ⟨vs, H2, I2, r2, q2⟩ => hm pins s2 σ H2 (.ref a) vs (.ref a) us Q I2 rfl r2 q2
end
end Sk

namespace Sk
open PySem L2 Ow
/-- a made tuple of whole numbers -/
def RT (H : Hp) (v : V) (r : List Int) : Prop := ∃ a, v = .ref a ∧ FT H a (r.map V.int)
theorem RT.ti {K : PySem.W.Frag} {H : Hp} {v : V} {r : List Int} (h : RT H v r) : TI K H v r := h.elim fun a z => ⟨a, z.1, z.2.sq⟩
theorem RT.same {H H' : Hp} {v : V} {r : List Int} (h : RT H v r) (s : Same H H') : RT H' v r := h.elim fun a z => ⟨a, z.1, z.2.same s⟩
theorem RT.but {H H' : Hp} {v : V} {r : List Int} {p : Addr} (h : RT H v r) (o : Off p H H') (b : VatAt H p) : RT H' v r := by
  obtain ⟨a, rfl, ob, h1, h2⟩ := h
  obtain ⟨_, _, _, hp⟩ := b
  exact ⟨a, rfl, ob, o _ _ (fun e => by rw [e, hp] at h1; cases h1) h1, h2⟩
def spSome (K : PySem.W.Frag) : Sp := fun vs H Q _ => ∃ (p : Addr) (n : Int), vs = [.ref p, .int n] ∧ VatAt H p ∧ 2 ≤ n ∧ n ≤ 5 ∧ ∀ (v : V) (r : List Int) (H' : Hp), Off p H H' → VatAt H' p → RT H' v r → IsRow r → ((r.length : Nat) : Int) = n → Q v H'
theorem erase_map {α β : Type} {f : α → β} : ∀ (l : List α) (k : Nat), (l.map f).eraseIdx k = (l.eraseIdx k).map f
  | [], _ => rfl
  | _ :: _, 0 => rfl
  | a :: l, k + 1 => by
    rw [List.map_cons, List.eraseIdx_cons_succ, List.eraseIdx_cons_succ, List.map_cons, erase_map l k]
theorem erase_perm : ∀ {l : List Int} {i : Nat} (h : i < l.length), (l[i] :: l.eraseIdx i).Perm l
  | a :: l, 0, _ => .refl _
  | a :: l, i + 1, h => by
    rw [List.eraseIdx_cons_succ, List.getElem_cons_succ]
    exact (List.Perm.swap a _ _).trans ((erase_perm (l := l) (i := i) (by simpa using h)).cons a)
section
variable {P : Program} {w : World} {K : PySem.W.Frag} {mg : Str → Option Value} {base : Heap} {C : Addr}
theorem cal_l_some_row (T : Txt K mg C) : Cal P w K mg base "_law_some_row" 2 (spSome K) := by
  refine T.d_l_some_row.cal (ps := ["_law_vat_here", "_law_places"]) (fun f fd D => ?_) (fun _ _ _ _ _ _ us hl => match us, hl with | [_, _], _ => rfl)
  refine D.ok sc_l_some_row (fun vs H Q E h => ?_) (fun cdv A outer s H vs Q E hr h => ?_)
  · obtain ⟨_, _, rfl, _⟩ := h
    rfl
  · obtain ⟨p, n, rfl, hb, n2, n5, k⟩ := h
    refine ⟨_, (pss_cons (ps_par (i := 2) (j := 3) rfl sc_l_some_row.nd rfl rfl (by decide) rfl rfl (pa_cons (pe_listRg rfl (by rfl) T.b_list (prg_2 (by rfl) T.b_range pe_int (pe_op op_add (pv 1) pe_int))) (pa_cons (pe_lst pa_nil) pa_nil)) rfl)
      (pss_cons (ps_while PassesOwn.never (pt_cmpR (op_neD hr.units) (pv 2) (pe_lst pa_nil) (nomark _)) (pss_one (ps_expr (pe_bm PySem.F.plainAttrs_list PySem.F.slot_list_append PySem.F.type_list_append mt_append (pv 3) (pa_cons (pe_bm PySem.F.plainAttrs_list PySem.F.slot_list_pop PySem.F.type_list_pop mt_popAt (pv 2) (pa_cons (pe_cal (cal_l_sip T) (hr.mono (by decide)) (by rfl) (pa_cons (pv 0) (pa_cons (pe_callB call_len_seq (by rfl) T.b_len (by decide +kernel) (pa_cons (pv 2) pa_nil)) pa_nil))) pa_nil)) pa_nil)))))
      (pss_one (ps_ret (pe_callTy call_tupF (by rfl) T.b_tuple (by decide +kernel) (pa_cons (pv 3) pa_nil)))))), ?_⟩
    refine ⟨_, rfl, _, _, rfl, rfl, _, _, rfl, rfl, .of_le (by decide) (by omega) (by decide) (by omega), fun l nl => ⟨Nat.zero_le _, fun g ng => ⟨_, _, rfl, ?_⟩⟩⟩
    have s1 := same_new (o := .lst (rgV 1 (n + 1))) nl
    have s2 := s1.trans (same_new (o := .lst []) ng)
    have nlp := vat_ne hb nl
    have ngp := vat_ne (hb.same s1) ng
    have ngl : g ≠ l := fun e => by rw [e, upd_same] at ng; cases ng
    have nH : H g = none := by
      rw [upd_ne ngl] at ng
      exact ng
    refine while_by (fun σ H' => σ = [some (.ref p), some (.int n), some (.ref l), some (.ref g)] ∧ Off p H H' ∧ VatAt H' p ∧ ∃ ls fs : List Int, H' l = some (.lst (ls.map V.int)) ∧ H' g = some (.lst (fs.map V.int)) ∧ (fs ++ ls).Perm (up n.toNat)) (fun _ H' => lenAt H' l) ?_ ?_ ?_
    · refine ⟨rfl, .of_same s2, hb.same s2, up n.toNat, [], ?_, upd_same, .refl _⟩
      rw [upd_ne ngl.symm, upd_same]
      have := rgV_up n.toNat
      rw [show ((n.toNat : Nat) : Int) = n by omega] at this
      rw [this]
    · rintro _ H3 ⟨rfl, b3, v3, ls, fs, hl, hf, hp⟩
      refine ⟨_, rfl, Nat.zero_le _, fun e ne => ⟨_, _, .lst (.of (same_new ne _ _ hl)) (dInts ls), .lst (.of upd_same) .nil, sh_L ls, sh_L [], ?_⟩⟩
      have hq : PyData.eqv (.list (ls.map PyData.int)) (.list []) = decide (ls = []) := eqv_L ls []
      rw [hq]
      refine ⟨_, rfl, ?_⟩
      have se := same_new (o := .lst []) ne
      by_cases hls : ls = []
      · subst hls
        refine iteF ⟨_, rfl, _, _, rfl, .of (se _ _ hf), fun t H6 nt ex ft => ?_⟩
        have s6 : Same (upd H3 e (.lst [])) H6 := fun u w z => by rw [ex u (ne_of_none z nt)]; exact z
        have hpm : fs.Perm (up n.toNat) := by simpa using hp
        have hlen : fs.length = n.toNat := by rw [hpm.length_eq, up_length]
        refine k _ fs _ ((b3.trans (.of_same se)).trans (.of_same s6)) ((v3.same se).same s6) ⟨t, rfl, ft⟩ ⟨by omega, by omega, by rw [hlen]; exact hpm⟩ (by rw [hlen]; omega)
      · rw [decide_eq_false hls]
        refine iteT ?_
        have hl4 := se _ _ hl
        have hf4 := se _ _ hf
        have hpos : 0 < ls.length := List.length_pos_iff.mpr hls
        have htot : fs.length + ls.length = n.toNat := by rw [← List.length_append, hp.length_eq, up_length]
        refine ⟨_, rfl, .inl ⟨rfl, _, .of hf4⟩, _, rfl, .inl ⟨rfl, _, .of hl4⟩, _, rfl, _, rfl, _, _, rfl, .inl (.of hl4), p, _, rfl, by rw [List.length_map]; omega, ?_, v3.same se, fun i H5 i0 i1 o5 v5 => ?_⟩
        · rw [List.length_map]
          exact Nat.lt_of_le_of_lt (show ((ls.length : Nat) : Int).natAbs ≤ 5 by omega) (by decide)
        · rw [List.length_map] at i1
          have hi : i.toNat < ls.length := by omega
          have hl5 := o5 _ _ nlp hl4
          have hf5 := o5 _ _ ngp hf4
          refine ⟨l, _, i, i.toNat, .int ls[i.toNat], rfl, rfl, hl5, by omega, by omega, (ixN_seq (by unfold ixN; rw [List.length_map, if_pos i0, if_pos i1])).1, by rw [List.getElem?_map, List.getElem?_eq_getElem hi]; rfl, ?_⟩
          refine ⟨g, _, _, rfl, rfl, by rw [upd_ne ngl]; exact hf5, by rw [List.length_map]; exact small1000 (by omega), ⟨rfl, ?_, ?_, ls.eraseIdx i.toNat, fs ++ [ls[i.toNat]], ?_, ?_, ?_⟩, ?_⟩
          · intro u w hu hw
            rw [upd_ne (fun e => by rw [e, nH] at hw; cases hw), upd_ne (fun e => by rw [e, nl] at hw; cases hw)]
            exact o5 _ _ hu (se _ _ (b3 _ _ hu hw))
          · obtain ⟨b0, b1, b2, hv⟩ := v5
            exact ⟨b0, b1, b2, by rw [upd_ne ngp.symm, upd_ne nlp.symm]; exact hv⟩
          · rw [upd_ne ngl.symm, upd_same, erase_map]
          · rw [upd_same, List.map_append]
            rfl
          · rw [List.append_assoc]
            exact (List.Perm.append_left fs (erase_perm hi)).trans hp
          · show lenAt (upd (upd H5 l _) g _) l < lenAt H3 l
            unfold lenAt
            rw [upd_ne ngl.symm, upd_same, hl]
            show (List.eraseIdx (ls.map V.int) i.toNat).length < (ls.map V.int).length
            rw [List.length_eraseIdx, if_pos (by rw [List.length_map]; exact hi), List.length_map]
            omega
    · rintro σ H Q Q' hq ⟨v, hv, h0, h⟩
      refine ⟨v, hv, h0, fun e ne => ?_⟩
      obtain ⟨d, e', h1, h2, h3, h4, c, h5, h6⟩ := h e ne
      exact ⟨d, e', h1, h2, h3, h4, c, h5, hq _ _ h6⟩
end
end Sk

namespace Sk
open PySem L2 Ow
/-- the row that undoes a row -/
def inv (r : List Int) : List Int := (up r.length).map fun e => ((r.idxOf e : Nat) : Int) + 1
def spUndone (K : PySem.W.Frag) : Sp := fun vs H Q _ => ∃ (rv : V) (r : List Int), vs = [rv] ∧ RT H rv r ∧ IsRow r ∧ ∀ v H', Same H H' → TI K H' v (inv r) → Q v H'
section
variable {P : Program} {w : World} {K : PySem.W.Frag} {mg : Str → Option Value} {base : Heap} {C : Addr}
theorem cal_l_undone (T : Txt K mg C) : Cal P w K mg base "_law_undone" 1 (spUndone K) := by
  refine T.d_l_undone.cal (ps := ["_law_row"]) (fun f fd D => ?_) (fun _ _ _ _ _ _ us hl => match us, hl with | [_], _ => rfl)
  refine D.ok sc_l_undone (fun vs H Q E h => ?_) (fun cdv A outer s H vs Q E hr h => ?_)
  · obtain ⟨_, _, rfl, _⟩ := h
    rfl
  · obtain ⟨_, r, rfl, ⟨ra, rfl, hft⟩, hR, k⟩ := h
    have hra : SqT K H ra (r.map V.int) := hft.sq
    have l5 := hR.hi
    refine ⟨_, (pss_one (ps_ret (pe_callTy call_tuple_of (by rfl) T.b_tuple (by decide +kernel) (pa_cons (pe_lc (own := [("_law_entry", 1)]) (g := gName 1) (tt := tYes) rfl sc_l_undone.nd (pi_range2 (by rfl) T.b_range (pa_cons pe_int (pa_cons (pe_op op_add (pe_callB call_len_seq (by rfl) T.b_len (by decide +kernel) (pa_cons (pv 0) pa_nil)) pe_int) pa_nil))) (blkOk_by (own := [("_law_entry", 1)]) (N := ["_law_row", "_law_entry"]) (sc := defScope s_l_undone) (by decide +kernel)) (fun _ _ _ _ _ => (pg_name (i := 1) sc_l_undone.nd rfl (Or.inl rfl))) (fun _ _ _ _ _ => pts_nil) (fun _ _ _ _ _ => (pe_op op_add (show PE _ _ (tTM (rIxI K) (tVar 0) (tCons (tVar 1) tNil)) from pe_tm PySem.F.slot_tuple_index PySem.F.type_tuple_index (show MtR _ _ (rIxI K) from ix_ints) (pv 0) (pa_cons (pv 1) pa_nil)) pe_int))) pa_nil)))), ?_⟩
    refine ⟨_, rfl, _, _, rfl, .inr hra, _, _, rfl, rfl, _, _, rfl, ⟨by decide, by decide, by rw [List.length_map]; omega, by rw [List.length_map]; omega⟩, ?_⟩
    rw [show ((((r.map V.int).length : Nat) : Int) + 1 - 1).toNat = r.length by rw [List.length_map]; omega]
    intro D nD
    refine lc_range (lo := 1) (n := r.length) (fun i H' => Same H H' ∧ H' D = some (.lst (((inv r).take i).map V.int))) ⟨same_new nD, upd_same⟩ ?_ ?_
    · rintro i H2 hi ⟨s2, hD⟩
      have hu : (up r.length)[i]? = some ((1 : Int) + (i : Nat)) := by
        unfold up
        rw [List.getElem?_map, List.getElem?_range hi]
        rfl
      have hv : (inv r)[i]? = some (((r.idxOf ((1 : Int) + (i : Nat)) : Nat) : Int) + 1) := by
        unfold inv
        rw [List.getElem?_map, hu]
        rfl
      refine ⟨rfl, _, rfl, ⟨ra, _, rfl, hft.same s2⟩, _, rfl, ra, r, _, rfl, rfl, sqT_same s2 hra, hR.mem.mpr ⟨by omega, by omega⟩, _, _, rfl, rfl, _, hD, ?_, same_off nD s2 off_upd, ?_⟩
      · rw [List.length_map, List.length_take]
        exact small1000 (by omega)
      · rw [upd_same, take_snoc hv, List.map_append]
        rfl
    · rintro H2 ⟨s2, hD⟩
      rw [List.take_of_length_le (by unfold inv; rw [List.length_map, up_length]; exact Nat.le_refl _)] at hD
      exact ⟨_, _, rfl, .inl ⟨.of hD, fun t nt => k _ _ (s2.trans (same_new nt)) ⟨t, rfl, .of upd_same⟩⟩⟩
end
end Sk

namespace Sk
/-! rows, by looking at all of them -/
def pr : Nat → List Int → List (List Int)
  | 0, _ => [[]]
  | k + 1, av => av.flatMap fun x => (pr k (av.erase x)).map (x :: ·)
theorem pr_mem : ∀ {k : Nat} {av r : List Int}, r.Perm av → av.length = k → r ∈ pr k av
  | 0, av, r, h, e => by
    have : r.length = 0 := h.length_eq.trans e
    rw [List.eq_nil_of_length_eq_zero this]
    simp [pr]
  | k + 1, av, [], h, e => by
    have := h.length_eq
    rw [e] at this
    cases this
  | k + 1, av, x :: r, h, e => by
    obtain ⟨h1, h2⟩ := List.cons_perm_iff_perm_erase.mp h
    unfold pr
    rw [List.mem_flatMap]
    refine ⟨x, h1, List.mem_map.mpr ⟨r, pr_mem h2 ?_, rfl⟩⟩
    rw [List.length_erase_of_mem h1, e]
    rfl
def allRows : List (List Int) := pr 2 (up 2) ++ pr 3 (up 3) ++ pr 4 (up 4) ++ pr 5 (up 5)
theorem mem_all {r : List Int} (h : IsRow r) : r ∈ allRows := by
  have h1 := h.lo
  have h2 := h.hi
  have h3 := h.pm
  unfold allRows
  simp only [List.mem_append]
  have : r.length = 2 ∨ r.length = 3 ∨ r.length = 4 ∨ r.length = 5 := by omega
  rcases this with e | e | e | e <;> rw [e] at h3
  · exact .inl (.inl (.inl (pr_mem h3 (up_length 2))))
  · exact .inl (.inl (.inr (pr_mem h3 (up_length 3))))
  · exact .inl (.inr (pr_mem h3 (up_length 4)))
  · exact .inr (pr_mem h3 (up_length 5))
theorem rows_all {p : List Int → Bool} (h : allRows.all p = true) {r : List Int} (hr : IsRow r) : p r = true := List.all_eq_true.mp h r (mem_all hr)
/-- the letters of the rows of so many entries -/
def lets (r : List Int) : List Int := upto ((r.length : Nat) - 1 : Int)
theorem rows_let {p : List Int → Int → Bool} (h : (allRows.all fun r => (lets r).all fun l => p r l) = true) {r : List Int} (hr : IsRow r) {l : Int} (h0 : 0 ≤ l) (h1 : l < (r.length : Nat) - 1) : p r l = true :=
  List.all_eq_true.mp (rows_all h hr) l (mem_upto.mpr ⟨h0, h1⟩)
def isRowB (r : List Int) : Bool := decide (2 ≤ r.length) && decide (r.length ≤ 5) && r.isPerm (up r.length)
theorem isRowB_iff {r : List Int} : isRowB r = true ↔ IsRow r := by
  unfold isRowB
  simp only [Bool.and_eq_true, decide_eq_true_eq, List.isPerm_iff]
  exact ⟨fun h => ⟨h.1.1, h.1.2, h.2⟩, fun h => ⟨⟨h.lo, h.hi⟩, h.pm⟩⟩
/-- two neighbours change places -/
def sw (r : List Int) (l : Int) : List Int := (r.set l.toNat (r.getD (l + 1).toNat 0)).set (l + 1).toNat (r.getD l.toNat 0)
/-- two neighbouring entries change places -/
def ahl (l : Int) (r : List Int) : List Int := r.map fun e => if e = l + 1 then l + 2 else if e = l + 2 then l + 1 else e
def falls (r : List Int) : List Int := (lets r).filter fun i => decide (r.getD i.toNat 0 > r.getD (i + 1).toNat 0)
def invsAt (r : List Int) (i : Nat) : Nat := ((r.drop (i + 1)).filter fun o => decide (o < r.getD i 0)).length
def invs (r : List Int) : Int := (((List.range r.length).map fun i => ((invsAt r i : Nat) : Int))).sum
def nrm : Nat → List Int → List Int
  | 0, _ => []
  | k + 1, r => match falls r with
    | [] => []
    | l :: _ => l :: nrm k (sw r l)
def diffs (r : List Int) : List (List Int) := (lets r).map fun i => [r.getD (i + 1).toNat 0 - r.getD i.toNat 0, 0]
def rlk (n : Int) : List (List (List Int)) := lkOf (nb 0 n) n
theorem sw_row {r : List Int} (h : IsRow r) {l : Int} (h0 : 0 ≤ l) (h1 : l < (r.length : Nat) - 1) : IsRow (sw r l) :=
  isRowB_iff.mp (rows_let (p := fun r l => isRowB (sw r l)) (by decide +kernel) h h0 h1)
theorem ahl_row {r : List Int} (h : IsRow r) {l : Int} (h0 : 0 ≤ l) (h1 : l < (r.length : Nat) - 1) : IsRow (ahl l r) :=
  isRowB_iff.mp (rows_let (p := fun r l => isRowB (ahl l r)) (by decide +kernel) h h0 h1)
theorem inv_row {r : List Int} (h : IsRow r) : IsRow (inv r) := isRowB_iff.mp (rows_all (p := fun r => isRowB (inv r)) (by decide +kernel) h)
theorem inv_length (r : List Int) : (inv r).length = r.length := by unfold inv; rw [List.length_map, up_length]
theorem sw_length (r : List Int) (l : Int) : (sw r l).length = r.length := by unfold sw; rw [List.length_set, List.length_set]
theorem ahl_length (r : List Int) (l : Int) : (ahl l r).length = r.length := by unfold ahl; rw [List.length_map]
theorem up_row {n : Nat} (h0 : 2 ≤ n) (h1 : n ≤ 5) : IsRow (up n) := ⟨by rw [up_length]; exact h0, by rw [up_length]; exact h1, by rw [up_length]⟩
theorem inv_inv {r : List Int} (h : IsRow r) : inv (inv r) = r := eq_of_beq (rows_all (p := fun r => inv (inv r) == r) (by decide +kernel) h)
theorem inv_sw {r : List Int} (h : IsRow r) {l : Int} (h0 : 0 ≤ l) (h1 : l < (r.length : Nat) - 1) : inv (sw r l) = ahl l (inv r) :=
  eq_of_beq (rows_let (p := fun r l => inv (sw r l) == ahl l (inv r)) (by decide +kernel) h h0 h1)
theorem inv_ahl {r : List Int} (h : IsRow r) {l : Int} (h0 : 0 ≤ l) (h1 : l < (r.length : Nat) - 1) : inv (ahl l r) = sw (inv r) l :=
  eq_of_beq (rows_let (p := fun r l => inv (ahl l r) == sw (inv r) l) (by decide +kernel) h h0 h1)
theorem invs_fall {r : List Int} (h : IsRow r) {l : Int} {ls : List Int} (e : falls r = l :: ls) : 0 ≤ l ∧ l < (r.length : Nat) - 1 ∧ invs (sw r l) + 1 = invs r := by
  have m : l ∈ falls r := by rw [e]; simp
  have b := mem_upto.mp (List.mem_filter.mp m).1
  have := rows_let (p := fun r l => !(falls r).contains l || decide (invs (sw r l) + 1 = invs r)) (by decide +kernel) h b.1 b.2
  rw [Bool.or_eq_true, decide_eq_true_eq] at this
  rcases this with h2 | h2
  · rw [List.contains_iff_mem.mpr m] at h2
    cases h2
  · exact ⟨b.1, b.2, h2⟩
theorem invs_zero {r : List Int} (h : IsRow r) (e : invs r = 0) : falls r = [] := by
  have := rows_all (p := fun r => !decide (invs r = 0) || decide (falls r = [])) (by decide +kernel) h
  rw [Bool.or_eq_true, decide_eq_true_eq] at this
  rcases this with h2 | h2
  · rw [e] at h2
    cases h2
  · exact h2
theorem invs_le {r : List Int} (h : IsRow r) : 0 ≤ invs r ∧ invs r ≤ 10 := by
  have := rows_all (p := fun r => decide (0 ≤ invs r) && decide (invs r ≤ 10)) (by decide +kernel) h
  simpa using this
/-- the falls that are taken, one behind the other, until none is left -/
inductive FR : List Int → List Int → Prop
  | done {r : List Int} : falls r = [] → FR r []
  | step {r : List Int} {l : Int} {ls ws : List Int} : falls r = l :: ls → FR (sw r l) ws → FR r (l :: ws)
theorem fr_nrm : ∀ {k : Nat} {r : List Int}, IsRow r → invs r ≤ k → FR r (nrm k r)
  | 0, r, h, e => .done (invs_zero h (by have := (invs_le h).1; omega))
  | k + 1, r, h, e => by
    unfold nrm
    cases c : falls r with
    | nil => exact .done c
    | cons l ls =>
      have b := invs_fall h c
      exact .step c (fr_nrm (sw_row h b.1 b.2.1) (by omega))
theorem fun_nrm_len : ∀ (k : Nat) (r : List Int), (nrm k r).length ≤ k
  | 0, r => Nat.le_refl _
  | k + 1, r => by
    unfold nrm
    split
    · exact Nat.zero_le _
    · rw [List.length_cons]
      exact Nat.succ_le_succ (fun_nrm_len k _)
/-- the word of a row -/
def W (r : List Int) : List Int := nrm 10 (inv r)
/-- the row of a word -/
def Rw (n : Nat) (ws : List Int) : List Int := ws.foldl sw (up n)
theorem fr_row {r : List Int} (h : IsRow r) : FR r (nrm 10 r) := fr_nrm h (invs_le h).2
theorem FR.det : ∀ {r ws us : List Int}, FR r ws → FR r us → ws = us
  | _, _, _, .done _, .done _ => rfl
  | _, _, _, .done e, .step e' _ => by rw [e] at e'; cases e'
  | _, _, _, .step e _, .done e' => by rw [e] at e'; cases e'
  | _, _, _, .step e h, .step e' h' => by
    rw [e] at e'
    injection e' with e1 e2
    subst e1
    rw [FR.det h h']
theorem W_len {r : List Int} (h : IsRow r) : (((W r).length : Nat) : Int) = invs r := by
  have := rows_all (p := fun r => decide ((((W r).length : Nat) : Int) = invs r)) (by decide +kernel) h
  exact of_decide_eq_true this
theorem Rw_W {r : List Int} (h : IsRow r) : Rw r.length (W r) = r := eq_of_beq (rows_all (p := fun r => Rw r.length (W r) == r) (by decide +kernel) h)
theorem Rw_back {r : List Int} (h : IsRow r) : Rw r.length (nrm 10 r).reverse = r := eq_of_beq (rows_all (p := fun r => Rw r.length (nrm 10 r).reverse == r) (by decide +kernel) h)
theorem nrm_in {r : List Int} (h : IsRow r) : ∀ l ∈ nrm 10 r, 0 ≤ l ∧ l < (r.length : Nat) - 1 := fun l hl => by
  have := List.all_eq_true.mp (rows_all (p := fun r => (nrm 10 r).all fun l => decide (0 ≤ l) && decide (l < (r.length : Nat) - 1)) (by decide +kernel) h) l hl
  simpa using this
/-- the steps of the states are those of rows -/
theorem put_diffs {r : List Int} (h : IsRow r) {l : Int} (h0 : 0 ≤ l) (h1 : l < (r.length : Nat) - 1) : putA (rlk ((r.length : Nat) - 1)) (diffs r) l = diffs (sw r l) :=
  eq_of_beq (rows_let (p := fun r l => putA (rlk ((r.length : Nat) - 1)) (diffs r) l == diffs (sw r l)) (by decide +kernel) h h0 h1)
theorem lefts_diffs {r : List Int} (h : IsRow r) : lefts (diffs r) = falls r := eq_of_beq (rows_all (p := fun r => lefts (diffs r) == falls r) (by decide +kernel) h)
theorem fine_diffs (r : List Int) : Fine (diffs r) := fun x hx => by
  unfold diffs at hx
  obtain ⟨i, _, rfl⟩ := List.mem_map.mp hx
  exact .inl rfl
theorem runs_fr : ∀ {r ws : List Int}, IsRow r → FR r ws → Runs (rlk ((r.length : Nat) - 1)) (diffs r) ws
  | r, _, h, .done e => .done (fine_diffs r) (by rw [lefts_diffs h]; exact e)
  | r, _, h, .step e f => by
    have b := invs_fall h e
    refine .step (fine_diffs r) (by rw [lefts_diffs h]; exact e) ?_
    rw [put_diffs h b.1 b.2.1]
    have := runs_fr (sw_row h b.1 b.2.1) f
    rw [sw_length] at this
    exact this
/-- words of letters of so many places -/
def Lt (n : Nat) (ws : List Int) : Prop := ∀ l ∈ ws, 0 ≤ l ∧ l < (n : Nat) - 1
theorem fold_row : ∀ {ws : List Int} {r : List Int}, IsRow r → Lt r.length ws → IsRow (ws.foldl sw r) ∧ (ws.foldl sw r).length = r.length
  | [], _, h, _ => ⟨h, rfl⟩
  | l :: ws, r, h, hl => by
    have b := hl l (by simp)
    have := fold_row (ws := ws) (sw_row h b.1 b.2) (fun x hx => by rw [sw_length]; exact hl x (by simp [hx]))
    rw [sw_length] at this
    exact this
theorem Rw_row {n : Nat} (h0 : 2 ≤ n) (h1 : n ≤ 5) {ws : List Int} (hl : Lt n ws) : IsRow (Rw n ws) ∧ (Rw n ws).length = n := by
  have := fold_row (up_row h0 h1) (ws := ws) (by rw [up_length]; exact hl)
  rw [up_length] at this
  exact this
theorem fold_diffs : ∀ {ws : List Int} {r : List Int}, IsRow r → Lt r.length ws → ws.foldl (putA (rlk ((r.length : Nat) - 1))) (diffs r) = diffs (ws.foldl sw r)
  | [], _, _, _ => rfl
  | l :: ws, r, h, hl => by
    have b := hl l (by simp)
    rw [List.foldl_cons, List.foldl_cons, put_diffs h b.1 b.2]
    have := fold_diffs (ws := ws) (sw_row h b.1 b.2) (fun x hx => by rw [sw_length]; exact hl x (by simp [hx]))
    rw [sw_length] at this
    exact this
theorem first_diffs {n : Nat} (h0 : 2 ≤ n) (h1 : n ≤ 5) : first (n - 1) = diffs (up n) := by
  have : n = 2 ∨ n = 3 ∨ n = 4 ∨ n = 5 := by omega
  rcases this with rfl | rfl | rfl | rfl <;> decide +kernel
theorem st_rows {n : Nat} (h0 : 2 ≤ n) (h1 : n ≤ 5) {ws : List Int} (hl : Lt n ws) : stOf (nb 0 ((n : Int) - 1)) ((n : Int) - 1) ws = diffs (Rw n ws.reverse) := by
  unfold stOf aheadW
  rw [show ((n : Int) - 1).toNat = n - 1 by omega, first_diffs h0 h1]
  have hl' : Lt n ws.reverse := fun l h => hl l (List.mem_reverse.mp h)
  have := fold_diffs (up_row h0 h1) (ws := ws.reverse) (by rw [up_length]; exact hl')
  rw [up_length] at this
  exact this
/-- letters ahead and behind go past one another -/
theorem ahl_sw (l m : Int) (r : List Int) (h0 : 0 ≤ m) (h1 : m < (r.length : Nat) - 1) : ahl l (sw r m) = sw (ahl l r) m := by
  unfold ahl sw
  rw [List.map_set, List.map_set]
  have g : ∀ {i : Nat}, i < r.length → (r.map fun e => if e = l + 1 then l + 2 else if e = l + 2 then l + 1 else e).getD i 0 = (if r.getD i 0 = l + 1 then l + 2 else if r.getD i 0 = l + 2 then l + 1 else r.getD i 0) := fun {i} hi => by
    simp [List.getD_eq_getElem?_getD, List.getElem?_eq_getElem hi]
  rw [g (by omega), g (by omega)]
theorem ahl_up {n : Nat} (h0 : 2 ≤ n) (h1 : n ≤ 5) {l : Int} (l0 : 0 ≤ l) (l1 : l < (n : Nat) - 1) : ahl l (up n) = sw (up n) l := by
  have := rows_let (p := fun r l => ahl l (up r.length) == sw (up r.length) l) (by decide +kernel) (up_row h0 h1) l0 (by rw [up_length]; exact l1)
  rw [up_length] at this
  exact eq_of_beq this
theorem fold_ahl (l : Int) : ∀ {ws : List Int} {r : List Int}, Lt r.length ws → ahl l (ws.foldl sw r) = ws.foldl sw (ahl l r)
  | [], _, _ => rfl
  | m :: ws, r, hl => by
    have b := hl m (by simp)
    rw [List.foldl_cons, List.foldl_cons, fold_ahl l (ws := ws) (r := sw r m) (fun x hx => by rw [sw_length]; exact hl x (by simp [hx])), ahl_sw l m r b.1 b.2]
theorem Rw_cons {n : Nat} (h0 : 2 ≤ n) (h1 : n ≤ 5) {l : Int} {ws : List Int} (l0 : 0 ≤ l) (l1 : l < (n : Nat) - 1) (hl : Lt n ws) : Rw n (l :: ws) = ahl l (Rw n ws) := by
  unfold Rw
  rw [List.foldl_cons, fold_ahl l (by rw [up_length]; exact hl), ahl_up h0 h1 l0 l1]
theorem Rw_snoc (n : Nat) (ws : List Int) (l : Int) : Rw n (ws ++ [l]) = sw (Rw n ws) l := by unfold Rw; rw [List.foldl_append]; rfl
theorem list_snoc {P : List Int → Prop} (h0 : P []) (hs : ∀ ws l, P ws → P (ws ++ [l])) (ws : List Int) : P ws := by
  have : ∀ us : List Int, P us.reverse := fun us => by
    induction us with
    | nil => exact h0
    | cons a us ih => rw [List.reverse_cons]; exact hs _ _ ih
  have := this ws.reverse
  rw [List.reverse_reverse] at this
  exact this
theorem inv_Rw {n : Nat} (h0 : 2 ≤ n) (h1 : n ≤ 5) (ws : List Int) : Lt n ws → inv (Rw n ws) = Rw n ws.reverse := by
  refine list_snoc (P := fun ws => Lt n ws → inv (Rw n ws) = Rw n ws.reverse) ?_ ?_ ws
  · intro _
    have : n = 2 ∨ n = 3 ∨ n = 4 ∨ n = 5 := by omega
    rcases this with rfl | rfl | rfl | rfl <;> decide +kernel
  · intro ws l ih hl
    have hw : Lt n ws := fun x hx => hl x (by simp [hx])
    have b := hl l (by simp)
    have hr := Rw_row h0 h1 hw
    rw [Rw_snoc, inv_sw hr.1 b.1 (by rw [hr.2]; exact b.2), ih hw, List.reverse_append, List.reverse_cons, List.reverse_nil, List.nil_append, List.singleton_append]
    exact (Rw_cons h0 h1 b.1 b.2 fun x hx => hw x (List.mem_reverse.mp hx)).symm
/-- a row behind another one -/
def comp (a b : List Int) : List Int := b.map fun e => a.getD (e - 1).toNat 0
theorem comp_sw (a b : List Int) {m : Int} (h0 : 0 ≤ m) (h1 : m < (b.length : Nat) - 1) : comp a (sw b m) = sw (comp a b) m := by
  unfold comp sw
  rw [List.map_set, List.map_set]
  have g : ∀ {i : Nat}, i < b.length → (b.map fun e => a.getD (e - 1).toNat 0).getD i 0 = a.getD (b.getD i 0 - 1).toNat 0 := fun {i} hi => by
    rw [List.getD_eq_getElem?_getD, List.getElem?_map, List.getElem?_eq_getElem hi]
    show a.getD (b[i] - 1).toNat 0 = _
    rw [show b.getD i 0 = b[i] by rw [List.getD_eq_getElem?_getD, List.getElem?_eq_getElem hi]; rfl]
  rw [g (by omega), g (by omega)]
theorem comp_up {r : List Int} (h : IsRow r) : comp r (up r.length) = r := eq_of_beq (rows_all (p := fun r => comp r (up r.length) == r) (by decide +kernel) h)
theorem Rw_append {n : Nat} (h0 : 2 ≤ n) (h1 : n ≤ 5) {ws : List Int} (hw : Lt n ws) (zs : List Int) : Lt n zs → Rw n (ws ++ zs) = comp (Rw n ws) (Rw n zs) := by
  refine list_snoc (P := fun zs => Lt n zs → Rw n (ws ++ zs) = comp (Rw n ws) (Rw n zs)) ?_ ?_ zs
  · intro _
    have hr := Rw_row h0 h1 hw
    have := comp_up hr.1
    rw [hr.2] at this
    rw [List.append_nil]
    exact this.symm
  · intro zs l ih hl
    have hz : Lt n zs := fun x hx => hl x (by simp [hx])
    have b := hl l (by simp)
    have hr := Rw_row h0 h1 hz
    rw [← List.append_assoc, Rw_snoc, Rw_snoc, ih hz, comp_sw _ _ b.1 (by rw [hr.2]; exact b.2)]
/-- the normal word of a word of letters of rows -/
theorem nw_rows {n : Nat} (h0 : 2 ≤ n) (h1 : n ≤ 5) {ws : List Int} (hl : Lt n ws) : Nw (nb 0 ((n : Int) - 1)) ((n : Int) - 1) ws (W (Rw n ws)) := by
  unfold Nw
  rw [st_rows h0 h1 hl, ← inv_Rw h0 h1 ws hl]
  have hr := Rw_row h0 h1 hl
  have hi := inv_row hr.1
  have := runs_fr hi (fr_row hi)
  rw [inv_length, hr.2] at this
  exact this
theorem invs_inv {r : List Int} (h : IsRow r) : invs (inv r) = invs r := by
  have := rows_all (p := fun r => decide (invs (inv r) = invs r)) (by decide +kernel) h
  exact of_decide_eq_true this
end Sk

namespace Sk
open PySem L2 Ow
def spRowOf (K : PySem.W.Frag) : Sp := fun vs H Q _ => ∃ (wv : V) (n : Nat) (ws : List Int), vs = [wv, .int n] ∧ TI K H wv ws ∧ Lt n ws ∧ ws.length ≤ 40 ∧ 2 ≤ n ∧ n ≤ 5 ∧ ∀ v H', Same H H' → RT H' v (Rw n ws) → Q v H'
def spFalls (K : PySem.W.Frag) : Sp := fun vs H Q _ => ∃ (a : Addr) (r : List Int), vs = [.ref a] ∧ H a = some (.lst (r.map V.int)) ∧ 0 < r.length ∧ r.length ≤ 100 ∧ ∀ b H', Same H H' → H b = none → H' b = some (.lst ((falls r).map V.int)) → Q (.ref b) H'
def spWordOf (K : PySem.W.Frag) : Sp := fun vs H Q _ => ∃ (v : V) (r : List Int), vs = [v] ∧ TI K H v r ∧ IsRow r ∧ ∀ v' H', Same H H' → TI K H' v' (W r) → Q v' H'
theorem rows_valid {n : Nat} (h0 : 2 ≤ n) (h1 : n ≤ 5) : Valid ((n : Int) - 1) (nb 0 ((n : Int) - 1)) := by
  have : n = 2 ∨ n = 3 ∨ n = 4 ∨ n = 5 := by omega
  rcases this with rfl | rfl | rfl | rfl
  · exact okB_valid (d := (1, nb 0 1)) (by decide)
  · exact okB_valid (d := (2, nb 0 2)) (by decide)
  · exact okB_valid (d := (3, nb 0 3)) (by decide)
  · exact okB_valid (d := (4, nb 0 4)) (by decide)
theorem getD_map {r : List Int} {i : Nat} (h : i < r.length) : (r.map V.int)[i]? = some (.int (r.getD i 0)) := by
  rw [List.getElem?_map, List.getElem?_eq_getElem h, List.getD_eq_getElem?_getD, List.getElem?_eq_getElem h]
  rfl
theorem atL {r : List Int} {i : Int} (h0 : 0 ≤ i) (h1 : i < r.length) : atI (r.map V.int) i = some (.int (r.getD i.toNat 0)) := ixI h0 (getD_map (by omega))
theorem sw_map (r : List Int) (l : Int) : ((r.map V.int).set l.toNat (.int (r.getD (l + 1).toNat 0))).set (l + 1).toNat (.int (r.getD l.toNat 0)) = (sw r l).map V.int := by
  unfold sw
  rw [List.map_set, List.map_set]
section
variable {P : Program} {w : World} {K : PySem.W.Frag} {mg : Str → Option Value} {base : Heap} {C : Addr}
end
end Sk

namespace Sk
open PySem L2 Ow
def spLRow (K : PySem.W.Frag) : Sp := fun vs H Q _ => ∃ (wv : V) (n : Nat) (ws : List Int), vs = [wv, .int n] ∧ TI K H wv ws ∧ Lt n ws ∧ ws.length ≤ 40 ∧ 2 ≤ n ∧ n ≤ 5 ∧ ∀ v H', Same H H' → TI K H' v (Rw n ws) → Q v H'
def spLRight (K : PySem.W.Frag) : Sp := fun vs H Q _ => ∃ (v : V) (r : List Int), vs = [v] ∧ TI K H v r ∧ 0 < r.length ∧ r.length ≤ 100 ∧ ∀ v' H', Same H H' → TI K H' v' (falls r) → Q v' H'
def spLAhead (K : PySem.W.Frag) : Sp := fun vs H Q _ => ∃ (v : V) (l : Int) (r : List Int), vs = [.int l, v] ∧ TI K H v r ∧ r.length ≤ 100 ∧ ∀ v' H', Same H H' → RT H' v' (ahl l r) → Q v' H'
def spLWord (K : PySem.W.Frag) : Sp := fun vs H Q _ => ∃ (v : V) (r : List Int), vs = [v] ∧ RT H v r ∧ IsRow r ∧ ∀ v' H', Same H H' → TI K H' v' (W r) → Q v' H'
theorem led_get (l e : Int) : (valV ([(Sum.inl (l + 1), V.int (l + 2)), (Sum.inl (l + 2), V.int (l + 1))] : List (Key × V)) (Sum.inl e)).getD (.int e) = .int (if e = l + 1 then l + 2 else if e = l + 2 then l + 1 else e) := by
  by_cases h : e = l + 1
  · rw [valV_pos (by rw [h]), if_pos h]
    rfl
  · rw [valV_neg (fun z => h (Sum.inl.inj z).symm), if_neg h]
    by_cases h2 : e = l + 2
    · rw [valV_pos (by rw [h2]), if_pos h2]
      rfl
    · rw [valV_neg (fun z => h2 (Sum.inl.inj z).symm), if_neg h2]
      rfl
theorem led_merge (l : Int) : mergeK [] ([(Sum.inl (l + 1), V.int (l + 2)), (Sum.inl (l + 2), V.int (l + 1))] : List (Key × V)) = [(Sum.inl (l + 1), V.int (l + 2)), (Sum.inl (l + 2), V.int (l + 1))] := by
  have : ¬ ((Sum.inl (l + 1) : Key) = Sum.inl (l + 2)) := fun z => by
    have := Sum.inl.inj z
    omega
  simp [mergeK, putK, this]
section
variable {P : Program} {w : World} {K : PySem.W.Frag} {mg : Str → Option Value} {base : Heap} {C : Addr}
theorem cal_l_right_letters (T : Txt K mg C) : Cal P w K mg base "_law_right_letters" 1 (spLRight K) := by
  refine T.d_l_right_letters.cal (ps := ["_law_row"]) (fun f fd D => ?_) (fun _ _ _ _ _ _ us hl => match us, hl with | [_], _ => rfl)
  refine D.ok sc_l_right_letters (fun vs H Q E h => ?_) (fun cdv A outer s H vs Q E hr h => ?_)
  · obtain ⟨_, _, rfl, _⟩ := h
    rfl
  · obtain ⟨_, r, rfl, ⟨a, rfl, ha⟩, h0, h1, k⟩ := h
    have ll : (r.map V.int).length = r.length := List.length_map _
    refine ⟨_, (pss_one (ps_ret (pe_callTy call_tuple_of (by rfl) T.b_tuple (by decide +kernel) (pa_cons (pe_lc (own := [("_law_at", 1)]) (g := gName 1) rfl sc_l_right_letters.nd (pi_range1 (by rfl) T.b_range (pa_cons (pe_op op_sub (pe_callB call_len_seq (by rfl) T.b_len (by decide +kernel) (pa_cons (pv 0) pa_nil)) pe_int) pa_nil)) (blkOk_by (own := [("_law_at", 1)]) (N := ["_law_row", "_law_at"]) (sc := defScope s_l_right_letters) (by decide +kernel)) (fun _ _ _ _ _ => (pg_name (i := 1) sc_l_right_letters.nd rfl (Or.inl rfl))) (fun _ _ _ _ _ => (pts_one (pt_cmpR op_gt (pe_ix (show IxR _ (rIxT K) from ix_tup) (pv 0) (pv 1) (fun _ _ => rfl)) (pe_ix (show IxR _ (rIxT K) from ix_tup) (pv 0) (pe_op op_add (pv 1) pe_int) (fun _ _ => rfl)) (nomark _)))) (fun _ _ _ _ _ => (pv 1))) pa_nil)))), ?_⟩
    refine ⟨_, rfl, _, _, rfl, .inr ha, _, _, rfl, rfl, _, rfl, by omega, by omega, fun D nD => lc_range (lo := 0) (n := ((((r.map V.int).length : Nat) : Int) - 1).toNat) (fun i H' => Same H H' ∧ H' D = some (.lst ((((lets r).take i).filter fun i => decide (r.getD i.toNat 0 > r.getD (i + 1).toNat 0)).map V.int))) ⟨same_new nD, upd_same⟩ ?_ ?_⟩
    · rintro i H2 hi ⟨s2, hD⟩
      rw [ll] at hi
      have hg : (lets r)[i]? = some ((0 : Int) + (i : Nat)) := upto_get hi
      have ha2 := sqT_same s2 ha
      have hlen : (((lets r).take i).filter fun i => decide (r.getD i.toNat 0 > r.getD (i + 1).toNat 0)).length ≤ 100 := Nat.le_trans (List.length_filter_le _ _) (by rw [List.length_take]; omega)
      refine ⟨rfl, _, rfl, _, rfl, a, _, _, _, rfl, rfl, ha2, atL (by omega) (by omega), _, rfl, _, rfl, _, _, rfl, rfl, a, _, _, _, rfl, rfl, ha2, atL (by omega) (by omega), _, _, rfl, rfl, _, rfl, ite2 (fun c => ?_) (fun c => ?_)⟩
      · refine ⟨_, rfl, _, hD, small1000 (by rw [List.length_map]; omega), same_off nD s2 off_upd, ?_⟩
        rw [upd_same, take_snoc hg, List.filter_append, List.filter_cons_of_pos (p := fun i : Int => decide (r.getD i.toNat 0 > r.getD (i + 1).toNat 0)) c, List.filter_nil, List.map_append]
        rfl
      · refine ⟨s2, ?_⟩
        rw [take_snoc hg, List.filter_append, List.filter_cons_of_neg (p := fun i : Int => decide (r.getD i.toNat 0 > r.getD (i + 1).toNat 0)) c, List.filter_nil, List.append_nil]
        exact hD
    · rintro H2 ⟨s2, hD⟩
      rw [List.take_of_length_le (by unfold lets; rw [upto_length, ll]; exact Nat.le_refl _)] at hD
      exact ⟨D, _, rfl, .inl ⟨.of hD, fun t nt => k _ _ (s2.trans (same_new nt)) ⟨t, rfl, .of upd_same⟩⟩⟩
theorem cal_l_ahead (T : Txt K mg C) : Cal P w K mg base "_law_ahead" 1 (spLAhead K) := by
  refine T.d_l_ahead.cal (ps := ["_law_letter", "_law_row"]) (fun f fd D => ?_) (fun _ _ _ _ _ _ us hl => match us, hl with | [_, _], _ => rfl)
  refine D.ok sc_l_ahead (fun vs H Q E h => ?_) (fun cdv A outer s H vs Q E hr h => ?_)
  · obtain ⟨_, _, _, rfl, _⟩ := h
    rfl
  · obtain ⟨_, l, r, rfl, ⟨a, rfl, ha⟩, hl, k⟩ := h
    refine ⟨_, (pss_cons (ps_set (i := 2) sc_l_ahead.nd rfl (Or.inr rfl) (pe_disp (pps_cons (pe_op op_add (pv 0) pe_int) (pe_op op_add (pv 0) pe_int) (pps_cons (pe_op op_add (pv 0) pe_int) (pe_op op_add (pv 0) pe_int) pps_nil)) rfl rfl (by simp) (by decide)))
      (pss_one (ps_ret (pe_callTy call_tupF (by rfl) T.b_tuple (by decide +kernel) (pa_cons (pe_lc (own := [("_law_entry", 3)]) (g := gName 3) (tt := tYes) rfl sc_l_ahead.nd (pi_tup (pv 1)) (blkOk_by (own := [("_law_entry", 3)]) (N := ["_law_letter", "_law_row", "_law_led", "_law_entry"]) (sc := defScope s_l_ahead) (by decide +kernel)) (fun _ _ _ _ _ => (pg_name (i := 3) sc_l_ahead.nd rfl (Or.inl rfl))) (fun _ _ _ _ _ => pts_nil) (fun _ _ _ _ _ => (pe_dget2 (hu_of hr) (pv 2) (pv 3) (pv 3) ⟨rfl, rfl, rfl, rfl⟩))) pa_nil))))), ?_⟩
    refine fun d nd => ⟨_, rfl, _, _, rfl, rfl, _, rfl, _, _, rfl, rfl, _, rfl, _, _, rfl, rfl, _, rfl, _, _, rfl, rfl, upd_same, [(Sum.inl (l + 1), .int (l + 2)), (Sum.inl (l + 2), .int (l + 1))], rfl, by simp, ?_⟩
    rw [led_merge]
    generalize hH2 : upd (upd H d (.dK [])) d (.dK [(Sum.inl (l + 1), V.int (l + 2)), (Sum.inl (l + 2), V.int (l + 1))]) = H2
    have s2 : Same H H2 := by rw [← hH2]; exact same_off nd (same_new nd) off_upd
    have hd2 : H2 d = some (.dK [(Sum.inl (l + 1), V.int (l + 2)), (Sum.inl (l + 2), V.int (l + 1))]) := by rw [← hH2, upd_same]
    refine ⟨_, rfl, a, rfl, ⟨_, sqT_same s2 ha⟩, fun D nD => lc_tup (K := K) (a := a) (xs := r.map V.int) (fun i H' => Same H2 H' ∧ H' D = some (.lst ((ahl l (r.take i)).map V.int))) ⟨same_new nD, upd_same⟩ (fun i H' _ h => sqT_same (s2.trans h.1) ha) ?_ ?_⟩
    · rintro i x H3 hi ⟨s3, hD⟩
      obtain ⟨c, hc, rfl⟩ := int_at hi
      refine ⟨rfl, _, rfl, d, rfl, .inl ⟨_, .inl (s3 _ _ hd2)⟩, _, rfl, _, rfl, _, DGet.k (k := .inl c) (s3 _ _ hd2), ?_⟩
      rw [led_get]
      refine ⟨_, hD, ?_, same_off nD s3 off_upd, ?_⟩
      · rw [List.length_map, ahl_length, List.length_take]
        exact small1000 (by omega)
      · rw [upd_same, take_snoc hc]
        unfold ahl
        rw [List.map_append, List.map_append]
        rfl
    · rintro H3 ⟨s3, hD⟩
      rw [List.length_map, List.take_length] at hD
      exact ⟨D, _, rfl, .of hD, fun t H5 nt ex ft => k _ _ ((s2.trans s3).trans fun u w z => by rw [ex u (ne_of_none z nt)]; exact z) ⟨t, rfl, ft⟩⟩
end
end Sk

namespace Sk
open PySem L2 Ow
def rLenQ (K : PySem.W.Frag) : List V → Hp → VK → Prop := fun xs H Q => ∃ p ys, xs = [.ref p] ∧ (SqL K H p ys ∨ SqT K H p ys) ∧ Q (.int ys.length) H
abbrev scL : Scope := { kind := ScopeKind.function, names := [(".0", NameKind.local), ("_law_at", NameKind.local), ("_law_entry", NameKind.cell), ("len", NameKind.globalImplicit), ("_law_row", NameKind.cell)], isGenerator := false, isCoroutine := false }
theorem slc_any {K : PySem.W.Frag} {H : Hp} {Q : VK} {a : Addr} {xs : List V} {lo hi : Option Int} (ha : SqT K H a xs) (q : ∀ v H', Same H H' → (∃ c, v = .ref c ∧ SqT K H' c (cutV xs lo hi)) → Q v H') : rSlA K (.ref a) lo hi H Q := by
  refine ⟨a, xs, rfl, ha, fun e => q _ _ (.refl _) ⟨a, rfl, ?_⟩, fun _ p np => q _ _ (same_new np) ⟨p, rfl, .of upd_same⟩⟩
  have : cutV xs lo hi = xs := by
    unfold cutV
    rw [e.1, e.2]
    simp
  rw [this]
  exact ha
theorem cut_drop (xs : List V) (k : Nat) : cutV xs (some (k : Int)) none = xs.drop k := by
  show (xs.drop (HT.sIx xs.length 0 (some ((k : Nat) : Int)))).take (xs.length - HT.sIx xs.length 0 (some ((k : Nat) : Int))) = xs.drop k
  rw [HT.sIx_nat]
  by_cases h : k ≤ xs.length
  · rw [Nat.min_eq_left h, List.take_of_length_le (by rw [List.length_drop]; omega)]
  · rw [Nat.min_eq_right (by omega), List.drop_eq_nil_of_le (Nat.le_refl _), List.drop_eq_nil_of_le (by omega)]
    simp
def spLLength (K : PySem.W.Frag) : Sp := fun vs H Q _ => ∃ (v : V) (r : List Int), vs = [v] ∧ TI K H v r ∧ r.length ≤ 100 ∧ ∀ H', Same H H' → Q (.int (invs r)) H'
def spSomeWord (K : PySem.W.Frag) : Sp := fun vs H Q _ => ∃ (p : Addr) (n m : Int), vs = [.ref p, .int n, .int m] ∧ VatAt H p ∧ 0 < n ∧ n ≤ 100 ∧ 0 ≤ m ∧ m ≤ 100 ∧ ∀ v ws H', Off p H H' → VatAt H' p → TI K H' v ws → (∀ x ∈ ws, 0 ≤ x ∧ x < n) → ((ws.length : Nat) : Int) ≤ m → Q v H'
def rowAt (v : V) (H : Hp) : List Int := match v with
  | .ref a => match H a with
    | some (.frz _ (.tup ys)) => ys.map fun y => match y with
      | .int i => i
      | _ => 0
    | _ => []
  | _ => []
theorem RT.rowAt {H : Hp} {v : V} {r : List Int} (h : RT H v r) : rowAt v H = r := by
  obtain ⟨a, rfl, o, h1, _⟩ := h
  unfold Sk.rowAt
  show (match H a with
    | some (.frz _ (.tup ys)) => ys.map _
    | _ => []) = r
  rw [h1]
  show (r.map V.int).map _ = r
  rw [List.map_map]
  exact List.map_id' _
def wMeas (σ : L2.St) (H : Hp) : Nat := match σ with
  | some v :: _ => (invs (inv (rowAt v H))).toNat
  | _ => 0
theorem B8 {z : Int} (h : 0 ≤ z ∧ z ≤ 1000) : B 8000 z := by
  show z.natAbs < 2 ^ 8000
  exact Nat.lt_of_le_of_lt (show z.natAbs ≤ 1000 by omega) (by decide)
section
variable {P : Program} {w : World} {K : PySem.W.Frag} {mg : Str → Option Value} {base : Heap} {C : Addr}
theorem cal_l_word (T : Txt K mg C) : Cal P w K mg base "_law_word" 2 (spLWord K) := by
  refine T.d_l_word.cal (ps := ["_law_row"]) (fun f fd D => ?_) (fun _ _ _ _ _ _ us hl => match us, hl with | [_], _ => rfl)
  refine D.ok sc_l_word (fun vs H Q E h => ?_) (fun cdv A outer s H vs Q E hr h => ?_)
  · obtain ⟨_, _, rfl, _⟩ := h
    rfl
  · obtain ⟨v, r, rfl, hv, hR, k⟩ := h
    refine ⟨_, (pss_cons (ps_par (i := 1) (j := 2) rfl sc_l_word.nd rfl rfl (by decide) rfl rfl (pa_cons (pe_tup pa_nil) (pa_cons (pe_cal (cal_l_right_letters T) (hr.mono (by decide)) (by rfl) (pa_cons (pe_cal (cal_l_undone T) (hr.mono (by decide)) (by rfl) (pa_cons (pv 0) pa_nil)) pa_nil)) pa_nil)) rfl)
      (pss_cons (ps_while PassesOwn.never (pt_cmpR (op_neD hr.units) (pv 2) (pe_tup pa_nil) (nomark _)) (pss_cons (ps_par (i := 1) (j := 0) rfl sc_l_word.nd rfl rfl (by decide) rfl rfl (pa_cons (pe_op op_catA (pv 1) (pe_tup (pa_cons (pe_ix ix_tup (pv 2) pe_int (fun _ _ => rfl)) pa_nil))) (pa_cons (pe_cal (cal_l_ahead T) (hr.mono (by decide)) (by rfl) (pa_cons (pe_ix ix_tup (pv 2) pe_int (fun _ _ => rfl)) (pa_cons (pv 0) pa_nil))) pa_nil)) rfl)
      (pss_one (ps_set (i := 2) sc_l_word.nd rfl (Or.inl rfl) (pe_cal (cal_l_right_letters T) (hr.mono (by decide)) (by rfl) (pa_cons (pe_cal (cal_l_undone T) (hr.mono (by decide)) (by rfl) (pa_cons (pv 0) pa_nil)) pa_nil))))))
      (pss_one (ps_ret (pv 1))))), ?_⟩
    refine ⟨Nat.zero_le _, fun e ne => ?_⟩
    have se := same_new (o := .tup []) ne
    refine ⟨_, rfl, v, r, rfl, hv.same se, hR, fun v1 H1 s1 t1 => ?_⟩
    have hi := inv_row hR
    refine ⟨v1, inv r, rfl, t1, by have := hi.lo; omega, by have := hi.hi; omega, fun v2 H2 s2 t2 => ⟨_, _, rfl, ?_⟩⟩
    have s02 := (se.trans s1).trans s2
    refine while_by (fun σ H' => ∃ (rv fv lv : V) (q us rs : List Int), σ = [some rv, some fv, some lv] ∧ Same H H' ∧ RT H' rv q ∧ IsRow q ∧ TI K H' fv us ∧ TI K H' lv (falls (inv q)) ∧ FR (inv q) rs ∧ us ++ rs = W r) wMeas ?_ ?_ ?_
    · exact ⟨v, .ref e, v2, r, [], W r, rfl, s02, hv.same s02, hR, ⟨e, rfl, .of (s2 _ _ (s1 _ _ upd_same))⟩, t2, fr_row hi, rfl⟩
    · rintro _ H3 ⟨rv, fv, lv, q, us, rs, rfl, s3, hrt, hq, hf, hlv, hfr, hw⟩
      have hul : us.length ≤ 10 := by
        have h1 := congrArg List.length hw
        rw [List.length_append] at h1
        have h2 := fun_nrm_len 10 (inv r)
        unfold W at h1
        omega
      refine ⟨_, rfl, Nat.zero_le _, fun e1 ne1 => ?_⟩
      have se1 := same_new (o := .tup []) ne1
      refine ⟨_, _, (hlv.same se1).dp, TI.dp (ns := []) ⟨e1, rfl, .of upd_same⟩, sh_dT _, sh_dT _, _, rfl, ?_⟩
      rw [eqv_dT]
      have hiq := inv_row hq
      cases hfr with
      | done e =>
        rw [decide_eq_true e]
        refine iteF ⟨_, rfl, ?_⟩
        rw [List.append_nil] at hw
        rw [← hw] at k
        exact k _ _ (s3.trans se1) (hf.same se1)
      | @step _ l ls rs e hfr =>
        rw [decide_eq_false (by rw [e]; simp)]
        refine iteT ?_
        have b := invs_fall hiq e
        rw [inv_length] at b
        obtain ⟨fa, rfl, hfa⟩ := hf.same se1
        obtain ⟨la, rfl, hla⟩ := hlv.same se1
        rw [e] at hla
        refine ⟨_, rfl, _, rfl, la, _, _, _, rfl, rfl, hla, at_of (j := 0) rfl rfl, show 1 ≤ sizeLine by decide, fun t nt => ?_⟩
        have st := same_new (o := .tup [.int l]) nt
        refine cat_any (sqT_same st hfa) (.of upd_same) (by rw [List.length_map]; simp; omega) fun v4 H4 s4 hc => ?_
        have s14 := (se1.trans st).trans s4
        refine ⟨_, rfl, la, _, _, _, rfl, rfl, sqT_same (st.trans s4) hla, at_of (j := 0) rfl rfl, _, rfl, rv, l, q, rfl, (hrt.same s14).ti, by have := hq.hi; omega, fun v5 H5 s5 t5 => ⟨_, _, rfl, ?_⟩⟩
        have hq2 := ahl_row hq (l := l) b.1 b.2.1
        have e2 : inv (ahl l q) = sw (inv q) l := inv_ahl hq b.1 b.2.1
        refine ⟨_, rfl, v5, _, rfl, t5, hq2, fun v6 H6 s6 t6 => ?_⟩
        have hi2 := inv_row hq2
        refine ⟨v6, _, rfl, t6, by have := hi2.lo; omega, by have := hi2.hi; omega, fun v7 H7 s7 t7 => ?_⟩
        obtain ⟨ca, rfl, hca⟩ := hc
        refine ⟨⟨v5, .ref ca, v7, ahl l q, us ++ [l], rs, rfl, ((s3.trans s14).trans s5).trans (s6.trans s7), t5.same (s6.trans s7), hq2, ⟨ca, rfl, sqT_same (s5.trans (s6.trans s7)) (by rw [List.map_append]; exact hca)⟩, t7, by rw [e2]; exact hfr, by rw [List.append_assoc]; exact hw⟩, ?_⟩
        show (invs (inv (rowAt v5 H7))).toNat < (invs (inv (rowAt rv H3))).toNat
        rw [(t5.same (s6.trans s7)).rowAt, hrt.rowAt, e2]
        have := (invs_le (sw_row hiq b.1 (by rw [inv_length]; exact b.2.1))).1
        omega
    · rintro σ H Q Q' hq ⟨v, hv, h0, h⟩
      refine ⟨v, hv, h0, fun e ne => ?_⟩
      obtain ⟨d, e', h1, h2, h3, h4, c, h5, h6⟩ := h e ne
      exact ⟨d, e', h1, h2, h3, h4, c, h5, hq _ _ h6⟩
theorem cal_l_length (T : Txt K mg C) : Cal P w K mg base "_law_length" 1 (spLLength K) := by
  refine T.d_l_length.cal (ps := ["_law_row"]) (fun f fd D => ?_) (fun _ _ _ _ _ _ us hl => match us, hl with | [_], _ => rfl)
  refine D.ok sc_l_length (fun vs H Q E h => ?_) (fun cdv A outer s H vs Q E hr h => ?_)
  · obtain ⟨_, _, rfl, _⟩ := h
    rfl
  · obtain ⟨_, r, rfl, ⟨a, rfl, ha⟩, hl, k⟩ := h
    have ll : (r.map V.int).length = r.length := List.length_map _
    refine ⟨_, (pss_one (ps_ret (pe_callB (cr_sum rfl) (by rfl) T.b_sum (by decide +kernel) (pa_cons (pe_lc (own := [("_law_at", 2), ("_law_entry", 3)]) (g := gTup K 2 (gCons (gName 2) (gCons (gName 3) (gNil)))) (tt := tYes) rfl sc_l_length.nd (pi_enumT (by rfl) T.b_enumerate (pa_cons (pv 0) pa_nil)) (blkOk_by (own := [("_law_at", 2), ("_law_entry", 3)]) (N := ["_law_row", "_law_other", "_law_at", "_law_entry"]) (sc := defScope s_l_length) (by decide +kernel)) (fun _ _ _ _ _ => (pg_tup (by rfl) (pgs_cons (pg_name (i := 2) sc_l_length.nd rfl (Or.inl rfl)) (pgs_cons (pg_name (i := 3) sc_l_length.nd rfl (Or.inr rfl)) pgs_nil)))) (fun _ _ _ _ _ => pts_nil) (fun _ _ _ _ _ => (pe_callB (show CallR _ (.builtin "len") (rLenQ K) from call_len_seq) (by rfl) T.b_len (by decide +kernel) (pa_cons (pe_lc (own := [("_law_other", 1)]) (g := gName 1) rfl sc_l_length.nd (show PI _ _ _ (iTup K (tSl (rSlA K) (tVar 0) (tPart (tOp (rI0 fun i j => V.int (i + j)) (tVar 2) (tC (V.int 1)))) tNoPart)) from (pi_tup (pe_slice (show SlR _ (rSlA K) from sl_tupA) (pv 0) (po_some (pe_op op_add (pv 2) pe_int)) po_none))) (blkOk_by (own := [("_law_other", 1)]) (N := ["_law_row", "_law_other", "_law_at", "_law_entry"]) (sc := scL) (by decide +kernel)) (fun _ _ _ _ _ => (pg_name (i := 1) sc_l_length.nd rfl (Or.inl rfl))) (fun _ _ _ _ _ => (pts_one (pt_cmpR op_lt (pv 1) (pv 3) (nomark _)))) (fun _ _ _ _ _ => pe_int)) pa_nil)))) pa_nil)))), ?_⟩
    refine ⟨_, rfl, a, _, rfl, ha, fun D nD => lc_it (walk_enumT (K := K) (a := a) (xs := r.map V.int)) (fun i H' => Same H H' ∧ H' D = some (.lst ((((List.range r.length).take i).map fun i => ((invsAt r i : Nat) : Int)).map V.int))) ⟨same_new nD, upd_same⟩ (fun i H' _ h => sqT_same h.1 ha) ?_ ?_⟩
    · rintro i x H4 H5 hi ⟨s4, hD⟩ ⟨q, x1, x2, rfl, nq, rfl, e1, e2⟩
      obtain rfl : x1 = .int (i : Nat) := (Option.some.inj e1).symm
      obtain ⟨c, hc, rfl⟩ := int_at e2
      have s5 := s4.trans (same_new (o := .tup [.int (i : Nat), .int c]) nq)
      have hD5 := same_new (o := .tup [.int (i : Nat), .int c]) nq _ _ hD
      have il := (List.getElem?_eq_some_iff.mp hc).1
      have hcv : r.getD i 0 = c := by rw [List.getD_eq_getElem?_getD, hc]; rfl
      refine ⟨_, _, rfl, .of upd_same, rfl, _, _, rfl, _, _, rfl, rfl, rfl, ?_⟩
      refine ⟨_, rfl, _, rfl, _, _, rfl, rfl, _, rfl, ?_⟩
      dsimp only [tNoPart]
      refine slc_any (sqT_same s5 ha) fun v6 H6 s6 hcut => ?_
      obtain ⟨b, rfl, hb⟩ := hcut
      rw [show ((i : Nat) : Int) + 1 = ((i + 1 : Nat) : Int) by omega, cut_drop, ← List.map_drop] at hb
      refine ⟨b, rfl, ⟨_, hb⟩, fun D2 nD2 => lc_tup (K := K) (a := b) (xs := (r.drop (i + 1)).map V.int) (fun j H' => Same H6 H' ∧ H' D2 = some (.lst ((((r.drop (i + 1)).take j).filter fun o => decide (o < c)).map fun _ => V.int 1))) ⟨same_new nD2, upd_same⟩ (fun i H' _ h => sqT_same h.1 hb) ?_ ?_⟩
      · rintro j x H7 hj ⟨s7, hD7⟩
        obtain ⟨o, ho, rfl⟩ := int_at hj
        have hlen : (((r.drop (i + 1)).take j).filter fun o => decide (o < c)).length ≤ 100 := Nat.le_trans (List.length_filter_le _ _) (by rw [List.length_take, List.length_drop]; omega)
        refine ⟨rfl, _, rfl, _, rfl, _, _, rfl, rfl, _, rfl, ite2 (fun z => ?_) (fun z => ?_)⟩
        · refine ⟨_, hD7, small1000 (by rw [List.length_map]; omega), same_off nD2 s7 off_upd, ?_⟩
          rw [upd_same, take_snoc ho, List.filter_append, List.filter_cons_of_pos (p := fun o => decide (o < c)) z, List.filter_nil, List.map_append]
          rfl
        · refine ⟨s7, ?_⟩
          rw [take_snoc ho, List.filter_append, List.filter_cons_of_neg (p := fun o => decide (o < c)) z, List.filter_nil, List.append_nil]
          exact hD7
      · rintro H7 ⟨s7, hD7⟩
        rw [List.length_map, List.take_length] at hD7
        have hD8 := s7 _ _ (s6 _ _ hD5)
        refine ⟨D2, _, rfl, .inl (.of hD7), _, hD8, ?_, same_off nD ((s5.trans s6).trans s7) off_upd, ?_⟩
        · rw [List.length_map, List.length_map, List.length_take, List.length_range]
          exact small1000 (by omega)
        · rw [upd_same, take_snoc (List.getElem?_range il), List.map_append, List.map_append]
          unfold invsAt
          rw [← hcv]
          simp
    · rintro H4 ⟨s4, hD⟩
      rw [ll, List.take_of_length_le (by rw [List.length_range]; exact Nat.le_refl _)] at hD
      exact ⟨D, _, rfl, .of hD, k _ s4⟩
end
end Sk

namespace Sk
open PySem L2 Ow
theorem ne_ti {K : PySem.W.Frag} {H : Hp} {Q : VK} {va vb : V} {a b : List Int} (ha : TI K H va a) (hb : TI K H vb b) (e : a = b) (q : Q (.bl false) H) : rNeD K va vb H Q :=
  ⟨dT a, dT b, ha.dp, hb.dp, sh_dT _, sh_dT _, by rw [eqv_dT, decide_eq_true e]; exact q⟩
theorem eq_ti {K : PySem.W.Frag} {H : Hp} {Q : VK} {va vb : V} {a b : List Int} (ha : TI K H va a) (hb : TI K H vb b) (q : Q (.bl (decide (a = b))) H) : rEqD K va vb H Q :=
  ⟨dT a, dT b, ha.dp, hb.dp, sh_dT _, sh_dT _, by rw [eqv_dT]; exact q⟩
theorem SysAt.vat {K : PySem.W.Frag} {C : Addr} {H H' : Hp} {p q : Addr} {n : Int} {bv : V} {bs : List (List Int)} (y : SysAt K C H q n bv bs) (o : Off p H H') (b : VatAt H p) : SysAt K C H' q n bv bs := by
  obtain ⟨b0, b1, b2, hp⟩ := b
  obtain ⟨⟨dx, g⟩, hb⟩ := y
  exact ⟨⟨dx, o _ _ (fun e => by rw [e, hp] at g; cases g) g⟩, o.bs hp hb⟩
def spPart (K : PySem.W.Frag) : Sp := fun vs H Q _ => ∃ (p : Addr) (z : Int), vs = [.ref p, .int z] ∧ VatAt H p ∧ 2 ≤ z ∧ z ≤ 5 ∧ ∀ H', Off p H H' → VatAt H' p → Q (.bl true) H'
theorem W_le {r : List Int} (h : IsRow r) : (W r).length ≤ 10 := by
  have := W_len h
  have := (invs_le h).2
  omega
theorem W_inj {a b : List Int} (ha : IsRow a) (hb : IsRow b) (e : a.length = b.length) : decide (W a = W b) = decide (a = b) := by
  refine decide_eq_decide.mpr ⟨fun h => ?_, fun h => by rw [h]⟩
  rw [← Rw_W ha, ← Rw_W hb, h, e]
theorem W_lt {r : List Int} (h : IsRow r) : Lt r.length (W r) := fun l hl => by
  have := nrm_in (inv_row h) l hl
  rw [inv_length] at this
  exact this
section
variable {P : Program} {w : World} {K : PySem.W.Frag} {mg : Str → Option Value} {base : Heap} {C : Addr}
end
end Sk

namespace Sk.Sg
open PySem L2 Ow
structure IsRow (r : List Int) : Prop where
  lo : 2 ≤ r.length
  hi : r.length ≤ 3
  pm : (r.map ab).Perm (up r.length)
/-- all signs -/
def sgn : List Int → List (List Int)
  | [] => [[]]
  | x :: xs => (sgn xs).flatMap fun t => [x :: t, (-x) :: t]
theorem mem_sgn : ∀ r : List Int, r ∈ sgn (r.map ab)
  | [] => by simp [sgn]
  | x :: r => by
    show (x :: r) ∈ (sgn (r.map ab)).flatMap fun t => [ab x :: t, (-ab x) :: t]
    rw [List.mem_flatMap]
    refine ⟨r, mem_sgn r, ?_⟩
    unfold ab
    by_cases h : x < 0
    · rw [if_pos h]
      simp
    · rw [if_neg h]
      simp
def allRows : List (List Int) := ((pr 2 (up 2)) ++ (pr 3 (up 3))).flatMap sgn
theorem mem_all {r : List Int} (h : IsRow r) : r ∈ allRows := by
  have h1 := h.lo
  have h2 := h.hi
  have h3 := h.pm
  unfold allRows
  rw [List.mem_flatMap]
  refine ⟨r.map ab, ?_, mem_sgn r⟩
  rw [List.mem_append]
  have : r.length = 2 ∨ r.length = 3 := by omega
  rcases this with e | e <;> rw [e] at h3
  · exact .inl (pr_mem h3 (up_length 2))
  · exact .inr (pr_mem h3 (up_length 3))
theorem rows_all {p : List Int → Bool} (h : allRows.all p = true) {r : List Int} (hr : IsRow r) : p r = true := List.all_eq_true.mp h r (mem_all hr)
/-- the letters of the signed rows of so many entries -/
def lets (r : List Int) : List Int := upto (r.length : Nat)
theorem rows_let {p : List Int → Int → Bool} (h : (allRows.all fun r => (lets r).all fun l => p r l) = true) {r : List Int} (hr : IsRow r) {l : Int} (h0 : 0 ≤ l) (h1 : l < (r.length : Nat)) : p r l = true :=
  List.all_eq_true.mp (rows_all h hr) l (mem_upto.mpr ⟨h0, h1⟩)
def isRowB (r : List Int) : Bool := decide (2 ≤ r.length) && decide (r.length ≤ 3) && (r.map ab).isPerm (up r.length)
theorem isRowB_iff {r : List Int} : isRowB r = true ↔ IsRow r := by
  unfold isRowB
  simp only [Bool.and_eq_true, decide_eq_true_eq, List.isPerm_iff]
  exact ⟨fun h => ⟨h.1.1, h.1.2, h.2⟩, fun h => ⟨⟨h.lo, h.hi⟩, h.pm⟩⟩
/-- two neighbours change places -/
def sw0 (r : List Int) (l : Int) : List Int := (r.set l.toNat (r.getD (l + 1).toNat 0)).set (l + 1).toNat (r.getD l.toNat 0)
/-- a letter behind -/
def sw (r : List Int) (l : Int) : List Int := if l = 0 then r.set 0 (-(r.getD 0 0)) else sw0 r (l - 1)
/-- one entry of the signed row that undoes -/
def invS (r : List Int) (f : List Int) (i : Nat) : List Int := f.set (ab (r.getD i 0) - 1).toNat (if 0 < r.getD i 0 then (i : Int) + 1 else 0 - (i : Int) - 1)
/-- the signed row that undoes -/
def inv (r : List Int) : List Int := (List.range r.length).foldl (invS r) (List.replicate r.length 0)
theorem invS_length (r : List Int) : ∀ (l : List Nat) (f : List Int), (l.foldl (invS r) f).length = f.length
  | [], _ => rfl
  | i :: l, f => by rw [List.foldl_cons, invS_length r l]; unfold invS; rw [List.length_set]
/-- a letter ahead -/
def ahl (l : Int) (r : List Int) : List Int := inv (sw (inv r) l)
def falls0 (r : List Int) : List Int := (upto ((r.length : Nat) - 1 : Int)).filter fun i => decide (r.getD i.toNat 0 > r.getD (i + 1).toNat 0)
def falls (r : List Int) : List Int := (if r.getD 0 0 < 0 then [0] else []) ++ (falls0 r).map (· + 1)
def b2i (b : Bool) : Int := if b then 1 else 0
def invs (r : List Int) : Int := ((List.range r.length).map fun i => b2i (decide (r.getD i 0 < 0)) + ((List.range r.length).map fun j => if i < j then b2i (decide (r.getD i 0 > r.getD j 0)) + b2i (decide (r.getD i 0 + r.getD j 0 < 0)) else 0).sum).sum
def nrm : Nat → List Int → List Int
  | 0, _ => []
  | k + 1, r => match falls r with
    | [] => []
    | l :: _ => l :: nrm k (sw r l)
def diffs (r : List Int) : List (List Int) := [r.getD 0 0, 0] :: (upto ((r.length : Nat) - 1 : Int)).map fun i => [r.getD (i + 1).toNat 0 - r.getD i.toNat 0, 0]
def sB (n : Int) : List (List Int) := [0, 1, 4] :: nb 1 n
def rlk (n : Int) : List (List (List Int)) := lkOf (sB n) n
theorem sw_row {r : List Int} (h : IsRow r) {l : Int} (h0 : 0 ≤ l) (h1 : l < (r.length : Nat)) : IsRow (sw r l) :=
  isRowB_iff.mp (rows_let (p := fun r l => isRowB (sw r l)) (by decide +kernel) h h0 h1)
theorem ahl_row {r : List Int} (h : IsRow r) {l : Int} (h0 : 0 ≤ l) (h1 : l < (r.length : Nat)) : IsRow (ahl l r) :=
  isRowB_iff.mp (rows_let (p := fun r l => isRowB (ahl l r)) (by decide +kernel) h h0 h1)
theorem inv_row {r : List Int} (h : IsRow r) : IsRow (inv r) := isRowB_iff.mp (rows_all (p := fun r => isRowB (inv r)) (by decide +kernel) h)
theorem inv_length (r : List Int) : (inv r).length = r.length := by unfold inv; rw [invS_length, List.length_replicate]
theorem sw_length (r : List Int) (l : Int) : (sw r l).length = r.length := by
  unfold sw sw0
  split
  · rw [List.length_set]
  · rw [List.length_set, List.length_set]
theorem ahl_length (r : List Int) (l : Int) : (ahl l r).length = r.length := by unfold ahl; rw [inv_length, sw_length, inv_length]
theorem up_row {n : Nat} (h0 : 2 ≤ n) (h1 : n ≤ 3) : IsRow (up n) := by
  have : n = 2 ∨ n = 3 := by omega
  rcases this with rfl | rfl
  · exact isRowB_iff.mp (by decide +kernel)
  · exact isRowB_iff.mp (by decide +kernel)
theorem inv_inv {r : List Int} (h : IsRow r) : inv (inv r) = r := eq_of_beq (rows_all (p := fun r => inv (inv r) == r) (by decide +kernel) h)
theorem inv_sw {r : List Int} (h : IsRow r) {l : Int} (h0 : 0 ≤ l) (h1 : l < (r.length : Nat)) : inv (sw r l) = ahl l (inv r) :=
  eq_of_beq (rows_let (p := fun r l => inv (sw r l) == ahl l (inv r)) (by decide +kernel) h h0 h1)
theorem inv_ahl {r : List Int} (h : IsRow r) {l : Int} (h0 : 0 ≤ l) (h1 : l < (r.length : Nat)) : inv (ahl l r) = sw (inv r) l :=
  eq_of_beq (rows_let (p := fun r l => inv (ahl l r) == sw (inv r) l) (by decide +kernel) h h0 h1)
theorem falls_in {r : List Int} (h : IsRow r) {l : Int} (m : l ∈ falls r) : 0 ≤ l ∧ l < (r.length : Nat) := by
  have := List.all_eq_true.mp (rows_all (p := fun r => (falls r).all fun l => decide (0 ≤ l) && decide (l < (r.length : Nat))) (by decide +kernel) h) l m
  simpa using this
theorem invs_fall {r : List Int} (h : IsRow r) {l : Int} {ls : List Int} (e : falls r = l :: ls) : 0 ≤ l ∧ l < (r.length : Nat) ∧ invs (sw r l) + 1 = invs r := by
  have m : l ∈ falls r := by rw [e]; simp
  have b : 0 ≤ l ∧ l < (r.length : Nat) := falls_in h m
  have := rows_let (p := fun r l => !(falls r).contains l || decide (invs (sw r l) + 1 = invs r)) (by decide +kernel) h b.1 b.2
  rw [Bool.or_eq_true, decide_eq_true_eq] at this
  rcases this with h2 | h2
  · rw [List.contains_iff_mem.mpr m] at h2
    cases h2
  · exact ⟨b.1, b.2, h2⟩
theorem invs_zero {r : List Int} (h : IsRow r) (e : invs r = 0) : falls r = [] := by
  have := rows_all (p := fun r => !decide (invs r = 0) || decide (falls r = [])) (by decide +kernel) h
  rw [Bool.or_eq_true, decide_eq_true_eq] at this
  rcases this with h2 | h2
  · rw [e] at h2
    cases h2
  · exact h2
theorem invs_le {r : List Int} (h : IsRow r) : 0 ≤ invs r ∧ invs r ≤ 10 := by
  have := rows_all (p := fun r => decide (0 ≤ invs r) && decide (invs r ≤ 10)) (by decide +kernel) h
  simpa using this
/-- the falls that are taken, one behind the other, until none is left -/
inductive FR : List Int → List Int → Prop
  | done {r : List Int} : falls r = [] → FR r []
  | step {r : List Int} {l : Int} {ls ws : List Int} : falls r = l :: ls → FR (sw r l) ws → FR r (l :: ws)
theorem fr_nrm : ∀ {k : Nat} {r : List Int}, IsRow r → invs r ≤ k → FR r (nrm k r)
  | 0, r, h, e => .done (invs_zero h (by have := (invs_le h).1; omega))
  | k + 1, r, h, e => by
    unfold nrm
    cases c : falls r with
    | nil => exact .done c
    | cons l ls =>
      have b := invs_fall h c
      exact .step c (fr_nrm (sw_row h b.1 b.2.1) (by omega))
theorem fun_nrm_len : ∀ (k : Nat) (r : List Int), (nrm k r).length ≤ k
  | 0, r => Nat.le_refl _
  | k + 1, r => by
    unfold nrm
    split
    · exact Nat.zero_le _
    · rw [List.length_cons]
      exact Nat.succ_le_succ (fun_nrm_len k _)
/-- the word of a row -/
def W (r : List Int) : List Int := nrm 10 (inv r)
/-- the row of a word -/
def Rw (n : Nat) (ws : List Int) : List Int := ws.foldl sw (up n)
theorem fr_row {r : List Int} (h : IsRow r) : FR r (nrm 10 r) := fr_nrm h (invs_le h).2
theorem FR.det : ∀ {r ws us : List Int}, FR r ws → FR r us → ws = us
  | _, _, _, .done _, .done _ => rfl
  | _, _, _, .done e, .step e' _ => by rw [e] at e'; cases e'
  | _, _, _, .step e _, .done e' => by rw [e] at e'; cases e'
  | _, _, _, .step e h, .step e' h' => by
    rw [e] at e'
    injection e' with e1 e2
    subst e1
    rw [FR.det h h']
theorem W_len {r : List Int} (h : IsRow r) : (((W r).length : Nat) : Int) = invs r := by
  have := rows_all (p := fun r => decide ((((W r).length : Nat) : Int) = invs r)) (by decide +kernel) h
  exact of_decide_eq_true this
theorem Rw_W {r : List Int} (h : IsRow r) : Rw r.length (W r) = r := eq_of_beq (rows_all (p := fun r => Rw r.length (W r) == r) (by decide +kernel) h)
theorem Rw_back {r : List Int} (h : IsRow r) : Rw r.length (nrm 10 r).reverse = r := eq_of_beq (rows_all (p := fun r => Rw r.length (nrm 10 r).reverse == r) (by decide +kernel) h)
theorem nrm_in {r : List Int} (h : IsRow r) : ∀ l ∈ nrm 10 r, 0 ≤ l ∧ l < (r.length : Nat) := fun l hl => by
  have := List.all_eq_true.mp (rows_all (p := fun r => (nrm 10 r).all fun l => decide (0 ≤ l) && decide (l < (r.length : Nat))) (by decide +kernel) h) l hl
  simpa using this
/-- the steps of the states are those of rows -/
theorem put_diffs {r : List Int} (h : IsRow r) {l : Int} (h0 : 0 ≤ l) (h1 : l < (r.length : Nat)) : putA (rlk ((r.length : Nat))) (diffs r) l = diffs (sw r l) :=
  eq_of_beq (rows_let (p := fun r l => putA (rlk ((r.length : Nat))) (diffs r) l == diffs (sw r l)) (by decide +kernel) h h0 h1)
theorem lefts_diffs {r : List Int} (h : IsRow r) : lefts (diffs r) = falls r := eq_of_beq (rows_all (p := fun r => lefts (diffs r) == falls r) (by decide +kernel) h)
theorem fine_diffs (r : List Int) : Fine (diffs r) := fun x hx => by
  unfold diffs at hx
  rcases List.mem_cons.mp hx with rfl | hx
  · exact .inl rfl
  · obtain ⟨i, _, rfl⟩ := List.mem_map.mp hx
    exact .inl rfl
theorem runs_fr : ∀ {r ws : List Int}, IsRow r → FR r ws → Runs (rlk ((r.length : Nat))) (diffs r) ws
  | r, _, h, .done e => .done (fine_diffs r) (by rw [lefts_diffs h]; exact e)
  | r, _, h, .step e f => by
    have b := invs_fall h e
    refine .step (fine_diffs r) (by rw [lefts_diffs h]; exact e) ?_
    rw [put_diffs h b.1 b.2.1]
    have := runs_fr (sw_row h b.1 b.2.1) f
    rw [sw_length] at this
    exact this
/-- words of letters of so many places -/
def Lt (n : Nat) (ws : List Int) : Prop := ∀ l ∈ ws, 0 ≤ l ∧ l < (n : Nat)
theorem fold_row : ∀ {ws : List Int} {r : List Int}, IsRow r → Lt r.length ws → IsRow (ws.foldl sw r) ∧ (ws.foldl sw r).length = r.length
  | [], _, h, _ => ⟨h, rfl⟩
  | l :: ws, r, h, hl => by
    have b := hl l (by simp)
    have := fold_row (ws := ws) (sw_row h b.1 b.2) (fun x hx => by rw [sw_length]; exact hl x (by simp [hx]))
    rw [sw_length] at this
    exact this
theorem Rw_row {n : Nat} (h0 : 2 ≤ n) (h1 : n ≤ 3) {ws : List Int} (hl : Lt n ws) : IsRow (Rw n ws) ∧ (Rw n ws).length = n := by
  have := fold_row (up_row h0 h1) (ws := ws) (by rw [up_length]; exact hl)
  rw [up_length] at this
  exact this
theorem fold_diffs : ∀ {ws : List Int} {r : List Int}, IsRow r → Lt r.length ws → ws.foldl (putA (rlk ((r.length : Nat)))) (diffs r) = diffs (ws.foldl sw r)
  | [], _, _, _ => rfl
  | l :: ws, r, h, hl => by
    have b := hl l (by simp)
    rw [List.foldl_cons, List.foldl_cons, put_diffs h b.1 b.2]
    have := fold_diffs (ws := ws) (sw_row h b.1 b.2) (fun x hx => by rw [sw_length]; exact hl x (by simp [hx]))
    rw [sw_length] at this
    exact this
theorem first_diffs {n : Nat} (h0 : 2 ≤ n) (h1 : n ≤ 3) : first n = diffs (up n) := by
  have : n = 2 ∨ n = 3 := by omega
  rcases this with rfl | rfl <;> decide +kernel
theorem st_rows {n : Nat} (h0 : 2 ≤ n) (h1 : n ≤ 3) {ws : List Int} (hl : Lt n ws) : stOf (sB n) n ws = diffs (Rw n ws.reverse) := by
  unfold stOf aheadW
  rw [show ((n : Nat) : Int).toNat = n by omega, first_diffs h0 h1]
  have hl' : Lt n ws.reverse := fun l h => hl l (List.mem_reverse.mp h)
  have := fold_diffs (up_row h0 h1) (ws := ws.reverse) (by rw [up_length]; exact hl')
  rw [up_length] at this
  exact this
/-- letters ahead and behind go past one another -/
theorem ahl_sw (l m : Int) (r : List Int) (hr : IsRow r) (l0 : 0 ≤ l) (l1 : l < (r.length : Nat)) (h0 : 0 ≤ m) (h1 : m < (r.length : Nat)) : ahl l (sw r m) = sw (ahl l r) m :=
  eq_of_beq (List.all_eq_true.mp (rows_let (p := fun r l => (lets r).all fun m => ahl l (sw r m) == sw (ahl l r) m) (by decide +kernel) hr l0 l1) m (mem_upto.mpr ⟨h0, h1⟩))
theorem ahl_up {n : Nat} (h0 : 2 ≤ n) (h1 : n ≤ 3) {l : Int} (l0 : 0 ≤ l) (l1 : l < (n : Nat)) : ahl l (up n) = sw (up n) l := by
  have := rows_let (p := fun r l => ahl l (up r.length) == sw (up r.length) l) (by decide +kernel) (up_row h0 h1) l0 (by rw [up_length]; exact l1)
  rw [up_length] at this
  exact eq_of_beq this
theorem fold_ahl {l : Int} : ∀ {ws : List Int} {r : List Int}, IsRow r → 0 ≤ l → l < (r.length : Nat) → Lt r.length ws → ahl l (ws.foldl sw r) = ws.foldl sw (ahl l r)
  | [], _, _, _, _, _ => rfl
  | m :: ws, r, hr, l0, l1, hl => by
    have b := hl m (by simp)
    rw [List.foldl_cons, List.foldl_cons, fold_ahl (ws := ws) (r := sw r m) (sw_row hr b.1 b.2) l0 (by rw [sw_length]; exact l1) (fun x hx => by rw [sw_length]; exact hl x (by simp [hx])), ahl_sw l m r hr l0 l1 b.1 b.2]
theorem Rw_cons {n : Nat} (h0 : 2 ≤ n) (h1 : n ≤ 3) {l : Int} {ws : List Int} (l0 : 0 ≤ l) (l1 : l < (n : Nat)) (hl : Lt n ws) : Rw n (l :: ws) = ahl l (Rw n ws) := by
  unfold Rw
  rw [List.foldl_cons, fold_ahl (up_row h0 h1) l0 (by rw [up_length]; exact l1) (by rw [up_length]; exact hl), ahl_up h0 h1 l0 l1]
theorem Rw_snoc (n : Nat) (ws : List Int) (l : Int) : Rw n (ws ++ [l]) = sw (Rw n ws) l := by unfold Rw; rw [List.foldl_append]; rfl
theorem inv_Rw {n : Nat} (h0 : 2 ≤ n) (h1 : n ≤ 3) (ws : List Int) : Lt n ws → inv (Rw n ws) = Rw n ws.reverse := by
  refine list_snoc (P := fun ws => Lt n ws → inv (Rw n ws) = Rw n ws.reverse) ?_ ?_ ws
  · intro _
    have : n = 2 ∨ n = 3 := by omega
    rcases this with rfl | rfl <;> decide +kernel
  · intro ws l ih hl
    have hw : Lt n ws := fun x hx => hl x (by simp [hx])
    have b := hl l (by simp)
    have hr := Rw_row h0 h1 hw
    rw [Rw_snoc, inv_sw hr.1 b.1 (by rw [hr.2]; exact b.2), ih hw, List.reverse_append, List.reverse_cons, List.reverse_nil, List.nil_append, List.singleton_append]
    exact (Rw_cons h0 h1 b.1 b.2 fun x hx => hw x (List.mem_reverse.mp hx)).symm
/-- a signed row behind another one -/
def comp (a b : List Int) : List Int := b.map fun e => if 0 < e then a.getD (e - 1).toNat 0 else 0 - a.getD (0 - e - 1).toNat 0
def prs2 (n : Nat) : Bool := ((pr n (up n)).flatMap sgn).all fun a => ((pr n (up n)).flatMap sgn).all fun b => (upto (n : Nat)).all fun m => comp a (sw b m) == sw (comp a b) m
theorem mem_n {r : List Int} (h : IsRow r) : r ∈ (pr r.length (up r.length)).flatMap sgn := by
  rw [List.mem_flatMap]
  exact ⟨r.map ab, pr_mem h.pm (up_length _), mem_sgn r⟩
theorem comp_sw {a b : List Int} (ha : IsRow a) (hb : IsRow b) (e : a.length = b.length) {m : Int} (h0 : 0 ≤ m) (h1 : m < (b.length : Nat)) : comp a (sw b m) = sw (comp a b) m := by
  have key : prs2 2 = true ∧ prs2 3 = true := by constructor <;> decide +kernel
  have h2 := hb.lo
  have h3 := hb.hi
  have kb : prs2 b.length = true := by
    have : b.length = 2 ∨ b.length = 3 := by omega
    rcases this with z | z <;> rw [z]
    · exact key.1
    · exact key.2
  have hma := mem_n ha
  rw [e] at hma
  unfold prs2 at kb
  exact eq_of_beq (List.all_eq_true.mp (List.all_eq_true.mp (List.all_eq_true.mp kb a hma) b (mem_n hb)) m (mem_upto.mpr ⟨h0, h1⟩))
theorem comp_up {r : List Int} (h : IsRow r) : comp r (up r.length) = r := eq_of_beq (rows_all (p := fun r => comp r (up r.length) == r) (by decide +kernel) h)
theorem Rw_append {n : Nat} (h0 : 2 ≤ n) (h1 : n ≤ 3) {ws : List Int} (hw : Lt n ws) (zs : List Int) : Lt n zs → Rw n (ws ++ zs) = comp (Rw n ws) (Rw n zs) := by
  refine list_snoc (P := fun zs => Lt n zs → Rw n (ws ++ zs) = comp (Rw n ws) (Rw n zs)) ?_ ?_ zs
  · intro _
    have hr := Rw_row h0 h1 hw
    have := comp_up hr.1
    rw [hr.2] at this
    rw [List.append_nil]
    exact this.symm
  · intro zs l ih hl
    have hz : Lt n zs := fun x hx => hl x (by simp [hx])
    have b := hl l (by simp)
    have hr := Rw_row h0 h1 hz
    rw [← List.append_assoc, Rw_snoc, Rw_snoc, ih hz, comp_sw (Rw_row h0 h1 hw).1 hr.1 (by rw [hr.2, (Rw_row h0 h1 hw).2]) b.1 (by rw [hr.2]; exact b.2)]
/-- the normal word of a word of letters of rows -/
theorem nw_rows {n : Nat} (h0 : 2 ≤ n) (h1 : n ≤ 3) {ws : List Int} (hl : Lt n ws) : Nw (sB n) n ws (W (Rw n ws)) := by
  unfold Nw
  rw [st_rows h0 h1 hl, ← inv_Rw h0 h1 ws hl]
  have hr := Rw_row h0 h1 hl
  have hi := inv_row hr.1
  have := runs_fr hi (fr_row hi)
  rw [inv_length, hr.2] at this
  exact this
theorem invs_inv {r : List Int} (h : IsRow r) : invs (inv r) = invs r := by
  have := rows_all (p := fun r => decide (invs (inv r) = invs r)) (by decide +kernel) h
  exact of_decide_eq_true this
end Sk.Sg

namespace Sk.Sg
open PySem L2 Ow
def signedD (p : Int) : Dat := (p, sB p)
section
variable {P : Program} {w : World} {K : PySem.W.Frag} {mg : Str → Option Value} {base : Heap} {C : Addr}
theorem ok_signed (T : Txt K mg C) {f : Addr} {fd : FuncData} (D : Fun K "signed" "System.signed" s_signed f fd) : FnOk P w K mg base CX0 6 f fd ["cls", "places"] (spC K C (fun p => 2 ≤ p ∧ p ≤ 3) signedD) := by
  refine D.ok sc_signed (fun vs H Q E h => ?_) (fun cdv A outer s H vs Q E hr h => ?_)
  · obtain ⟨i, rfl, _⟩ := h
    rfl
  · obtain ⟨i, rfl, ⟨h2, h5⟩, q⟩ := h
    refine ⟨_, (pss_cons (ps_if (pt_not (pt_val (pe_cal (cal_is_within T) (hr.mono (by decide)) (by rfl) (pa_cons (pv 1) (pa_cons pe_int (pa_cons pe_int pa_nil)))))) (pss_one ps_never) pss_nil)
      (pss_one (ps_ret (pe_cls (i := 0) T (hr.mono (by decide)) rfl (Or.inl rfl) (pa_cons (pv 1) (pa_cons (pe_tup (pa_cons (pe_tup (pa_cons pe_int (pa_cons pe_int (pa_cons pe_int pa_nil)))) (StX.pa_star (pe_cal (cal_neighbours T) (hr.mono (by decide)) (by rfl) (pa_cons pe_int (pa_cons (pv 1) pa_nil))) pa_nil))) pa_nil)))))), ?_⟩
    refine ⟨_, rfl, _, _, _, rfl, _, rfl, iteNT' (by rw [decide_eq_true h2, decide_eq_true h5]; rfl) ?_⟩
    refine ⟨rfl, _, rfl, show 3 ≤ sizeLine by decide, fun p0 n0 => ?_⟩
    have s1 := same_new (o := .tup [.int 0, .int 1, .int 4]) n0
    have t1 : TI K (upd H p0 (.tup [.int 0, .int 1, .int 4])) (.ref p0) [0, 1, 4] := ⟨p0, rfl, .of upd_same⟩
    refine ⟨_, rfl, _, _, rfl, by omega, by omega, by omega, by omega, fun v2 H2 s2 hb => ?_⟩
    obtain ⟨a, xs, rfl, ha, hx⟩ := hb
    refine ⟨a, xs, rfl, .inl ha, ?_⟩
    have hl := hx.len
    have hn : (nb 1 i).length ≤ 4 := by
      unfold nb
      rw [List.length_map, List.length_range]
      omega
    refine ⟨szl (by simp only [List.length_cons, List.length_append, List.length_nil]; omega), fun p np => ?_⟩
    refine ⟨_, .ref p, [0, 1, 4] :: nb 1 i, .inl rfl, fun _ => ⟨p, _, rfl, .of upd_same, ?_⟩, okB_valid (d := signedD i) ?_, q.sys (s1.trans (s2.trans (same_new np))) rfl⟩
    · rw [List.append_nil]
      exact ⟨(t1.same s2).same (same_new np), hx.same (same_new np)⟩
    · have : i = 2 ∨ i = 3 := by omega
      rcases this with rfl | rfl <;> decide
section
variable {X : Cx} {o e : Expr} {ta : TE} {t : TA} {apos pos : Pos}
theorem pe_cSigned {pl : Sem Bool} (T : Txt X.K X.mg C) (hr : Room 6 X.A) (he : PE X o ta) (ha : PA X [e] t)
    (hst : starEach [e] X.env = (false, eval e X.env) :: starEach [] X.env := by rfl)
    (ht : eval (.Call (.Attribute o "signed" apos) [e] [] pos) X.env = (do
      let ov ← eval o X.env
      standAt apos.atName
      let (f, first) ← holding [ov] (getMethod ov "signed" pl)
      callWith pos f first (backTo pos (starEach [e] X.env)) (backToKw pos (keywordEach [] X.env))) := by rfl) :
    PE X (.Call (.Attribute o "signed" apos) [e] [] pos) (ClX.tCMeth C (spC X.K C (fun p => 2 ≤ p ∧ p ≤ 3) signedD) E0 ta t) := by
  obtain ⟨_, _, _, c, D⟩ := T.cSigned
  exact ClX.pe_cmeth he T.crd c (unraw (ok_signed T D) (D.binds fun _ _ _ _ _ _ us hl => match us, hl with | [_, _], _ => rfl)) hr pass0 ha hst rfl ht
end
end
end Sk.Sg

namespace Sk.Sg
open PySem L2 Ow
theorem ab_in {r : List Int} (h : IsRow r) {x : Int} (hx : x ∈ r) : -(r.length : Nat) ≤ x ∧ x ≤ (r.length : Nat) ∧ x ≠ 0 := by
  have := List.all_eq_true.mp (rows_all (p := fun r => r.all fun x => decide (-(r.length : Nat) ≤ x) && decide (x ≤ (r.length : Nat)) && decide (x ≠ 0)) (by decide +kernel) h) x hx
  simpa [and_assoc] using this
theorem rows_valid {n : Nat} (h0 : 2 ≤ n) (h1 : n ≤ 3) : Valid (n : Int) (sB n) := by
  have : n = 2 ∨ n = 3 := by omega
  rcases this with rfl | rfl
  · exact okB_valid (d := (2, sB 2)) (by decide)
  · exact okB_valid (d := (3, sB 3)) (by decide)
def tIfT (tc ta tb : TT) : TT := fun σ H Q => tc σ H fun c H1 => if c = true then ta σ H1 Q else tb σ H1 Q
theorem pt_ifExp {X : Cx} {c a b : Expr} {tc ta tb : TT} {pos : Pos} (hc : PT X c tc) (ha : PT X a ta) (hb : PT X b tb) : PT X (.IfExp c a b pos) (tIfT tc ta tb) := by
  refine ⟨fun pins s σ H Q I h => ?_⟩
  refine PyProof.Rows.isTrue_IfExp (thn (hc.run pins s σ H _ I h) fun d s1 ⟨H1, I1, q1⟩ => ?_)
  cases d with
  | false =>
    rw [if_neg Bool.false_ne_true] at q1 ⊢
    exact hb.run pins s1 σ H1 Q I1 q1
  | true =>
    rw [if_pos rfl] at q1 ⊢
    exact ha.run pins s1 σ H1 Q I1 q1
theorem cut_take (xs : List V) (k : Nat) : cutV xs none (some (k : Int)) = xs.take k := by
  show (xs.drop 0).take (HT.sIx xs.length xs.length (some ((k : Nat) : Int)) - 0) = xs.take k
  rw [HT.sIx_nat, List.drop_zero, Nat.sub_zero]
  by_cases h : k ≤ xs.length
  · rw [Nat.min_eq_left h]
  · rw [Nat.min_eq_right (by omega), List.take_of_length_le (Nat.le_refl _), List.take_of_length_le (by omega)]
theorem behind0 {r : List Int} (h : IsRow r) : [0 - r.getD 0 0] ++ r.drop 1 = sw r 0 := eq_of_beq (rows_all (p := fun r => [0 - r.getD 0 0] ++ r.drop 1 == sw r 0) (by decide +kernel) h)
theorem behind1 {r : List Int} (h : IsRow r) {l : Int} (l0 : 1 ≤ l) (l1 : l < (r.length : Nat)) : (r.take (l - 1).toNat ++ [r.getD l.toNat 0, r.getD (l - 1).toNat 0]) ++ r.drop (l + 1).toNat = sw r l := by
  have := rows_let (p := fun r l => decide (l = 0) || ((r.take (l - 1).toNat ++ [r.getD l.toNat 0, r.getD (l - 1).toNat 0]) ++ r.drop (l + 1).toNat == sw r l)) (by decide +kernel) h (by omega) l1
  rw [Bool.or_eq_true, decide_eq_true_eq] at this
  rcases this with e | e
  · omega
  · exact eq_of_beq e
def rgt (r : List Int) : List Int := (upto (r.length : Nat)).filter fun i => if 0 < i then decide (r.getD (i - 1).toNat 0 > r.getD i.toNat 0) else decide (r.getD 0 0 < 0)
theorem rgt_eq {r : List Int} (h : IsRow r) : rgt r = falls r := eq_of_beq (rows_all (p := fun r => rgt r == falls r) (by decide +kernel) h)
def spLSome (K : PySem.W.Frag) : Sp := fun vs H Q _ => ∃ (p : Addr) (n : Int), vs = [.ref p, .int n] ∧ VatAt H p ∧ 2 ≤ n ∧ n ≤ 3 ∧ ∀ (v : V) (r : List Int) (H' : Hp), Off p H H' → VatAt H' p → TI K H' v r → IsRow r → ((r.length : Nat) : Int) = n → Q v H'
def spLUndone (K : PySem.W.Frag) : Sp := fun vs H Q _ => ∃ (v : V) (r : List Int), vs = [v] ∧ TI K H v r ∧ IsRow r ∧ ∀ v' H', Same H H' → TI K H' v' (inv r) → Q v' H'
def spLRight (K : PySem.W.Frag) : Sp := fun vs H Q _ => ∃ (v : V) (r : List Int), vs = [v] ∧ TI K H v r ∧ IsRow r ∧ ∀ v' H', Same H H' → TI K H' v' (falls r) → Q v' H'
def spLBehind (K : PySem.W.Frag) : Sp := fun vs H Q _ => ∃ (v : V) (l : Int) (r : List Int), vs = [v, .int l] ∧ TI K H v r ∧ IsRow r ∧ 0 ≤ l ∧ l < (r.length : Nat) ∧ ∀ v' H', Same H H' → TI K H' v' (sw r l) → Q v' H'
def spLAhead (K : PySem.W.Frag) : Sp := fun vs H Q _ => ∃ (v : V) (l : Int) (r : List Int), vs = [.int l, v] ∧ TI K H v r ∧ IsRow r ∧ 0 ≤ l ∧ l < (r.length : Nat) ∧ ∀ v' H', Same H H' → TI K H' v' (ahl l r) → Q v' H'
def spLWord (K : PySem.W.Frag) : Sp := fun vs H Q _ => ∃ (v : V) (r : List Int), vs = [v] ∧ TI K H v r ∧ IsRow r ∧ ∀ v' H', Same H H' → TI K H' v' (W r) → Q v' H'
section
variable {P : Program} {w : World} {K : PySem.W.Frag} {mg : Str → Option Value} {base : Heap} {C : Addr}
theorem cal_l_signed_undone (T : Txt K mg C) : Cal P w K mg base "_law_signed_undone" 1 (spLUndone K) := by
  refine T.d_l_signed_undone.cal (ps := ["_law_row"]) (fun f fd D => ?_) (fun _ _ _ _ _ _ us hl => match us, hl with | [_], _ => rfl)
  refine D.ok sc_l_signed_undone (fun vs H Q E h => ?_) (fun cdv A outer s H vs Q E hr h => ?_)
  · obtain ⟨_, _, rfl, _⟩ := h
    rfl
  · obtain ⟨_, r, rfl, ⟨a, rfl, ha⟩, hR, k⟩ := h
    have ll : (r.map V.int).length = r.length := List.length_map _
    have r2 := hR.lo
    have r5 := hR.hi
    refine ⟨_, (pss_cons (ps_set (i := 1) sc_l_signed_undone.nd rfl (Or.inl rfl) (pe_op op_rep (pe_lst (pa_cons pe_int pa_nil)) (pe_callB call_len_seq (by rfl) T.b_len (by decide +kernel) (pa_cons (pv 0) pa_nil))))
      (pss_cons (ps_for PassesOwn.never rfl (pi_enumT (by rfl) T.b_enumerate (pa_cons (pv 0) pa_nil)) (pg_tup (by rfl) (pgs_cons (pg_name (i := 2) sc_l_signed_undone.nd rfl (Or.inl rfl)) (pgs_cons (pg_name (i := 3) sc_l_signed_undone.nd rfl (Or.inl rfl)) pgs_nil))) (pss_one (ps_asg (pe_ifExp (pt_cmpR op_gt (pv 3) pe_int (nomark _)) (pe_op op_add (pv 2) pe_int) (pe_op op_sub (pe_op op_sub pe_int (pv 2)) pe_int)) (pg_sub (pv 1) (pe_op op_sub (pe_callB call_abs (by rfl) T.b_abs (by decide +kernel) (pa_cons (pv 3) pa_nil)) pe_int) set_list))))
      (pss_one (ps_ret (pe_callTy call_tuple_of (by rfl) T.b_tuple (by decide +kernel) (pa_cons (pv 1) pa_nil)))))), ?_⟩
    refine ⟨show 1 ≤ sizeLine by decide, fun z nz => ?_⟩
    have sz := same_new (o := .lst [.int 0]) nz
    refine ⟨_, rfl, _, _, rfl, .inr (sqT_same sz ha), z, _, _, rfl, rfl, upd_same, by omega, by omega, by show 1 * _ ≤ _; rw [ll]; exact szl (by omega), fun L nL => ?_⟩
    have s1 := sz.trans (same_new (o := .lst (List.replicate (((r.map V.int).length : Nat) : Int).toNat [V.int 0]).flatten) nL)
    have nLH : H L = none := by
      cases e : H L with
      | none => rfl
      | some o => rw [sz _ _ e] at nL; cases nL
    have e0 : (List.replicate (((r.map V.int).length : Nat) : Int).toNat [V.int 0]).flatten = (List.replicate r.length (0 : Int)).map V.int := by
      rw [ll, show ((r.length : Nat) : Int).toNat = r.length by omega]
      have : r.length = 2 ∨ r.length = 3 := by omega
      rcases this with e | e <;> rw [e] <;> rfl
    refine ⟨_, rfl, a, _, rfl, sqT_same s1 ha, for_it (walk_enumT (K := K) (a := a) (xs := r.map V.int)) (fun i σ H' => ∃ v2 v3 : Option V, σ = [some (.ref a), some (.ref L), v2, v3] ∧ Same H H' ∧ H' L = some (.lst (((List.range i).foldl (invS r) (List.replicate r.length 0)).map V.int))) ⟨none, none, rfl, s1, by rw [upd_same, e0]; rfl⟩ (fun i σ H' _ h => by obtain ⟨_, _, _, h, _⟩ := h; exact sqT_same h ha) ?_ ?_⟩
    · rintro i x σ H4 H5 hi ⟨v2, v3, rfl, s4, hL⟩ ⟨q, x1, x2, rfl, nq, rfl, e1, e2⟩
      obtain rfl : x1 = .int (i : Nat) := (Option.some.inj e1).symm
      obtain ⟨c, hc, rfl⟩ := int_at e2
      have cv : r.getD i 0 = c := by rw [List.getD_eq_getElem?_getD, hc]; rfl
      have ci := ab_in hR (List.mem_of_getElem? hc)
      have s5 := s4.trans (same_new (o := .tup [.int (i : Nat), .int c]) nq)
      have hL5 := same_new (o := .tup [.int (i : Nat), .int c]) nq _ _ hL
      have fl : ((((List.range i).foldl (invS r) (List.replicate r.length 0)).map V.int)).length = r.length := by rw [List.length_map, invS_length, List.length_replicate]
      have abr : 1 ≤ ab c ∧ ab c ≤ r.length := by
        unfold ab
        split <;> omega
      refine ⟨_, _, rfl, .of upd_same, rfl, _, _, rfl, _, _, rfl, rfl, ?_⟩
      have step : ∀ z : Int, z = (if 0 < c then (i : Int) + 1 else 0 - (i : Int) - 1) → (((List.range i).foldl (invS r) (List.replicate r.length 0)).map V.int).set (ab c - 1).toNat (.int z) = ((List.range (i + 1)).foldl (invS r) (List.replicate r.length 0)).map V.int := fun z hz => by
        rw [List.range_succ, List.foldl_append, hz]
        show _ = (invS r _ i).map V.int
        unfold invS
        rw [cv, List.map_set]
      refine ⟨_, rfl, _, _, rfl, rfl, _, rfl, ite2 (fun t => ?_) (fun t => ?_)⟩
      · refine ⟨_, rfl, _, _, rfl, rfl, _, rfl, _, rfl, c, rfl, _, _, rfl, rfl, L, _, ab c - 1, (ab c - 1).toNat, rfl, rfl, hL5, ixN_ok (by omega) (by omega), ?_⟩
        rw [step _ (by rw [if_pos (of_decide_eq_true t)])]
        exact ⟨_, _, rfl, same_off nLH s5 off_upd, upd_same⟩
      · refine ⟨_, rfl, _, _, rfl, rfl, _, _, rfl, rfl, _, rfl, _, rfl, c, rfl, _, _, rfl, rfl, L, _, ab c - 1, (ab c - 1).toNat, rfl, rfl, hL5, ixN_ok (by omega) (by omega), ?_⟩
        rw [step _ (by rw [if_neg (fun z => t (decide_eq_true z))])]
        exact ⟨_, _, rfl, same_off nLH s5 off_upd, upd_same⟩
    · rintro σ H4 ⟨v2, v3, rfl, s4, hL⟩
      rw [ll] at hL
      exact ⟨_, rfl, L, _, rfl, .inl ⟨.of hL, fun t nt => k _ _ (s4.trans (same_new nt)) ⟨t, rfl, .of upd_same⟩⟩⟩
end
end Sk.Sg

namespace Sk.Sg
open PySem L2 Ow
section
variable {P : Program} {w : World} {K : PySem.W.Frag} {mg : Str → Option Value} {base : Heap} {C : Addr}
theorem cal_l_signed_right (T : Txt K mg C) : Cal P w K mg base "_law_signed_right" 1 (spLRight K) := by
  refine T.d_l_signed_right.cal (ps := ["_law_row"]) (fun f fd D => ?_) (fun _ _ _ _ _ _ us hl => match us, hl with | [_], _ => rfl)
  refine D.ok sc_l_signed_right (fun vs H Q E h => ?_) (fun cdv A outer s H vs Q E hr h => ?_)
  · obtain ⟨_, _, rfl, _⟩ := h
    rfl
  · obtain ⟨_, r, rfl, ⟨a, rfl, ha⟩, hR, k⟩ := h
    have r2 := hR.lo
    have r5 := hR.hi
    have ll : (r.map V.int).length = r.length := List.length_map _
    let pp : Int → Bool := fun i => if 0 < i then decide (r.getD (i - 1).toNat 0 > r.getD i.toNat 0) else decide (r.getD 0 0 < 0)
    refine ⟨_, (pss_one (ps_ret (pe_callTy call_tuple_of (by rfl) T.b_tuple (by decide +kernel) (pa_cons (pe_lc (own := [("_law_at", 1)]) (g := gName 1) rfl sc_l_signed_right.nd (pi_range1 (by rfl) T.b_range (pa_cons (pe_callB call_len_seq (by rfl) T.b_len (by decide +kernel) (pa_cons (pv 0) pa_nil)) pa_nil)) (blkOk_by (own := [("_law_at", 1)]) (N := ["_law_row", "_law_at"]) (sc := defScope s_l_signed_right) (by decide +kernel)) (fun _ _ _ _ _ => (pg_name (i := 1) sc_l_signed_right.nd rfl (Or.inl rfl))) (fun _ _ _ _ _ => (pts_one (pt_ifExp (pt_cmpR op_gt (pv 1) pe_int (nomark _)) (pt_cmpR op_gt (pe_ix (show IxR _ (rIxT K) from ix_tup) (pv 0) (pe_op op_sub (pv 1) pe_int) (fun _ _ => rfl)) (pe_ix (show IxR _ (rIxT K) from ix_tup) (pv 0) (pv 1) (fun _ _ => rfl)) (nomark _)) (pt_cmpR op_lt (pe_ix (show IxR _ (rIxT K) from ix_tup) (pv 0) pe_int (fun _ _ => rfl)) pe_int (nomark _))))) (fun _ _ _ _ _ => (pv 1))) pa_nil)))), ?_⟩
    refine ⟨_, rfl, _, _, rfl, .inr ha, _, rfl, by omega, by omega, fun D nD => lc_range (lo := 0) (n := (((r.map V.int).length : Nat) : Int).toNat) (fun i H' => Same H H' ∧ H' D = some (.lst ((((upto (r.length : Nat)).take i).filter pp).map V.int))) ⟨same_new nD, upd_same⟩ ?_ ?_⟩
    · rintro i H2 hi ⟨s2, hD⟩
      rw [ll] at hi
      have hg : (upto (r.length : Nat))[i]? = some ((0 : Int) + (i : Nat)) := upto_get hi
      have ha2 := sqT_same s2 ha
      have hlen : (((upto (r.length : Nat)).take i).filter pp).length ≤ 100 := Nat.le_trans (List.length_filter_le _ _) (by rw [List.length_take]; omega)
      have yes : ∀ b : Bool, pp (0 + (i : Int)) = b → if b = true then ∃ acc, H2 D = some (.lst acc) ∧ acc.length < sizeLine ∧ Same H (upd H2 D (.lst (acc ++ [.int (0 + (i : Int))]))) ∧ (upd H2 D (.lst (acc ++ [.int (0 + (i : Int))]))) D = some (.lst ((((upto (r.length : Nat)).take (i + 1)).filter pp).map V.int)) else Same H H2 ∧ H2 D = some (.lst ((((upto (r.length : Nat)).take (i + 1)).filter pp).map V.int)) := fun b hb => by
        cases b with
        | true =>
          refine iteT ⟨_, hD, small1000 (by rw [List.length_map]; omega), same_off nD s2 off_upd, ?_⟩
          rw [upd_same, take_snoc hg, List.filter_append, List.filter_cons_of_pos (p := pp) hb, List.filter_nil, List.map_append]
          rfl
        | false =>
          refine iteF ⟨s2, ?_⟩
          rw [take_snoc hg, List.filter_append, List.filter_cons_of_neg (p := pp) (by rw [hb]; exact Bool.false_ne_true), List.filter_nil, List.append_nil]
          exact hD
      refine ⟨rfl, _, rfl, _, _, rfl, rfl, _, rfl, ite2 (fun c => ?_) (fun c => ?_)⟩
      · have c' : (0 : Int) < 0 + (i : Int) := of_decide_eq_true c
        have e : pp (0 + (i : Int)) = decide (r.getD (0 + (i : Int) - 1).toNat 0 > r.getD (0 + (i : Int)).toNat 0) := if_pos c'
        refine ⟨_, rfl, _, rfl, _, _, rfl, rfl, a, _, _, _, rfl, rfl, ha2, atL (by omega) (by omega), _, rfl, _, rfl, a, _, _, _, rfl, rfl, ha2, atL (by omega) (by omega), _, _, rfl, rfl, _, rfl, ?_⟩
        have := yes _ e
        by_cases z : r.getD (0 + (i : Int) - 1).toNat 0 > r.getD (0 + (i : Int)).toNat 0
        · rw [decide_eq_true z] at this ⊢
          refine iteT ⟨_, rfl, ?_⟩
          rw [if_pos rfl] at this
          exact this
        · rw [decide_eq_false z] at this ⊢
          rw [if_neg Bool.false_ne_true] at this
          exact iteF this
      · have c' : ¬ (0 : Int) < 0 + (i : Int) := fun z => c (decide_eq_true z)
        have e : pp (0 + (i : Int)) = decide (r.getD 0 0 < 0) := if_neg c'
        refine ⟨_, rfl, a, _, _, _, rfl, rfl, ha2, atL (i := 0) (by decide) (by omega), _, _, rfl, rfl, _, rfl, ?_⟩
        have := yes _ e
        by_cases z : r.getD 0 0 < 0
        · rw [decide_eq_true z] at this
          rw [if_pos rfl] at this
          rw [show decide (r.getD (0 : Int).toNat 0 < 0) = true from decide_eq_true z]
          exact iteT ⟨_, rfl, this⟩
        · rw [decide_eq_false z] at this
          rw [if_neg Bool.false_ne_true] at this
          rw [show decide (r.getD (0 : Int).toNat 0 < 0) = false from decide_eq_false z]
          exact iteF this
    · rintro H2 ⟨s2, hD⟩
      rw [List.take_of_length_le (by rw [upto_length, ll]; exact Nat.le_refl _)] at hD
      have : (upto (r.length : Nat)).filter pp = falls r := rgt_eq hR
      rw [this] at hD
      exact ⟨D, _, rfl, .inl ⟨.of hD, fun t nt => k _ _ (s2.trans (same_new nt)) ⟨t, rfl, .of upd_same⟩⟩⟩
theorem cal_l_signed_behind (T : Txt K mg C) : Cal P w K mg base "_law_signed_behind" 1 (spLBehind K) := by
  refine T.d_l_signed_behind.cal (ps := ["_law_row", "_law_letter"]) (fun f fd D => ?_) (fun _ _ _ _ _ _ us hl => match us, hl with | [_, _], _ => rfl)
  refine D.ok sc_l_signed_behind (fun vs H Q E h => ?_) (fun cdv A outer s H vs Q E hr h => ?_)
  · obtain ⟨_, _, _, rfl, _⟩ := h
    rfl
  · obtain ⟨_, l, r, rfl, ⟨a, rfl, ha⟩, hR, l0, l1, k⟩ := h
    have r2 := hR.lo
    have r5 := hR.hi
    have ll : (r.map V.int).length = r.length := List.length_map _
    refine ⟨_, (pss_cons (ps_if (pt_cmpR op_eq (pv 1) pe_int (nomark _)) (pss_one (ps_ret (pe_op op_catA (pe_tup (pa_cons (pe_op op_sub pe_int (pe_ix ix_tup (pv 0) pe_int (fun _ _ => rfl))) pa_nil)) (pe_slice sl_tupA (pv 0) (po_some pe_int) po_none)))) pss_nil)
      (pss_one (ps_ret (pe_op op_catA (pe_op op_catA (pe_slice sl_tupA (pv 0) po_none (po_some (pe_op op_sub (pv 1) pe_int))) (pe_tup (pa_cons (pe_ix ix_tup (pv 0) (pv 1) (fun _ _ => rfl)) (pa_cons (pe_ix ix_tup (pv 0) (pe_op op_sub (pv 1) pe_int) (fun _ _ => rfl)) pa_nil)))) (pe_slice sl_tupA (pv 0) (po_some (pe_op op_add (pv 1) pe_int)) po_none))))), ?_⟩
    refine ⟨_, rfl, rfl, _, rfl, ite2 (fun c => ?_) (fun c => ?_)⟩
    · obtain rfl : l = 0 := vi_eq c
      refine ⟨_, rfl, a, _, _, _, rfl, rfl, ha, atL (i := 0) (by decide) (by omega), _, _, rfl, rfl, show 1 ≤ sizeLine by decide, fun t nt => ?_⟩
      have st := same_new (o := .tup [.int (0 - r.getD (0 : Int).toNat 0)]) nt
      have ht : SqT K (upd H t (.tup [.int (0 - r.getD (0 : Int).toNat 0)])) t ([0 - r.getD 0 0].map V.int) := .of upd_same
      refine ⟨_, rfl, _, rfl, ?_⟩
      dsimp only [tNoPart]
      refine slc_any (sqT_same st ha) fun v2 H2 s2 hc => ?_
      obtain ⟨b, rfl, hb⟩ := hc
      rw [show (1 : Int) = ((1 : Nat) : Int) from rfl, cut_drop, ← List.map_drop] at hb
      refine cat_any (sqT_same s2 ht) hb (by simp only [List.length_map, List.length_drop, List.length_cons, List.length_nil]; omega) fun v3 H3 s3 hc3 => ?_
      obtain ⟨d, rfl, hd⟩ := hc3
      rw [← List.map_append, behind0 hR] at hd
      exact k _ _ (st.trans (s2.trans s3)) ⟨d, rfl, hd⟩
    · have lp : 1 ≤ l := by
        have : l ≠ 0 := fun e => c (vi_of e)
        omega
      refine ⟨_, rfl, ?_⟩
      dsimp only [tNoPart]
      refine ⟨_, rfl, _, _, rfl, rfl, _, rfl, ?_⟩
      refine slc_any ha fun v2 H2 s2 hc => ?_
      obtain ⟨b, rfl, hb⟩ := hc
      rw [show l - 1 = (((l - 1).toNat : Nat) : Int) by omega, cut_take, ← List.map_take] at hb
      refine ⟨_, rfl, _, rfl, a, _, _, _, rfl, rfl, sqT_same s2 ha, atL (i := l) (by omega) (by omega), _, rfl, _, rfl, _, _, rfl, rfl, a, _, _, _, rfl, rfl, sqT_same s2 ha, atL (i := l - 1) (by omega) (by omega), show 2 ≤ sizeLine by decide, fun t nt => ?_⟩
      have st := same_new (o := .tup [.int (r.getD l.toNat 0), .int (r.getD (l - 1).toNat 0)]) nt
      have ht : SqT K (upd H2 t (.tup [.int (r.getD l.toNat 0), .int (r.getD (l - 1).toNat 0)])) t ([r.getD l.toNat 0, r.getD (l - 1).toNat 0].map V.int) := .of upd_same
      refine cat_any (sqT_same st hb) ht (by simp only [List.length_map, List.length_take, List.length_cons, List.length_nil]; omega) fun v3 H3 s3 hc3 => ?_
      obtain ⟨d, rfl, hd⟩ := hc3
      rw [← List.map_append] at hd
      have sA := s2.trans (st.trans s3)
      refine ⟨_, rfl, _, rfl, _, _, rfl, rfl, _, rfl, ?_⟩
      dsimp only [tNoPart]
      refine slc_any (sqT_same sA ha) fun v4 H4 s4 hc4 => ?_
      obtain ⟨e, rfl, he⟩ := hc4
      rw [show l + 1 = (((l + 1).toNat : Nat) : Int) by omega, cut_drop, ← List.map_drop] at he
      refine cat_any (sqT_same s4 hd) he (by simp only [List.length_map, List.length_append, List.length_take, List.length_drop, List.length_cons, List.length_nil]; omega) fun v5 H5 s5 hc5 => ?_
      obtain ⟨g, rfl, hg⟩ := hc5
      rw [← List.map_append, behind1 hR lp l1] at hg
      exact k _ _ (sA.trans (s4.trans s5)) ⟨g, rfl, hg⟩
theorem cal_l_signed_ahead (T : Txt K mg C) : Cal P w K mg base "_law_signed_ahead" 2 (spLAhead K) := by
  refine T.d_l_signed_ahead.cal (ps := ["_law_letter", "_law_row"]) (fun f fd D => ?_) (fun _ _ _ _ _ _ us hl => match us, hl with | [_, _], _ => rfl)
  refine D.ok sc_l_signed_ahead (fun vs H Q E h => ?_) (fun cdv A outer s H vs Q E hr h => ?_)
  · obtain ⟨_, _, _, rfl, _⟩ := h
    rfl
  · obtain ⟨v, l, r, rfl, hv, hR, l0, l1, k⟩ := h
    have hi := inv_row hR
    refine ⟨_, (pss_one (ps_ret (pe_cal (Sg.cal_l_signed_undone T) (hr.mono (by decide)) (by rfl) (pa_cons (pe_cal (Sg.cal_l_signed_behind T) (hr.mono (by decide)) (by rfl) (pa_cons (pe_cal (Sg.cal_l_signed_undone T) (hr.mono (by decide)) (by rfl) (pa_cons (pv 1) pa_nil)) (pa_cons (pv 0) pa_nil))) pa_nil)))), ?_⟩
    refine ⟨_, rfl, v, r, rfl, hv, hR, fun v1 H1 s1 t1 => ?_⟩
    refine ⟨_, rfl, v1, l, inv r, rfl, t1, hi, l0, by rw [inv_length]; exact l1, fun v2 H2 s2 t2 => ?_⟩
    exact ⟨v2, _, rfl, t2, sw_row hi l0 (by rw [inv_length]; exact l1), fun v3 H3 s3 t3 => k _ _ ((s1.trans s2).trans s3) t3⟩
end
end Sk.Sg

namespace Sk.Sg
open PySem L2 Ow
theorem ab_pos {e : Int} (h : 1 ≤ e) : ab e = e ∧ ab (0 - e) = e := by
  unfold ab
  constructor
  · rw [if_neg (by omega)]
  · rw [if_pos (by omega)]
    omega
theorem W_le {r : List Int} (h : IsRow r) : (W r).length ≤ 10 := by
  have := W_len h
  have := (invs_le h).2
  omega
theorem W_lt {r : List Int} (h : IsRow r) : Lt r.length (W r) := fun l hl => by
  have := nrm_in (inv_row h) l hl
  rw [inv_length] at this
  exact this
section
variable {P : Program} {w : World} {K : PySem.W.Frag} {mg : Str → Option Value} {base : Heap} {C : Addr}
theorem cal_l_some_signed (T : Txt K mg C) : Cal P w K mg base "_law_some_signed" 2 (spLSome K) := by
  refine T.d_l_some_signed.cal (ps := ["_law_vat_here", "_law_places"]) (fun f fd D => ?_) (fun _ _ _ _ _ _ us hl => match us, hl with | [_, _], _ => rfl)
  refine D.ok sc_l_some_signed (fun vs H Q E h => ?_) (fun cdv A outer s H vs Q E hr h => ?_)
  · obtain ⟨_, _, rfl, _⟩ := h
    rfl
  · obtain ⟨p, n, rfl, hb, n2, n5, k⟩ := h
    refine ⟨_, (pss_cons (ps_par (i := 2) (j := 3) rfl sc_l_some_signed.nd rfl rfl (by decide) rfl rfl (pa_cons (pe_listRg rfl (by rfl) T.b_list (prg_2 (by rfl) T.b_range pe_int (pe_op op_add (pv 1) pe_int))) (pa_cons (pe_lst pa_nil) pa_nil)) rfl)
      (pss_cons (ps_while PassesOwn.never (pt_cmpR (op_neD hr.units) (pv 2) (pe_lst pa_nil) (nomark _)) (pss_cons (ps_set (i := 4) sc_l_some_signed.nd rfl (Or.inl rfl) (pe_bm PySem.F.plainAttrs_list PySem.F.slot_list_pop PySem.F.type_list_pop mt_popAt (pv 2) (pa_cons (pe_cal (cal_l_sip T) (hr.mono (by decide)) (by rfl) (pa_cons (pv 0) (pa_cons (pe_callB call_len_seq (by rfl) T.b_len (by decide +kernel) (pa_cons (pv 2) pa_nil)) pa_nil))) pa_nil)))
      (pss_one (ps_expr (pe_bm PySem.F.plainAttrs_list PySem.F.slot_list_append PySem.F.type_list_append mt_append (pv 3) (pa_cons (pe_ifExp (pt_cmpR op_eq (pe_cal (cal_l_sip T) (hr.mono (by decide)) (by rfl) (pa_cons (pv 0) (pa_cons pe_int pa_nil))) pe_int (nomark _)) (pv 4) (pe_op op_sub pe_int (pv 4))) pa_nil))))))
      (pss_one (ps_ret (pe_callTy call_tuple_of (by rfl) T.b_tuple (by decide +kernel) (pa_cons (pv 3) pa_nil)))))), ?_⟩
    refine ⟨_, rfl, _, _, rfl, rfl, _, _, rfl, rfl, .of_le (by decide) (by omega) (by decide) (by omega), fun l nl => ⟨Nat.zero_le _, fun g ng => ⟨_, _, rfl, ?_⟩⟩⟩
    have s1 := same_new (o := .lst (rgV 1 (n + 1))) nl
    have s2 := s1.trans (same_new (o := .lst []) ng)
    have nlp := vat_ne hb nl
    have ngp := vat_ne (hb.same s1) ng
    have ngl : g ≠ l := fun e => by rw [e, upd_same] at ng; cases ng
    have nH : H g = none := by
      rw [upd_ne ngl] at ng
      exact ng
    refine while_by (fun σ H' => ∃ v4 : Option V, σ = [some (.ref p), some (.int n), some (.ref l), some (.ref g), v4] ∧ Off p H H' ∧ VatAt H' p ∧ ∃ ls fs : List Int, H' l = some (.lst (ls.map V.int)) ∧ H' g = some (.lst (fs.map V.int)) ∧ (fs.map ab ++ ls).Perm (up n.toNat)) (fun _ H' => lenAt H' l) ?_ ?_ ?_
    · refine ⟨none, rfl, .of_same s2, hb.same s2, up n.toNat, [], ?_, upd_same, .refl _⟩
      rw [upd_ne ngl.symm, upd_same]
      have := rgV_up n.toNat
      rw [show ((n.toNat : Nat) : Int) = n by omega] at this
      rw [this]
    · rintro _ H3 ⟨v4, rfl, b3, v3, ls, fs, hl, hf, hp⟩
      refine ⟨_, rfl, Nat.zero_le _, fun e ne => ⟨_, _, .lst (.of (same_new ne _ _ hl)) (dInts ls), .lst (.of upd_same) .nil, sh_L ls, sh_L [], ?_⟩⟩
      have hq : PyData.eqv (.list (ls.map PyData.int)) (.list []) = decide (ls = []) := eqv_L ls []
      rw [hq]
      refine ⟨_, rfl, ?_⟩
      have se := same_new (o := .lst []) ne
      have htot : fs.length + ls.length = n.toNat := by
        have := hp.length_eq
        rw [List.length_append, List.length_map, up_length] at this
        exact this
      by_cases hls : ls = []
      · subst hls
        refine iteF ⟨_, rfl, g, _, rfl, .inl ⟨.of (se _ _ hf), fun t nt => ?_⟩⟩
        have hpm : (fs.map ab).Perm (up n.toNat) := by simpa using hp
        have hlen : fs.length = n.toNat := by simpa using htot
        exact k _ fs _ ((b3.trans (.of_same se)).trans (.of_same (same_new nt))) ((v3.same se).same (same_new nt)) ⟨t, rfl, .of upd_same⟩ ⟨by omega, by omega, by rw [hlen]; exact hpm⟩ (by rw [hlen]; omega)
      · rw [decide_eq_false hls]
        refine iteT ?_
        have hl4 := se _ _ hl
        have hf4 := se _ _ hf
        have hpos : 0 < ls.length := List.length_pos_iff.mpr hls
        refine ⟨_, rfl, .inl ⟨rfl, _, .of hl4⟩, _, rfl, _, rfl, _, _, rfl, .inl (.of hl4), p, _, rfl, by rw [List.length_map]; omega, by rw [List.length_map]; exact B8 (by omega), v3.same se, fun i H5 i0 i1 o5 v5 => ?_⟩
        rw [List.length_map] at i1
        have hi : i.toNat < ls.length := by omega
        have hl5 := o5 _ _ nlp hl4
        have hf5 := o5 _ _ ngp hf4
        have e1 : 1 ≤ ls[i.toNat] := by
          have m : ls[i.toNat] ∈ up n.toNat := hp.mem_iff.mp (List.mem_append_right _ (List.getElem_mem hi))
          unfold up at m
          obtain ⟨j, _, hj⟩ := List.mem_map.mp m
          omega
        refine ⟨l, _, i, i.toNat, .int ls[i.toNat], rfl, rfl, hl5, by omega, by omega, (ixN_seq (by unfold ixN; rw [List.length_map, if_pos i0, if_pos i1])).1, by rw [List.getElem?_map, List.getElem?_eq_getElem hi]; rfl, ?_⟩
        have hf6 : (upd H5 l (.lst ((ls.map V.int).eraseIdx i.toNat))) g = some (.lst (fs.map V.int)) := by rw [upd_ne ngl]; exact hf5
        have v6 : VatAt (upd H5 l (.lst ((ls.map V.int).eraseIdx i.toNat))) p := v5.but off_upd nlp.symm
        refine ⟨_, rfl, .inl ⟨rfl, _, .of hf6⟩, _, rfl, p, _, rfl, by decide, B8 (by decide), v6, fun c H7 c0 c1 o7 v7 => ⟨rfl, _, rfl, ?_⟩⟩
        have hf7 := o7 _ _ ngp hf6
        have hl7 := o7 _ _ nlp (upd_same (H := H5) (a := l) (o := .lst ((ls.map V.int).eraseIdx i.toNat)))
        have fin : ∀ z : Int, ab z = ls[i.toNat] → ∃ v4 : Option V, ([some (.ref p), some (.int n), some (.ref l), some (.ref g), some (.int ls[i.toNat])] : List (Option V)) = [some (.ref p), some (.int n), some (.ref l), some (.ref g), v4] ∧ Off p H (upd H7 g (.lst (fs.map V.int ++ [.int z]))) ∧ VatAt (upd H7 g (.lst (fs.map V.int ++ [.int z]))) p ∧ ∃ ls2 fs2 : List Int, (upd H7 g (.lst (fs.map V.int ++ [.int z]))) l = some (.lst (ls2.map V.int)) ∧ (upd H7 g (.lst (fs.map V.int ++ [.int z]))) g = some (.lst (fs2.map V.int)) ∧ (fs2.map ab ++ ls2).Perm (up n.toNat) := fun z hz => by
          refine ⟨_, rfl, fun u w hu hw => ?_, v7.but off_upd ngp.symm, ls.eraseIdx i.toNat, fs ++ [z], by rw [upd_ne ngl.symm, hl7, erase_map], by rw [upd_same, List.map_append]; rfl, ?_⟩
          · rw [upd_ne (fun e => by rw [e, nH] at hw; cases hw)]
            refine o7 _ _ hu ?_
            rw [upd_ne (fun e => by rw [e, nl] at hw; cases hw)]
            exact o5 _ _ hu (se _ _ (b3 _ _ hu hw))
          · rw [List.map_append, List.append_assoc]
            show (fs.map ab ++ (ab z :: ls.eraseIdx i.toNat)).Perm _
            rw [hz]
            exact (List.Perm.append_left _ (erase_perm hi)).trans hp
        have meas : ∀ z : Int, lenAt (upd H7 g (.lst (fs.map V.int ++ [.int z]))) l < lenAt H3 l := fun z => by
          unfold lenAt
          rw [upd_ne ngl.symm, hl7, hl]
          show (List.eraseIdx (ls.map V.int) i.toNat).length < (ls.map V.int).length
          rw [List.length_eraseIdx, if_pos (by rw [List.length_map]; exact hi), List.length_map]
          omega
        refine ite2 (fun _ => ?_) (fun _ => ?_)
        · exact ⟨_, rfl, g, _, _, rfl, rfl, hf7, by rw [List.length_map]; exact small1000 (by omega), fin _ (ab_pos e1).1, meas _⟩
        · exact ⟨_, rfl, _, _, rfl, rfl, g, _, _, rfl, rfl, hf7, by rw [List.length_map]; exact small1000 (by omega), fin _ (ab_pos e1).2, meas _⟩
    · rintro σ H Q Q' hq ⟨v, hv, h0, h⟩
      refine ⟨v, hv, h0, fun e ne => ?_⟩
      obtain ⟨d, e', h1, h2, h3, h4, c, h5, h6⟩ := h e ne
      exact ⟨d, e', h1, h2, h3, h4, c, h5, hq _ _ h6⟩
theorem cal_l_signed_word (T : Txt K mg C) : Cal P w K mg base "_law_signed_word" 3 (spLWord K) := by
  refine T.d_l_signed_word.cal (ps := ["_law_row"]) (fun f fd D => ?_) (fun _ _ _ _ _ _ us hl => match us, hl with | [_], _ => rfl)
  refine D.ok sc_l_signed_word (fun vs H Q E h => ?_) (fun cdv A outer s H vs Q E hr h => ?_)
  · obtain ⟨_, _, rfl, _⟩ := h
    rfl
  · obtain ⟨v, r, rfl, hv, hR, k⟩ := h
    refine ⟨_, (pss_cons (ps_par (i := 1) (j := 2) rfl sc_l_signed_word.nd rfl rfl (by decide) rfl rfl (pa_cons (pe_tup pa_nil) (pa_cons (pe_cal (Sg.cal_l_signed_right T) (hr.mono (by decide)) (by rfl) (pa_cons (pe_cal (Sg.cal_l_signed_undone T) (hr.mono (by decide)) (by rfl) (pa_cons (pv 0) pa_nil)) pa_nil)) pa_nil)) rfl)
      (pss_cons (ps_while PassesOwn.never (pt_cmpR (op_neD hr.units) (pv 2) (pe_tup pa_nil) (nomark _)) (pss_cons (ps_par (i := 1) (j := 0) rfl sc_l_signed_word.nd rfl rfl (by decide) rfl rfl (pa_cons (pe_op op_catA (pv 1) (pe_tup (pa_cons (pe_ix ix_tup (pv 2) pe_int (fun _ _ => rfl)) pa_nil))) (pa_cons (pe_cal (Sg.cal_l_signed_ahead T) (hr.mono (by decide)) (by rfl) (pa_cons (pe_ix ix_tup (pv 2) pe_int (fun _ _ => rfl)) (pa_cons (pv 0) pa_nil))) pa_nil)) rfl)
      (pss_one (ps_set (i := 2) sc_l_signed_word.nd rfl (Or.inl rfl) (pe_cal (Sg.cal_l_signed_right T) (hr.mono (by decide)) (by rfl) (pa_cons (pe_cal (Sg.cal_l_signed_undone T) (hr.mono (by decide)) (by rfl) (pa_cons (pv 0) pa_nil)) pa_nil))))))
      (pss_one (ps_ret (pv 1))))), ?_⟩
    refine ⟨Nat.zero_le _, fun e ne => ?_⟩
    have se := same_new (o := .tup []) ne
    refine ⟨_, rfl, v, r, rfl, hv.same se, hR, fun v1 H1 s1 t1 => ?_⟩
    have hi := inv_row hR
    refine ⟨v1, inv r, rfl, t1, hi, fun v2 H2 s2 t2 => ⟨_, _, rfl, ?_⟩⟩
    have s02 := (se.trans s1).trans s2
    let Pv : Nat → L2.St → Hp → Prop := fun m σ H' => ∃ (rv fv lv : V) (q us rs : List Int), σ = [some rv, some fv, some lv] ∧ m = rs.length ∧ Same H H' ∧ TI K H' rv q ∧ IsRow q ∧ TI K H' fv us ∧ TI K H' lv (falls (inv q)) ∧ FR (inv q) rs ∧ us ++ rs = W r
    refine ⟨Pv, ⟨_, v, .ref e, v2, r, [], W r, rfl, rfl, s02, hv.same s02, hR, ⟨e, rfl, .of (s2 _ _ (s1 _ _ upd_same))⟩, t2, fr_row hi, rfl⟩, ?_⟩
    rintro m _ H3 ⟨rv, fv, lv, q, us, rs, rfl, rfl, s3, hrt, hq, hf, hlv, hfr, hw⟩
    have hul : us.length ≤ 10 := by
      have h1 := congrArg List.length hw
      rw [List.length_append] at h1
      have h2 := fun_nrm_len 10 (inv r)
      unfold W at h1
      omega
    refine ⟨_, rfl, Nat.zero_le _, fun e1 ne1 => ?_⟩
    have se1 := same_new (o := .tup []) ne1
    refine ⟨_, _, (hlv.same se1).dp, TI.dp (ns := []) ⟨e1, rfl, .of upd_same⟩, sh_dT _, sh_dT _, _, rfl, ?_⟩
    rw [eqv_dT]
    have hiq := inv_row hq
    cases hfr with
    | done e =>
      rw [decide_eq_true e]
      refine iteF ⟨_, rfl, ?_⟩
      rw [List.append_nil] at hw
      rw [← hw] at k
      exact k _ _ (s3.trans se1) (hf.same se1)
    | @step _ l ls rs e hfr =>
      rw [decide_eq_false (by rw [e]; simp)]
      refine iteT ⟨fun σ' H' => ∃ m', m' < (l :: rs).length ∧ Pv m' σ' H', fun _ _ h => h, ?_⟩
      have b := invs_fall hiq e
      rw [inv_length] at b
      obtain ⟨fa, rfl, hfa⟩ := hf.same se1
      obtain ⟨la, rfl, hla⟩ := hlv.same se1
      rw [e] at hla
      refine ⟨_, rfl, _, rfl, la, _, _, _, rfl, rfl, hla, at_of (j := 0) rfl rfl, show 1 ≤ sizeLine by decide, fun t nt => ?_⟩
      have st := same_new (o := .tup [.int l]) nt
      refine cat_any (sqT_same st hfa) (.of upd_same) (by rw [List.length_map]; simp; omega) fun v4 H4 s4 hc => ?_
      have s14 := (se1.trans st).trans s4
      refine ⟨_, rfl, la, _, _, _, rfl, rfl, sqT_same (st.trans s4) hla, at_of (j := 0) rfl rfl, _, rfl, rv, l, q, rfl, hrt.same s14, hq, b.1, b.2.1, fun v5 H5 s5 t5 => ⟨_, _, rfl, ?_⟩⟩
      have hq2 := ahl_row hq (l := l) b.1 b.2.1
      have e2 : inv (ahl l q) = sw (inv q) l := inv_ahl hq b.1 b.2.1
      refine ⟨_, rfl, v5, _, rfl, t5, hq2, fun v6 H6 s6 t6 => ?_⟩
      refine ⟨v6, _, rfl, t6, inv_row hq2, fun v7 H7 s7 t7 => ?_⟩
      obtain ⟨ca, rfl, hca⟩ := hc
      exact ⟨rs.length, by simp, v5, .ref ca, v7, ahl l q, us ++ [l], rs, rfl, rfl, ((s3.trans s14).trans s5).trans (s6.trans s7), t5.same (s6.trans s7), hq2, ⟨ca, rfl, sqT_same (s5.trans (s6.trans s7)) (by rw [List.map_append]; exact hca)⟩, t7, by rw [e2]; exact hfr, by rw [List.append_assoc]; exact hw⟩
end
end Sk.Sg

namespace Sk
open PySem PySem.Spec PyProof.Rows L2 Ow
theorem best_lt (vs : List Value) {ns : List Int} (h : IntsAre vs ns) (hne : 0 < ns.length) : True := trivial
theorem ints_at {vs : List Value} {ns : List Int} (h : IntsAre vs ns) {i : Nat} {v : Value} (e : vs[i]? = some v) : ∃ t, v = .int (ns.getD i 0) t := by
  have hv := vals_of_ints h
  induction hv' : ns generalizing vs i ns with
  | nil =>
    subst hv'
    cases hv
    simp at e
  | cons n ns' ih =>
    subst hv'
    cases hv with
    | @cons _ u _ us r rs =>
      cases i with
      | zero =>
        have : u = v := by simpa using e
        subst this
        obtain ⟨t, rfl⟩ := r
        exact ⟨t, rfl⟩
      | succ i =>
        have := ih (vs := us) (i := i) (ns := ns') (Vals.ints rs) (by simpa using e) rs rfl
        simpa using this
theorem getD_in {ns : List Int} {j : Nat} (h : j < ns.length) : ns.getD j 0 ∈ ns := by
  rw [List.getD_eq_getElem?_getD, List.getElem?_eq_getElem h]
  exact List.getElem_mem h
theorem in_getD {ns : List Int} {a : Int} (h : a ∈ ns) : ∃ j, j < ns.length ∧ ns.getD j 0 = a := by
  obtain ⟨j, hj, e⟩ := List.mem_iff_getElem.mp h
  exact ⟨j, hj, by rw [List.getD_eq_getElem?_getD, List.getElem?_eq_getElem hj]; exact e⟩
section
variable {prog : Program} {w : World} {A : Around} {E : Value → Shared → Prop} {s : Shared} {l : Addr} {its : List Value} {ns : List Int} {Q : Value → Shared → Prop}
theorem tup_mk {l : Addr} {its : List Value} (hl : IsTup s.heap l its.toArray) : (s.heap.push { cls := .type "tuple_iterator", data := .fields #[.ref l, .int 0 0] }).IsTupleIter s.heap.objs.size l 0 ∧ (s.heap.push { cls := .type "tuple_iterator", data := .fields #[.ref l, .int 0 0] }).IsTuple l its.toArray ∧ l ≠ s.heap.objs.size := by
  obtain ⟨o, ho, r⟩ := hl
  exact ⟨⟨_, Heap.get?_push_size _ rfl, rfl, rfl⟩, ⟨o, Heap.get?_push_of_some _ ho, r⟩, Nat.ne_of_lt (Heap.lt_size ho)⟩
theorem min_tup (hh : A.handled = none) (hl : IsTup s.heap l its.toArray) (hi : IntsAre its ns) (hne : 0 < ns.length)
    (h : ∀ (h' : Heap) (tk : Nat) (M : Int) (t' : Tok), (∀ b o, s.heap.get? b = some o → h'.get? b = some o) → M ∈ ns → (∀ a, a ∈ ns → M ≤ a) → Q (.int M t') { heap := h', gens := s.gens, drawn := s.drawn, toks := tk, os := s.os }) :
    wpAny (model prog w) A (call (.builtin "min") [.ref l]) Q E s := by
  obtain ⟨a1, a2, a3⟩ := tup_mk hl
  have ln : its.length = ns.length := hi.length
  refine call_min_walk (iter_tuple hl ⟨s.heap.objs.size, [s.heap.objs.size, l], [s.heap.objs.size], its.toArray.size, fun i v => its.toArray[i]? = some v, fun i h => h.IsTupleIter s.heap.objs.size l i ∧ h.IsTuple l its.toArray, fun i j => decide (ns.getD i 0 < ns.getD j 0), rfl, Walks.tuple (A := A.in1) hh _ l a3 its.toArray, ⟨a1, a2⟩, fun b hb => ?_, by simpa [ln] using hne, CmpOf.ints_lt (fun i => ns.getD i 0) (fun i v e => ints_at hi (by simpa using e)), fun v h' tk hP hk => ?_⟩)
  · obtain ⟨o, ho, _⟩ := hl
    have := Heap.lt_size ho
    rw [Heap.size_push]
    simp at hb
    rcases hb with rfl | rfl
    · exact Nat.lt_succ_self _
    · exact Nat.lt_succ_of_lt this
  · obtain ⟨t, rfl⟩ := ints_at hi (i := argBest (fun i j => decide (ns.getD i 0 < ns.getD j 0)) (its.toArray.size - 1)) (v := v) (by simpa using hP)
    have ab := argBest_lt (fun i => ns.getD i 0) (its.toArray.size - 1)
    refine h h' tk _ t (fun b o ho => hk b o ?_ (Heap.get?_push_of_some _ ho)) (getD_in ?_) fun a ha => ?_
    · simpa using Nat.ne_of_lt (Heap.lt_size ho)
    · have := ab.1
      simp only [List.size_toArray, ln] at this ⊢
      omega
    · obtain ⟨j, hj, rfl⟩ := in_getD ha
      exact ab.2 j (by simp only [List.size_toArray, ln]; omega)
theorem max_tup (hh : A.handled = none) (hl : IsTup s.heap l its.toArray) (hi : IntsAre its ns) (hne : 0 < ns.length)
    (h : ∀ (h' : Heap) (tk : Nat) (M : Int) (t' : Tok), (∀ b o, s.heap.get? b = some o → h'.get? b = some o) → M ∈ ns → (∀ a, a ∈ ns → a ≤ M) → Q (.int M t') { heap := h', gens := s.gens, drawn := s.drawn, toks := tk, os := s.os }) :
    wpAny (model prog w) A (call (.builtin "max") [.ref l]) Q E s := by
  obtain ⟨a1, a2, a3⟩ := tup_mk hl
  have ln : its.length = ns.length := hi.length
  refine call_max_walk (iter_tuple hl ⟨s.heap.objs.size, [s.heap.objs.size, l], [s.heap.objs.size], its.toArray.size, fun i v => its.toArray[i]? = some v, fun i h => h.IsTupleIter s.heap.objs.size l i ∧ h.IsTuple l its.toArray, fun i j => decide (ns.getD i 0 > ns.getD j 0), rfl, Walks.tuple (A := A.in1) hh _ l a3 its.toArray, ⟨a1, a2⟩, fun b hb => ?_, by simpa [ln] using hne, CmpOf.ints_gt (fun i => ns.getD i 0) (fun i v e => ints_at hi (by simpa using e)), fun v h' tk hP hk => ?_⟩)
  · obtain ⟨o, ho, _⟩ := hl
    have := Heap.lt_size ho
    rw [Heap.size_push]
    simp at hb
    rcases hb with rfl | rfl
    · exact Nat.lt_succ_self _
    · exact Nat.lt_succ_of_lt this
  · obtain ⟨t, rfl⟩ := ints_at hi (i := argBest (fun i j => decide (ns.getD i 0 > ns.getD j 0)) (its.toArray.size - 1)) (v := v) (by simpa using hP)
    have ab := argBest_gt (fun i => ns.getD i 0) (its.toArray.size - 1)
    refine h h' tk _ t (fun b o ho => hk b o ?_ (Heap.get?_push_of_some _ ho)) (getD_in ?_) fun a ha => ?_
    · simpa using Nat.ne_of_lt (Heap.lt_size ho)
    · have := ab.1
      simp only [List.size_toArray, ln] at this ⊢
      omega
    · obtain ⟨j, hj, rfl⟩ := in_getD ha
      exact ab.2 j (by simp only [List.size_toArray, ln]; omega)
end
section
variable {X : Cx}
def rMinT (K : PySem.W.Frag) : List V → Hp → VK → Prop := fun vs H Q => ∃ (a : Addr) (ns : List Int), vs = [.ref a] ∧ SqT K H a (ns.map V.int) ∧ 0 < ns.length ∧ ∀ m, m ∈ ns → (∀ y, y ∈ ns → m ≤ y) → Q (.int m) H
def rMaxT (K : PySem.W.Frag) : List V → Hp → VK → Prop := fun vs H Q => ∃ (a : Addr) (ns : List Int), vs = [.ref a] ∧ SqT K H a (ns.map V.int) ∧ 0 < ns.length ∧ ∀ m, m ∈ ns → (∀ y, y ∈ ns → y ≤ m) → Q (.int m) H
def rSortT (K : PySem.W.Frag) : List V → Hp → VK → Prop := fun vs H Q => ∃ (a : Addr) (ns : List Int), vs = [.ref a] ∧ SqT K H a (ns.map V.int) ∧ ns.length < 64 ∧ ∀ (ns' : List Int) (p : Addr), ns'.Perm ns → ns'.Pairwise (· ≤ ·) → H p = none → Q (.ref p) (upd H p (.lst (ns'.map V.int)))
theorem cr_minTup (hc : X.calm = true) : CallR X (.builtin "min") (rMinT X.K) := by
  intro pins s σ H vs us Q I r h
  obtain ⟨a, ns, rfl, hs, hne, q⟩ := h
  obtain ⟨its, rv, hl, _⟩ := I.tuple hs
  rw [Vals.ref1 r]
  exact min_tup (I.ok.hd hc) hl (Vals.ints rv) hne fun h' tk m t' hk h1 h2 => ⟨.int m, H, I.kept hk, ⟨t', rfl⟩, q m h1 h2⟩
theorem cr_maxTup (hc : X.calm = true) : CallR X (.builtin "max") (rMaxT X.K) := by
  intro pins s σ H vs us Q I r h
  obtain ⟨a, ns, rfl, hs, hne, q⟩ := h
  obtain ⟨its, rv, hl, _⟩ := I.tuple hs
  rw [Vals.ref1 r]
  exact max_tup (I.ok.hd hc) hl (Vals.ints rv) hne fun h' tk m t' hk h1 h2 => ⟨.int m, H, I.kept hk, ⟨t', rfl⟩, q m h1 h2⟩
theorem cr_sortTup : CallR X (.builtin "sorted") (rSortT X.K) := by
  intro pins s σ H vs us Q I r h
  obtain ⟨a, ns, rfl, hs, h64, q⟩ := h
  obtain ⟨its, rv, hl, few⟩ := I.tuple hs
  rw [Vals.ref1 r]
  have hi := Vals.ints rv
  have ln : its.length = ns.length := hi.length
  obtain ⟨o, ho, hcl, n, hd⟩ := hl
  have small : its.length ≤ sizeLine := Nat.le_trans (show its.length ≤ 64 by omega) (by decide)
  refine Calls.call_function_entry kind_sorted plain_sorted entry_sorted (args_sorted1 (.ref a)) ?_
  refine wpAny_bind (wpAny_pure (wpAny_bind ?_))
  refine wpAny_collect_seq a (.inr rfl) ho hcl hd (fun h1 hk => ?_) (by simpa using small)
  have I1 := I.kept (t' := s.toks) hk
  refine wpAny_bind (wpAny_newList ?_ small)
  have hoL : (h1.push { cls := .type "list", data := .seq its.toArray }).get? h1.objs.size = some (seqObj "list" its.toArray 0) := Heap.get?_push_size _ rfl
  refine wpAny_bind (wpAny_holding (wpAny_call_entry slot_list_sort ⟨_, hoL, rfl⟩ entry_list_sort (list_sort_tree hoL hi (by omega) fun out ns' b1 b2 b3 => ⟨.none, rfl, wpAny_pure ⟨.ref h1.objs.size, rfl, ?_⟩⟩) (args_list_sort (.ref h1.objs.size))))
  obtain ⟨ep, he⟩ := sortedHeap_at (vs := its) (out := out) hoL
  have fr := I1.hok.fresh (Nat.le_refl h1.objs.size)
  refine ⟨.ref h1.objs.size, _, I1.laid (t' := s.toks) (a := h1.objs.size) (o := .lst (ns'.map V.int)) (fun b u e => ?_) (Nat.le_refl _) ⟨by rw [List.length_map, b2.length_eq, ← ln]; exact small, out.toList, ep, vals_of_ints b1, he⟩, rfl, q ns' _ b2 b3 fr⟩
  have hb := Heap.lt_size e
  rw [sortedHeap_old (Nat.ne_of_lt hb) (by rw [Heap.size_push]; exact Nat.lt_succ_of_lt hb)]
  exact Heap.get?_push_of_some _ e
end
end Sk

namespace Sk
/-! corners -/
def cnt (f : List Int) (i : Nat) (j : Int) : Nat := ((f.take i).filter fun e => decide (e ≥ j)).length
/-- more of the first entries are at least j in f than in g -/
def over (f g : List Int) (i j : Int) : Bool := decide ((cnt f i.toNat j : Int) > (cnt g i.toNat j : Int))
def srt (f : List Int) : List Int := f.mergeSort (fun a b => decide (a ≤ b))
theorem srt_perm (f : List Int) : (srt f).Perm f := List.mergeSort_perm f _
theorem srt_sorted (f : List Int) : (srt f).Pairwise (· ≤ ·) := by
  have := List.pairwise_mergeSort (le := fun a b : Int => decide (a ≤ b)) (fun a b c h1 h2 => by simp at *; omega) (fun a b => by simp; omega) f
  exact this.imp fun h => by simpa using h
theorem srt_eq {f ns : List Int} (h : ns.Perm f) (s : ns.Pairwise (· ≤ ·)) : ns = srt f :=
  (h.trans (srt_perm f).symm).eq_of_pairwise (fun a b _ _ h h2 => Int.le_antisymm h h2) s (srt_sorted f)
theorem mem_srt {f : List Int} {x : Int} : x ∈ srt f ↔ x ∈ f := (srt_perm f).mem_iff
/-- all corners, ascending -/
def evr (f g : List Int) : List (List Int) := (up f.length).flatMap fun i => ((srt f).filter fun j => over f g i j).map fun j => [i, j]
def tb (js f : List Int) : List Nat := (List.range f.length).flatMap fun i => js.map fun j => cnt f (i + 1) j
def leB : List Nat → List Nat → Bool
  | a :: as, b :: bs => Nat.ble a b && leB as bs
  | _, _ => true
theorem leB_app : ∀ {a b c d : List Nat}, a.length = b.length → leB (a ++ c) (b ++ d) = (leB a b && leB c d)
  | [], [], _, _, _ => by simp [leB]
  | x :: a, y :: b, c, d, h => by
    show (Nat.ble x y && leB (a ++ c) (b ++ d)) = (Nat.ble x y && leB a b && leB c d)
    rw [leB_app (a := a) (b := b) (by simpa using h), Bool.and_assoc]
theorem leB_map {a b : Int → Nat} : ∀ js : List Int, leB (js.map a) (js.map b) = js.all fun j => Nat.ble (a j) (b j)
  | [] => rfl
  | j :: js => by
    show (Nat.ble (a j) (b j) && leB (js.map a) (js.map b)) = _
    rw [leB_map js]
    rfl
theorem leB_flat {a b : Nat → Int → Nat} {js : List Int} : ∀ is : List Nat, leB (is.flatMap fun i => js.map (a i)) (is.flatMap fun i => js.map (b i)) = is.all fun i => js.all fun j => Nat.ble (a i j) (b i j)
  | [] => rfl
  | i :: is => by
    rw [List.flatMap_cons, List.flatMap_cons, leB_app (by rw [List.length_map, List.length_map]), leB_map, leB_flat is]
    rfl
theorem evr_nil {f g : List Int} (e : f.length = g.length) : decide (evr f g = []) = leB (tb (srt f) f) (tb (srt f) g) := by
  unfold tb
  rw [← e, leB_flat, Bool.eq_iff_iff, decide_eq_true_iff]
  unfold evr
  simp only [List.flatMap_eq_nil_iff, List.map_eq_nil_iff, List.filter_eq_nil_iff, List.all_eq_true, Nat.ble_eq, List.mem_range]
  constructor
  · intro h i hi j hj
    have := h ((i : Int) + 1) (mem_up.mpr ⟨by omega, by omega⟩) j hj
    unfold over at this
    rw [show ((i : Int) + 1).toNat = i + 1 by omega, decide_eq_true_iff] at this
    omega
  · intro h i hi j hj
    have b := mem_up.mp hi
    have := h (i - 1).toNat (by omega) j hj
    unfold over
    rw [show (i - 1).toNat + 1 = i.toNat by omega] at this
    rw [decide_eq_true_iff]
    omega
/-- led down by the letters of a word, told by undone rows -/
def ldn (q ws : List Int) : List Int := ws.foldl (fun q l => if (falls q).contains l then sw q l else q) q
def nc (f g : List Int) : Bool := leB (tb (up f.length) f) (tb (up f.length) g)
def chk (R : List (List Int)) : Bool := R.all fun p => match falls p with
  | [] => true
  | l :: _ => R.all fun q => nc (inv q) (inv p) == nc (inv (if (falls q).contains l then sw q l else q)) (inv (sw p l))
/-- a long list, looked at in pieces -/
def part (R : List (List Int)) (k : Nat) : Bool := ((R.drop (6 * k)).take 6).all fun p => match falls p with
  | [] => true
  | l :: _ => R.all fun q => nc (inv q) (inv p) == nc (inv (if (falls q).contains l then sw q l else q)) (inv (sw p l))
theorem parts_all {R : List (List Int)} {m : Nat} (hl : R.length ≤ 6 * m) (h : ∀ k, k < m → part R k = true) : chk R = true := by
  unfold chk
  rw [List.all_eq_true]
  intro p hp
  obtain ⟨i, hi, rfl⟩ := List.mem_iff_getElem.mp hp
  have hk := h (i / 6) (by omega)
  unfold part at hk
  refine List.all_eq_true.mp hk R[i] ?_
  refine List.mem_iff_getElem.mpr ⟨i % 6, ?_, ?_⟩
  · rw [List.length_take, List.length_drop]
    omega
  · rw [List.getElem_take, List.getElem_drop]
    congr 1
    omega
theorem pt5_0 : part (pr 5 (up 5)) 0 = true := by decide +kernel
theorem pt5_1 : part (pr 5 (up 5)) 1 = true := by decide +kernel
theorem pt5_2 : part (pr 5 (up 5)) 2 = true := by decide +kernel
theorem pt5_3 : part (pr 5 (up 5)) 3 = true := by decide +kernel
theorem pt5_4 : part (pr 5 (up 5)) 4 = true := by decide +kernel
theorem pt5_5 : part (pr 5 (up 5)) 5 = true := by decide +kernel
theorem pt5_6 : part (pr 5 (up 5)) 6 = true := by decide +kernel
theorem pt5_7 : part (pr 5 (up 5)) 7 = true := by decide +kernel
theorem pt5_8 : part (pr 5 (up 5)) 8 = true := by decide +kernel
theorem pt5_9 : part (pr 5 (up 5)) 9 = true := by decide +kernel
theorem pt5_10 : part (pr 5 (up 5)) 10 = true := by decide +kernel
theorem pt5_11 : part (pr 5 (up 5)) 11 = true := by decide +kernel
theorem pt5_12 : part (pr 5 (up 5)) 12 = true := by decide +kernel
theorem pt5_13 : part (pr 5 (up 5)) 13 = true := by decide +kernel
theorem pt5_14 : part (pr 5 (up 5)) 14 = true := by decide +kernel
theorem pt5_15 : part (pr 5 (up 5)) 15 = true := by decide +kernel
theorem pt5_16 : part (pr 5 (up 5)) 16 = true := by decide +kernel
theorem pt5_17 : part (pr 5 (up 5)) 17 = true := by decide +kernel
theorem pt5_18 : part (pr 5 (up 5)) 18 = true := by decide +kernel
theorem pt5_19 : part (pr 5 (up 5)) 19 = true := by decide +kernel
theorem pt5 : ∀ k, k < 20 → part (pr 5 (up 5)) k = true
  | 0, _ => pt5_0
  | 1, _ => pt5_1
  | 2, _ => pt5_2
  | 3, _ => pt5_3
  | 4, _ => pt5_4
  | 5, _ => pt5_5
  | 6, _ => pt5_6
  | 7, _ => pt5_7
  | 8, _ => pt5_8
  | 9, _ => pt5_9
  | 10, _ => pt5_10
  | 11, _ => pt5_11
  | 12, _ => pt5_12
  | 13, _ => pt5_13
  | 14, _ => pt5_14
  | 15, _ => pt5_15
  | 16, _ => pt5_16
  | 17, _ => pt5_17
  | 18, _ => pt5_18
  | 19, _ => pt5_19
  | k + 20, h => absurd h (by omega)
theorem len5 : (pr 5 (up 5)).length = 120 := by decide +kernel
theorem chk_all {n : Nat} (h0 : 2 ≤ n) (h1 : n ≤ 5) : chk (pr n (up n)) = true := by
  have : n = 2 ∨ n = 3 ∨ n = 4 ∨ n = 5 := by omega
  rcases this with rfl | rfl | rfl | rfl
  · decide +kernel
  · decide +kernel
  · decide +kernel
  · exact parts_all (m := 20) (by rw [len5]; decide) pt5
theorem stp_row {q : List Int} (hq : IsRow q) {l : Int} (l0 : 0 ≤ l) (l1 : l < (q.length : Nat) - 1) : IsRow (if (falls q).contains l then sw q l else q) ∧ (if (falls q).contains l then sw q l else q).length = q.length := by
  split
  · exact ⟨sw_row hq l0 l1, sw_length _ _⟩
  · exact ⟨hq, rfl⟩
theorem no_falls {r : List Int} (h : IsRow r) (e : falls r = []) : r = up r.length := by
  have := rows_all (p := fun r => !decide (falls r = []) || decide (r = up r.length)) (by decide +kernel) h
  rw [Bool.or_eq_true, decide_eq_true_eq] at this
  rcases this with h2 | h2
  · rw [e] at h2
    cases h2
  · exact h2
theorem led_nc : ∀ {p ws : List Int}, IsRow p → FR p ws → ∀ {q : List Int}, IsRow q → q.length = p.length → decide (ldn q ws = up q.length) = nc (inv q) (inv p)
  | p, _, hp, .done e, q, hq, he => by
    rw [no_falls hp e, ← he]
    exact eq_of_beq (rows_all (p := fun q => decide (ldn q [] = up q.length) == nc (inv q) (inv (up q.length))) (by decide +kernel) hq)
  | p, _, hp, .step (l := l) e f, q, hq, he => by
    have b := invs_fall hp e
    have s := stp_row hq b.1 (by rw [he]; exact b.2.1)
    have ih := led_nc (sw_row hp b.1 b.2.1) f s.1 (by rw [s.2, sw_length, he])
    rw [s.2] at ih
    have k := chk_all hp.lo hp.hi
    have k1 := List.all_eq_true.mp k p (pr_mem hp.pm (up_length _))
    rw [e] at k1
    have hm : q ∈ pr p.length (up p.length) := by
      have := pr_mem hq.pm (up_length _)
      rw [he] at this
      exact this
    have k2 := eq_of_beq (List.all_eq_true.mp k1 q hm)
    rw [k2, ← ih]
    rfl
theorem srt_row {f : List Int} (h : IsRow f) : srt f = up f.length := (srt_eq h.pm.symm (up_sorted _)).symm
/-- a row is led down to the first one just if there is no corner -/
theorem low_rows {u v : List Int} (hu : IsRow u) (hv : IsRow v) (e : u.length = v.length) : decide (ldn (inv u) (W v) = up u.length) = decide (evr u v = []) := by
  have hi := inv_row hv
  have := led_nc hi (fr_row hi) (inv_row hu) (by rw [inv_length, inv_length, e])
  rw [inv_length, inv_inv hu, inv_inv hv] at this
  rw [evr_nil e, srt_row hu]
  exact this
/-- what the law asks at the end -/
theorem end_rows {o : List Int} (h : IsRow o) : decide (invs o = 0) = decide (inv o = up o.length) :=
  eq_of_beq (rows_all (p := fun o => decide (invs o = 0) == decide (inv o = up o.length)) (by decide +kernel) h)
theorem end_state {o : List Int} (h : IsRow o) : decide (diffs o = first (o.length - 1)) = decide (o = up o.length) :=
  eq_of_beq (rows_all (p := fun o => decide (diffs o = first (o.length - 1)) == decide (o = up o.length)) (by decide +kernel) h)
theorem ent_row {r : List Int} (h : IsRow r) : entB r 1 = true := rows_all (p := fun r => entB r 1) (by decide +kernel) h
end Sk
namespace Sk.Sg
/-- the doubled row -/
def dbl (r : List Int) : List Int := (r.reverse.map fun e => 0 - e) ++ r
def sd (n : Nat) : List Int := ((up n).reverse.map fun e => 0 - e) ++ up n
def ldn (q ws : List Int) : List Int := ws.foldl (fun q l => if (falls q).contains l then sw q l else q) q
def nc (f g : List Int) : Bool := leB (tb (sd f.length) (dbl f)) (tb (sd f.length) (dbl g))
def chk (R : List (List Int)) : Bool := R.all fun p => match falls p with
  | [] => true
  | l :: _ => R.all fun q => nc (inv q) (inv p) == nc (inv (if (falls q).contains l then sw q l else q)) (inv (sw p l))
def rowsOf (n : Nat) : List (List Int) := (pr n (up n)).flatMap sgn
theorem chk_all {n : Nat} (h0 : 2 ≤ n) (h1 : n ≤ 3) : chk (rowsOf n) = true := by
  have : n = 2 ∨ n = 3 := by omega
  rcases this with rfl | rfl
  · decide +kernel
  · decide +kernel
theorem stp_row {q : List Int} (hq : IsRow q) {l : Int} (l0 : 0 ≤ l) (l1 : l < (q.length : Nat)) : IsRow (if (falls q).contains l then sw q l else q) ∧ (if (falls q).contains l then sw q l else q).length = q.length := by
  split
  · exact ⟨sw_row hq l0 l1, sw_length _ _⟩
  · exact ⟨hq, rfl⟩
theorem no_falls {r : List Int} (h : IsRow r) (e : falls r = []) : r = up r.length := by
  have := rows_all (p := fun r => !decide (falls r = []) || decide (r = up r.length)) (by decide +kernel) h
  rw [Bool.or_eq_true, decide_eq_true_eq] at this
  rcases this with h2 | h2
  · rw [e] at h2
    cases h2
  · exact h2
theorem led_nc : ∀ {p ws : List Int}, IsRow p → FR p ws → ∀ {q : List Int}, IsRow q → q.length = p.length → decide (ldn q ws = up q.length) = nc (inv q) (inv p)
  | p, _, hp, .done e, q, hq, he => by
    rw [no_falls hp e, ← he]
    exact eq_of_beq (rows_all (p := fun q => decide (ldn q [] = up q.length) == nc (inv q) (inv (up q.length))) (by decide +kernel) hq)
  | p, _, hp, .step (l := l) e f, q, hq, he => by
    have b := invs_fall hp e
    have s := stp_row hq b.1 (by rw [he]; exact b.2.1)
    have ih := led_nc (sw_row hp b.1 b.2.1) f s.1 (by rw [s.2, sw_length, he])
    rw [s.2] at ih
    have k := chk_all hp.lo hp.hi
    have k1 := List.all_eq_true.mp k p (mem_n hp)
    rw [e] at k1
    have hm : q ∈ rowsOf p.length := by
      have := mem_n hq
      rw [he] at this
      exact this
    have k2 := eq_of_beq (List.all_eq_true.mp k1 q hm)
    rw [k2, ← ih]
    rfl
theorem dbl_length (r : List Int) : (dbl r).length = 2 * r.length := by unfold dbl; rw [List.length_append, List.length_map, List.length_reverse]; omega
theorem srt_dbl {f : List Int} (h : IsRow f) : srt (dbl f) = sd f.length := by
  have := rows_all (p := fun f => (sd f.length).isPerm (dbl f) && decide ((sd f.length).Pairwise (· ≤ ·))) (by decide +kernel) h
  rw [Bool.and_eq_true, decide_eq_true_eq, List.isPerm_iff] at this
  exact (srt_eq this.1 this.2).symm
theorem low_signed {u v : List Int} (hu : IsRow u) (hv : IsRow v) (e : u.length = v.length) : decide (ldn (inv u) (W v) = up u.length) = decide (evr (dbl u) (dbl v) = []) := by
  have hi := inv_row hv
  have := led_nc hi (fr_row hi) (inv_row hu) (by rw [inv_length, inv_length, e])
  rw [inv_length, inv_inv hu, inv_inv hv] at this
  rw [evr_nil (by rw [dbl_length, dbl_length, e]), srt_dbl hu]
  exact this
def posB (r : List Int) : Bool := r.all fun e => decide (0 < e)
theorem end_rows {o : List Int} (h : IsRow o) : (posB o && decide (o.Pairwise (· ≤ ·))) = decide (inv o = up o.length) :=
  eq_of_beq (rows_all (p := fun o => (posB o && decide (o.Pairwise (· ≤ ·))) == decide (inv o = up o.length)) (by decide +kernel) h)
theorem end_state {o : List Int} (h : IsRow o) : decide (diffs o = first o.length) = decide (o = up o.length) :=
  eq_of_beq (rows_all (p := fun o => decide (diffs o = first o.length) == decide (o = up o.length)) (by decide +kernel) h)
theorem ent_signed {r : List Int} (h : IsRow r) : entB r (-(r.length : Nat)) = true := rows_all (p := fun r => entB r (-(r.length : Nat))) (by decide +kernel) h
theorem ent_pos {r : List Int} (h : IsRow r) : entB r 1 = posB r := eq_of_beq (rows_all (p := fun r => entB r 1 == posB r) (by decide +kernel) h)
end Sk.Sg

namespace Sk
open PySem L2 Ow
theorem sum_ones {α : Type} : ∀ l : List α, (l.map fun _ => (1 : Int)).sum = ((l.length : Nat) : Int)
  | [] => rfl
  | a :: l => by
    rw [List.map_cons, List.sum_cons, sum_ones l, List.length_cons]
    omega
def dbl (r : List Int) : List Int := Sg.dbl r
theorem dbl_neg (r : List Int) : (r.reverse.map fun e => -e) ++ r = Sg.dbl r := by
  unfold Sg.dbl
  simp
def okR (r : List Int) : Prop := entB r 1 = true ∨ (r.length ≤ 3 ∧ entB r (-(r.length : Nat)) = true)
def tld (f g r : List Int) : List Int := if entB f 1 && entB g 1 then r else Sg.dbl r
def spOver (K : PySem.W.Frag) : Sp := fun vs H Q _ => ∃ (fv gv : V) (f g : List Int) (i : Nat) (j : Int), vs = [fv, gv, .int (i : Nat), .int j] ∧ TI K H fv f ∧ TI K H gv g ∧ f.length ≤ 100 ∧ g.length ≤ 100 ∧ ∀ H', Same H H' → Q (.bl (over f g (i : Nat) j)) H'
def spDbl (K : PySem.W.Frag) : Sp := fun vs H Q _ => ∃ (v : V) (r : List Int), vs = [v] ∧ TI K H v r ∧ r.length ≤ 10 ∧ ∀ v' H', Same H H' → TI K H' v' (Sg.dbl r) → Q v' H'
def spTold (K : PySem.W.Frag) : Sp := fun vs H Q _ => ∃ (fv gv : V) (f g : List Int), vs = [fv, gv] ∧ TI K H fv f ∧ TI K H gv g ∧ 2 ≤ f.length ∧ f.length ≤ 5 ∧ g.length = f.length ∧ okR f ∧ okR g ∧
  ∀ t x y H', Same H H' → SqT K H' t [x, y] → TI K H' x (tld f g f) → TI K H' y (tld f g g) → Q (.ref t) H'
section
variable {P : Program} {w : World} {K : PySem.W.Frag} {mg : Str → Option Value} {base : Heap} {C : Addr}
theorem cal_is_over (T : Txt K mg C) : Cal P w K mg base "is_over" 1 (spOver K) := by
  refine T.d_is_over.cal (ps := ["first", "second", "i", "j"]) (fun f fd D => ?_) (fun _ _ _ _ _ _ us hl => match us, hl with | [_, _, _, _], _ => rfl)
  refine D.ok sc_is_over (fun vs H Q E h => ?_) (fun cdv A outer s H vs Q E hr h => ?_)
  · obtain ⟨_, _, _, _, _, _, rfl, _⟩ := h
    rfl
  · obtain ⟨_, _, f, g, i, j, rfl, ⟨a, rfl, ha⟩, ⟨b, rfl, hb⟩, lf, lg, k⟩ := h
    refine ⟨_, (pss_one (ps_ret (pe_cmpR op_gt (pe_callB (cr_sum rfl) (by rfl) T.b_sum (by decide +kernel) (pa_cons (pe_lc (own := [("entry", 4)]) (g := gName 4) rfl sc_is_over.nd (pi_tup (pe_slice sl_tupA (pv 0) po_none (po_some (pv 2)))) (blkOk_by (own := [("entry", 4)]) (N := ["first", "second", "i", "j", "entry"]) (sc := defScope s_is_over) (by decide +kernel)) (fun _ _ _ _ _ => (pg_name (i := 4) sc_is_over.nd rfl (Or.inl rfl))) (fun _ _ _ _ _ => (pts_one (pt_cmpR op_ge (pv 4) (pv 3) (nomark _)))) (fun _ _ _ _ _ => pe_int)) pa_nil)) (pe_callB (cr_sum rfl) (by rfl) T.b_sum (by decide +kernel) (pa_cons (pe_lc (own := [("entry", 4)]) (g := gName 4) rfl sc_is_over.nd (pi_tup (pe_slice sl_tupA (pv 1) po_none (po_some (pv 2)))) (blkOk_by (own := [("entry", 4)]) (N := ["first", "second", "i", "j", "entry"]) (sc := defScope s_is_over) (by decide +kernel)) (fun _ _ _ _ _ => (pg_name (i := 4) sc_is_over.nd rfl (Or.inl rfl))) (fun _ _ _ _ _ => (pts_one (pt_cmpR op_ge (pv 4) (pv 3) (nomark _)))) (fun _ _ _ _ _ => pe_int)) pa_nil)) (nomark _)))), ?_⟩
    refine ⟨_, rfl, ?_⟩
    dsimp only [tNoPart]
    refine ⟨_, rfl, _, rfl, slc_any ha fun v1 H1 s1 hc1 => ?_⟩
    obtain ⟨c1, rfl, hc1⟩ := hc1
    rw [Sg.cut_take, ← List.map_take] at hc1
    refine ⟨c1, rfl, ⟨_, hc1⟩, fun D1 nD1 => lc_tup (K := K) (a := c1) (xs := (f.take i).map V.int) (fun m H' => Same H1 H' ∧ H' D1 = some (.lst (((((f.take i).take m).filter fun e => decide (e ≥ j)).map fun _ => (1 : Int)).map V.int))) ⟨same_new nD1, upd_same⟩ (fun m H' _ h => sqT_same h.1 hc1) ?_ ?_⟩
    · rintro m x H7 hj ⟨s7, hD7⟩
      obtain ⟨o, ho, rfl⟩ := int_at hj
      have hlen : (((f.take i).take m).filter fun e => decide (e ≥ j)).length ≤ 100 := Nat.le_trans (List.length_filter_le _ _) (by rw [List.length_take, List.length_take]; omega)
      refine ⟨rfl, _, rfl, _, rfl, _, _, rfl, rfl, _, rfl, ite2 (fun z => ?_) (fun z => ?_)⟩
      · refine ⟨_, hD7, small1000 (by rw [List.length_map, List.length_map]; omega), same_off nD1 s7 off_upd, ?_⟩
        rw [upd_same, take_snoc ho, List.filter_append, List.filter_cons_of_pos (p := fun e => decide (e ≥ j)) z, List.filter_nil, List.map_append, List.map_append]
        rfl
      · refine ⟨s7, ?_⟩
        rw [take_snoc ho, List.filter_append, List.filter_cons_of_neg (p := fun e => decide (e ≥ j)) z, List.filter_nil, List.append_nil]
        exact hD7
    rintro H2 ⟨s2, hD1⟩
    rw [List.length_map, List.take_length] at hD1
    refine ⟨D1, _, rfl, .of hD1, ?_⟩
    rw [sum_ones]
    have s12 := s1.trans s2
    refine ⟨_, rfl, ?_⟩
    dsimp only [tNoPart]
    refine ⟨_, rfl, _, rfl, slc_any (sqT_same s12 hb) fun v3 H3 s3 hc3 => ?_⟩
    obtain ⟨c3, rfl, hc3⟩ := hc3
    rw [Sg.cut_take, ← List.map_take] at hc3
    refine ⟨c3, rfl, ⟨_, hc3⟩, fun D3 nD3 => lc_tup (K := K) (a := c3) (xs := (g.take i).map V.int) (fun m H' => Same H3 H' ∧ H' D3 = some (.lst (((((g.take i).take m).filter fun e => decide (e ≥ j)).map fun _ => (1 : Int)).map V.int))) ⟨same_new nD3, upd_same⟩ (fun m H' _ h => sqT_same h.1 hc3) ?_ ?_⟩
    · rintro m x H7 hj ⟨s7, hD7⟩
      obtain ⟨o, ho, rfl⟩ := int_at hj
      have hlen : (((g.take i).take m).filter fun e => decide (e ≥ j)).length ≤ 100 := Nat.le_trans (List.length_filter_le _ _) (by rw [List.length_take, List.length_take]; omega)
      refine ⟨rfl, _, rfl, _, rfl, _, _, rfl, rfl, _, rfl, ite2 (fun z => ?_) (fun z => ?_)⟩
      · refine ⟨_, hD7, small1000 (by rw [List.length_map, List.length_map]; omega), same_off nD3 s7 off_upd, ?_⟩
        rw [upd_same, take_snoc ho, List.filter_append, List.filter_cons_of_pos (p := fun e => decide (e ≥ j)) z, List.filter_nil, List.map_append, List.map_append]
        rfl
      · refine ⟨s7, ?_⟩
        rw [take_snoc ho, List.filter_append, List.filter_cons_of_neg (p := fun e => decide (e ≥ j)) z, List.filter_nil, List.append_nil]
        exact hD7
    rintro H4 ⟨s4, hD3⟩
    rw [List.length_map, List.take_length] at hD3
    refine ⟨D3, _, rfl, .of hD3, ?_⟩
    rw [sum_ones]
    exact ⟨_, _, rfl, rfl, k _ (s12.trans (s3.trans s4))⟩
theorem cal_doubled (T : Txt K mg C) : Cal P w K mg base "doubled" 1 (spDbl K) := by
  refine T.d_doubled.cal (ps := ["row"]) (fun f fd D => ?_) (fun _ _ _ _ _ _ us hl => match us, hl with | [_], _ => rfl)
  refine D.ok sc_doubled (fun vs H Q E h => ?_) (fun cdv A outer s H vs Q E hr h => ?_)
  · obtain ⟨_, _, rfl, _⟩ := h
    rfl
  · obtain ⟨_, r, rfl, ⟨a, rfl, ha⟩, hl, k⟩ := h
    refine ⟨_, (pss_one (ps_ret (pe_op op_catA (pe_callTy call_tuple_of (by rfl) T.b_tuple (by decide +kernel) (pa_cons (pe_lc (own := [("entry", 1)]) (g := gName 1) (tt := tYes) rfl sc_doubled.nd (pi_tup (pe_revT (pv 0))) (blkOk_by (own := [("entry", 1)]) (N := ["row", "entry"]) (sc := defScope s_doubled) (by decide +kernel)) (fun _ _ _ _ _ => (pg_name (i := 1) sc_doubled.nd rfl (Or.inl rfl))) (fun _ _ _ _ _ => pts_nil) (fun _ _ _ _ _ => (pe_un un_neg (pv 1)))) pa_nil)) (pv 0)))), ?_⟩
    refine ⟨_, rfl, a, _, rfl, ha, fun rt nrt => ?_⟩
    have s1 := same_new (o := .tup (r.map V.int).reverse) nrt
    have hrt : SqT K (upd H rt (.tup (r.map V.int).reverse)) rt (r.reverse.map V.int) := .of (by rw [upd_same, List.map_reverse])
    refine ⟨rt, rfl, ⟨_, hrt⟩, fun D1 nD1 => lc_tup (K := K) (a := rt) (xs := r.reverse.map V.int) (fun m H' => Same (upd H rt (.tup (r.map V.int).reverse)) H' ∧ H' D1 = some (.lst ((((r.reverse.take m).map fun e => -e)).map V.int))) ⟨same_new nD1, upd_same⟩ (fun m H' _ h => sqT_same h.1 hrt) ?_ ?_⟩
    · rintro m x H7 hj ⟨s7, hD7⟩
      obtain ⟨o, ho, rfl⟩ := int_at hj
      refine ⟨rfl, _, rfl, _, rfl, _, hD7, ?_, same_off nD1 s7 off_upd, ?_⟩
      · rw [List.length_map, List.length_map, List.length_take, List.length_reverse]
        exact small1000 (by omega)
      · rw [upd_same, take_snoc ho, List.map_append, List.map_append]
        rfl
    · rintro H2 ⟨s2, hD1⟩
      rw [List.length_map, List.take_length] at hD1
      refine ⟨D1, _, rfl, .inl ⟨.of hD1, fun t nt => ?_⟩⟩
      have st := same_new (o := .tup ((r.reverse.map fun e => -e).map V.int)) nt
      refine ⟨_, rfl, cat_any (.of upd_same) (sqT_same ((s1.trans s2).trans st) ha) (by simp only [List.length_map, List.length_reverse]; omega) fun v3 H3 s3 hc3 => ?_⟩
      obtain ⟨c3, rfl, hc3⟩ := hc3
      rw [← List.map_append, dbl_neg] at hc3
      exact k _ _ (((s1.trans s2).trans st).trans s3) ⟨c3, rfl, hc3⟩
theorem cal_l_doubled (T : Txt K mg C) : Cal P w K mg base "_law_doubled" 1 (spDbl K) := by
  refine T.d_l_doubled.cal (ps := ["_law_row"]) (fun f fd D => ?_) (fun _ _ _ _ _ _ us hl => match us, hl with | [_], _ => rfl)
  refine D.ok sc_l_doubled (fun vs H Q E h => ?_) (fun cdv A outer s H vs Q E hr h => ?_)
  · obtain ⟨_, _, rfl, _⟩ := h
    rfl
  · obtain ⟨_, r, rfl, ⟨a, rfl, ha⟩, hl, k⟩ := h
    refine ⟨_, (pss_one (ps_ret (pe_op op_catA (pe_callTy call_tuple_of (by rfl) T.b_tuple (by decide +kernel) (pa_cons (pe_lc (own := [("_law_entry", 1)]) (g := gName 1) (tt := tYes) rfl sc_l_doubled.nd (pi_tup (pe_revT (pv 0))) (blkOk_by (own := [("_law_entry", 1)]) (N := ["_law_row", "_law_entry"]) (sc := defScope s_l_doubled) (by decide +kernel)) (fun _ _ _ _ _ => (pg_name (i := 1) sc_l_doubled.nd rfl (Or.inl rfl))) (fun _ _ _ _ _ => pts_nil) (fun _ _ _ _ _ => (pe_op op_sub pe_int (pv 1)))) pa_nil)) (pv 0)))), ?_⟩
    refine ⟨_, rfl, a, _, rfl, ha, fun rt nrt => ?_⟩
    have s1 := same_new (o := .tup (r.map V.int).reverse) nrt
    have hrt : SqT K (upd H rt (.tup (r.map V.int).reverse)) rt (r.reverse.map V.int) := .of (by rw [upd_same, List.map_reverse])
    refine ⟨rt, rfl, ⟨_, hrt⟩, fun D1 nD1 => lc_tup (K := K) (a := rt) (xs := r.reverse.map V.int) (fun m H' => Same (upd H rt (.tup (r.map V.int).reverse)) H' ∧ H' D1 = some (.lst ((((r.reverse.take m).map fun e => 0 - e)).map V.int))) ⟨same_new nD1, upd_same⟩ (fun m H' _ h => sqT_same h.1 hrt) ?_ ?_⟩
    · rintro m x H7 hj ⟨s7, hD7⟩
      obtain ⟨o, ho, rfl⟩ := int_at hj
      refine ⟨rfl, _, rfl, _, _, rfl, rfl, _, hD7, ?_, same_off nD1 s7 off_upd, ?_⟩
      · rw [List.length_map, List.length_map, List.length_take, List.length_reverse]
        exact small1000 (by omega)
      · rw [upd_same, take_snoc ho, List.map_append, List.map_append]
        rfl
    · rintro H2 ⟨s2, hD1⟩
      rw [List.length_map, List.take_length] at hD1
      refine ⟨D1, _, rfl, .inl ⟨.of hD1, fun t nt => ?_⟩⟩
      have st := same_new (o := .tup ((r.reverse.map fun e => 0 - e).map V.int)) nt
      refine ⟨_, rfl, cat_any (.of upd_same) (sqT_same ((s1.trans s2).trans st) ha) (by simp only [List.length_map, List.length_reverse]; omega) fun v3 H3 s3 hc3 => ?_⟩
      obtain ⟨c3, rfl, hc3⟩ := hc3
      rw [← List.map_append] at hc3
      exact k _ _ (((s1.trans s2).trans st).trans s3) ⟨c3, rfl, hc3⟩
theorem cal_told_rows (T : Txt K mg C) : Cal P w K mg base "told_rows" 4 (spTold K) := by
  refine T.d_told_rows.cal (ps := ["one", "other"]) (fun f fd D => ?_) (fun _ _ _ _ _ _ us hl => match us, hl with | [_, _], _ => rfl)
  refine D.ok sc_told_rows (fun vs H Q E h => ?_) (fun cdv A outer s H vs Q E hr h => ?_)
  · obtain ⟨_, _, _, _, rfl, _⟩ := h
    rfl
  · obtain ⟨fv, gv, f, g, rfl, tf, tg, l2, l5, le, okf, okg, k⟩ := h
    obtain ⟨a, rfl, ha⟩ := id tf
    obtain ⟨b, rfl, hb⟩ := id tg
    refine ⟨_, (pss_cons (ps_for PassesOwn.never rfl (pi_tup (pe_tup (pa_cons (pv 0) (pa_cons (pv 1) pa_nil)))) (pg_name (i := 2) sc_told_rows.nd rfl (Or.inl rfl)) (pss_one (ps_if (PW.pt (pw_and (pt_not (pt_val (pe_cal (cal_is_row T) (hr.mono (by decide)) (by rfl) (pa_cons (pv 2) pa_nil)))) (pw_and1 (pt_not (pt_val (pe_cal (cal_is_signed T) (hr.mono (by decide)) (by rfl) (pa_cons (pv 2) pa_nil))))))) (pss_one ps_never) pss_nil)))
      (pss_cons (ps_if (pt_cmpR op_ne (pe_callB call_len_seq (by rfl) T.b_len (by decide +kernel) (pa_cons (pv 0) pa_nil)) (pe_callB call_len_seq (by rfl) T.b_len (by decide +kernel) (pa_cons (pv 1) pa_nil)) (nomark _)) (pss_one ps_never) pss_nil)
      (pss_one (ps_ret (pe_ifExp (PW.pt (pw_and (pt_val (pe_cal (cal_is_row T) (hr.mono (by decide)) (by rfl) (pa_cons (pv 0) pa_nil))) (pw_and1 (pt_val (pe_cal (cal_is_row T) (hr.mono (by decide)) (by rfl) (pa_cons (pv 1) pa_nil)))))) (pe_tup (pa_cons (pv 0) (pa_cons (pv 1) pa_nil))) (pe_tup (pa_cons (pe_cal (cal_doubled T) (hr.mono (by decide)) (by rfl) (pa_cons (pv 0) pa_nil)) (pa_cons (pe_cal (cal_doubled T) (hr.mono (by decide)) (by rfl) (pa_cons (pv 1) pa_nil)) pa_nil)))))))), ?_⟩
    refine ⟨_, rfl, _, rfl, show 2 ≤ sizeLine by decide, fun t nt => ?_⟩
    have s1 := same_new (o := .tup [.ref a, .ref b]) nt
    refine ⟨t, rfl, ⟨_, .of upd_same⟩, for_tup (K := K) (a := t) (xs := [.ref a, .ref b]) (fun i σ H' => Same (upd H t (.tup [.ref a, .ref b])) H' ∧ ∃ v2, σ = [some (.ref a), some (.ref b), v2]) ⟨.refl _, none, rfl⟩ (fun i σ H' _ h => sqT_same h.1 (.of upd_same)) ?_ ?_⟩
    · rintro i x σ H2 hx ⟨s2, v2, rfl⟩
      have key : ∃ r, TI K H x r ∧ 2 ≤ r.length ∧ r.length ≤ 5 ∧ okR r := by
        have m := List.mem_of_getElem? hx
        simp at m
        rcases m with rfl | rfl
        · exact ⟨f, tf, l2, l5, okf⟩
        · exact ⟨g, tg, by omega, by omega, okg⟩
      obtain ⟨r, tr, r2, r5, okr⟩ := key
      refine ⟨_, rfl, x, r, rfl, (tr.same s1).same s2, r2, r5, fun H3 s3 => ⟨_, rfl, ?_⟩⟩
      cases e : entB r 1 with
      | true => exact iteF (iteF ⟨(s2.trans s3), _, rfl⟩)
      | false =>
        have h2 : r.length ≤ 3 ∧ entB r (-(r.length : Nat)) = true := by
          rcases okr with z | z
          · rw [e] at z
            cases z
          · exact z
        refine iteT ⟨_, rfl, x, r, rfl, ((tr.same s1).same s2).same s3, r2, h2.1, fun H4 s4 => ⟨_, rfl, ?_⟩⟩
        rw [h2.2]
        exact iteF ⟨(s2.trans (s3.trans s4)), _, rfl⟩
    · rintro σ H2 ⟨s2, v2, rfl⟩
      have s02 := s1.trans s2
      have tf2 := tf.same s02
      have tg2 := tg.same s02
      refine ⟨_, rfl, _, _, rfl, .inr (sqT_same s02 ha), _, rfl, _, _, rfl, .inr (sqT_same s02 hb), rfl, _, rfl, ?_⟩
      rw [List.length_map, List.length_map, le, show (!decide (V.int ((f.length : Nat) : Int) = V.int ((f.length : Nat) : Int))) = false by simp]
      refine iteF ?_
      have fin1 : tld f g f = f → tld f g g = g → ∀ H3, Same H2 H3 → ∀ t3, H3 t3 = none → Q (.ref t3) (upd H3 t3 (.tup [.ref a, .ref b])) := fun e1 e2 H3 s3 t3 n3 => by
        have s4 := same_new (o := .tup [.ref a, .ref b]) n3
        exact k t3 _ _ _ (s02.trans (s3.trans s4)) (.of upd_same) (by rw [e1]; exact (tf2.same s3).same s4) (by rw [e2]; exact (tg2.same s3).same s4)
      have fin2 : tld f g f = Sg.dbl f → tld f g g = Sg.dbl g → ∀ H3 x y, Same H2 H3 → TI K H3 x (Sg.dbl f) → TI K H3 y (Sg.dbl g) → ∀ t3, H3 t3 = none → Q (.ref t3) (upd H3 t3 (.tup [x, y])) := fun e1 e2 H3 x y s3 tx ty t3 n3 => by
        have s4 := same_new (o := .tup [x, y]) n3
        exact k t3 _ _ _ (s02.trans (s3.trans s4)) (.of upd_same) (by rw [e1]; exact tx.same s4) (by rw [e2]; exact ty.same s4)
      have dd : tld f g f = Sg.dbl f → tld f g g = Sg.dbl g → ∀ H3, Same H2 H3 → _ := fun e1 e2 H3 s3 => fin2 e1 e2 H3
      clear dd
      refine ⟨_, rfl, _, f, rfl, tf2, l2, l5, fun H3 s3 => ⟨_, rfl, ?_⟩⟩
      cases ef : entB f 1 with
      | false =>
        have e1 : tld f g f = Sg.dbl f := by unfold tld; rw [ef]; rfl
        have e2 : tld f g g = Sg.dbl g := by unfold tld; rw [ef]; rfl
        refine iteF (iteF ?_)
        refine ⟨_, rfl, _, f, rfl, tf2.same s3, by omega, fun x H4 s4 tx => ⟨_, rfl, _, g, rfl, (tg2.same s3).same s4, by omega, fun y H5 s5 ty => ⟨show 2 ≤ sizeLine by decide, fun t3 n3 => fin2 e1 e2 H5 x y (s3.trans (s4.trans s5)) (tx.same s5) ty t3 n3⟩⟩⟩
      | true =>
        refine iteT ⟨_, rfl, _, g, rfl, tg2.same s3, by omega, by omega, fun H4 s4 => ⟨_, rfl, ?_⟩⟩
        cases eg : entB g 1 with
        | false =>
          have e1 : tld f g f = Sg.dbl f := by unfold tld; rw [ef, eg]; rfl
          have e2 : tld f g g = Sg.dbl g := by unfold tld; rw [ef, eg]; rfl
          refine iteF ?_
          refine ⟨_, rfl, _, f, rfl, (tf2.same s3).same s4, by omega, fun x H5 s5 tx => ⟨_, rfl, _, g, rfl, ((tg2.same s3).same s4).same s5, by omega, fun y H6 s6 ty => ⟨show 2 ≤ sizeLine by decide, fun t3 n3 => fin2 e1 e2 H6 x y ((s3.trans s4).trans (s5.trans s6)) (tx.same s6) ty t3 n3⟩⟩⟩
        | true =>
          have e1 : tld f g f = f := by unfold tld; rw [ef, eg]; rfl
          have e2 : tld f g g = g := by unfold tld; rw [ef, eg]; rfl
          exact iteT ⟨_, rfl, _, rfl, show 2 ≤ sizeLine by decide, fun t3 n3 => fin1 e1 e2 H4 (s3.trans s4) t3 n3⟩
end
end Sk

namespace Sk
open PySem L2 Ow
theorem inV_int (c : Int) (ns : List Int) : inV (.int c) (ns.map V.int) = ns.contains c := by
  unfold inV
  rw [List.any_map, List.contains_eq_any_beq]
  congr 1
  funext y
  show eqV (.int y) (.int c) = (c == y)
  rw [Bool.eq_iff_iff]
  simp [eqV]
  exact eq_comm
theorem flat_ints (ns : List Int) : (ns.map V.int).all flatV = true := by
  rw [List.all_map, List.all_eq_true]
  intro x _
  rfl
theorem eqv_dB (a b : List (List Int)) : PyData.eqv (dB a) (dB b) = decide (a = b) := by
  unfold dB
  rw [show PyData.eqv (.tuple (a.map dT)) (.tuple (b.map dT)) = PyData.eqvAll (a.map dT) (b.map dT) from by simp [PyData.eqv]]
  exact eqv_dTs a b
theorem A2.of_tis' {K : PySem.W.Frag} {H : Hp} {xs : List V} {as : List (List Int)} (h : TIs K H xs as) : A2 (TI K H) xs as := A2.of_tis h
/-- led down by the letters of a word, told by states -/
def ledA (lk : List (List (List Int))) (st : List (List Int)) (ws : List Int) : List (List Int) := ws.foldl (fun st l => if bel (st.getD l.toNat []) then putA lk st l else st) st
theorem led_ok {n : Nat} (lk : List (List (List Int))) : ∀ (ws : List Int) {st : List (List Int)}, StOk n st → StOk n (ledA lk st ws)
  | [], _, h => h
  | w :: ws, st, h => by
    show StOk n (ledA lk (if bel (st.getD w.toNat []) then putA lk st w else st) ws)
    split
    · exact led_ok lk ws (h.put lk w)
    · exact led_ok lk ws h
def spLed (K : PySem.W.Frag) : Sp := fun vs H Q _ => ∃ (lv sv wv : V) (ws : List Int) (n : Nat) (lk : List (List (List Int))) (st : List (List Int)), vs = [lv, sv, wv] ∧ LkAt K H lv lk ∧ BsAt K H sv st ∧ TI K H wv ws ∧ LkOk n lk ∧ StOk n st ∧ (∀ x ∈ ws, 0 ≤ x ∧ x < n) ∧ ws.length ≤ 1000 ∧ (∀ i, i ≤ ws.length → Fine (ledA lk st (ws.take i))) ∧
  ∀ v H', Same H H' → BsAt K H' v (ledA lk st ws) → Q v H'
def spSU (K : PySem.W.Frag) : Sp := fun vs H Q _ => ∃ (lv sv wv : V) (ws : List Int) (n : Nat) (lk : List (List (List Int))) (st : List (List Int)), vs = [lv, sv, wv] ∧ LkAt K H lv lk ∧ BsAt K H sv st ∧ TI K H wv ws ∧ LkOk n lk ∧ StOk n st ∧ (∀ x ∈ ws, 0 ≤ x ∧ x < n) ∧ ws.length ≤ 1000 ∧ (∀ i, i ≤ ws.length → Fine (ledA lk st (ws.take i))) ∧
  ∀ H', Same H H' → Q (.bl (decide (ledA lk st ws = first n))) H'
def spWU (K : PySem.W.Frag) : Sp := fun vs H Q _ => ∃ (lv ov wv : V) (os ws : List Int) (n : Nat) (lk : List (List (List Int))), vs = [lv, ov, wv] ∧ LkAt K H lv lk ∧ TI K H ov os ∧ TI K H wv ws ∧ LkOk n lk ∧ (∀ x ∈ os, 0 ≤ x ∧ x < n) ∧ os.length ≤ 1000 ∧ (∀ x ∈ ws, 0 ≤ x ∧ x < n) ∧ ws.length ≤ 1000 ∧ (∀ i, i ≤ ws.length → Fine (ledA lk (aheadW lk (first n) os) (ws.take i))) ∧
  ∀ H', Same H H' → Q (.bl (decide (ledA lk (aheadW lk (first n) os) ws = first n))) H'
def spUnder (K : PySem.W.Frag) (C : Addr) : Sp := fun vs H Q _ => ∃ (sv ov zv : V) (n : Int) (bs : List (List Int)) (os zs us : List Int), vs = [sv, ov, zv] ∧ SyW K C H sv ov n bs os ∧ TI K H zv zs ∧ Wd n zs ∧ Nw bs n zs us ∧ us.length ≤ 1000 ∧ (∀ x ∈ us, 0 ≤ x ∧ x < n) ∧ (∀ i, i ≤ us.length → Fine (ledA (lkOf bs n) (stOf bs n os) (us.take i))) ∧
  ∀ H', Same H H' → Q (.bl (decide (ledA (lkOf bs n) (stOf bs n os) us = first n.toNat))) H'
section
variable {P : Program} {w : World} {K : PySem.W.Frag} {mg : Str → Option Value} {base : Heap} {C : Addr}
theorem cal_led_down (T : Txt K mg C) : Cal P w K mg base "led_down" 3 (spLed K) := by
  refine T.d_led_down.cal (ps := ["links", "state", "word"]) (fun f fd D => ?_) (fun _ _ _ _ _ _ us hl => match us, hl with | [_, _, _], _ => rfl)
  refine D.ok sc_led_down (fun vs H Q E h => ?_) (fun cdv A outer s H vs Q E hr h => ?_)
  · obtain ⟨_, _, _, _, _, _, _, rfl, _⟩ := h
    rfl
  · obtain ⟨lv, sv, _, ws, n, lk, st, rfl, hlv, hsv, ⟨wa, rfl, hwa⟩, hlk, hst, hws, hw, hf, k⟩ := h
    refine ⟨_, (pss_cons (ps_for PassesOwn.never rfl (pi_tup (pv 2)) (pg_name (i := 3) sc_led_down.nd rfl (Or.inl rfl)) (pss_one (ps_if (pt_val (pe_cal (cal_is_below T) (hr.mono (by decide)) (by rfl) (pa_cons (pe_ix ix_tup (pv 1) (pv 3) (fun _ _ => rfl)) pa_nil))) (pss_one (ps_set (i := 1) sc_led_down.nd rfl (Or.inl rfl) (pe_cal (cal_put_ahead T) (hr.mono (by decide)) (by rfl) (pa_cons (pv 0) (pa_cons (pv 1) (pa_cons (pv 3) pa_nil)))))) pss_nil)))
      (pss_one (ps_ret (pv 1)))), ?_⟩
    refine ⟨_, rfl, wa, rfl, ⟨_, hwa⟩, for_tup (K := K) (a := wa) (xs := ws.map V.int) (fun i σ H' => ∃ (v : V) (v3 : Option V), σ = [some lv, some v, some (.ref wa), v3] ∧ Same H H' ∧ BsAt K H' v (ledA lk st (ws.take i))) ⟨sv, none, rfl, .refl _, hsv⟩ (fun i σ H' _ h => by obtain ⟨_, _, _, h, _⟩ := h; exact sqT_same h hwa) ?_ ?_⟩
    · rintro i x σ H2 hi ⟨v, v3, rfl, s2, hb⟩
      obtain ⟨c, hc, rfl⟩ := int_at hi
      have hcm := hws c (List.mem_of_getElem? hc)
      have il := (List.getElem?_eq_some_iff.mp hc).1
      have ok := led_ok lk (ws.take i) hst
      obtain ⟨sa, sy, rfl, hsa, hsy⟩ := id hb
      obtain ⟨ww, pp, e1, e2⟩ := ok.at_ (i := c.toNat) (by omega)
      obtain ⟨xv, hx, tx⟩ := (A2.of_tis hsy).at_ e1
      have fine := hf i (by omega) [ww, pp] (List.mem_of_getElem? e1)
      have step : ledA lk st (ws.take (i + 1)) = if bel [ww, pp] then putA lk (ledA lk st (ws.take i)) c else ledA lk st (ws.take i) := by
        rw [take_snoc hc]
        unfold ledA
        rw [List.foldl_append]
        show (if bel ((ledA lk st (ws.take i)).getD c.toNat []) then _ else _) = _
        rw [e2]
      refine ⟨_, rfl, _, rfl, sa, sy, c, xv, rfl, rfl, hsa, ixI hcm.1 hx, xv, [ww, pp], rfl, tx, rfl, fine, _, rfl, ite2 (fun z => ?_) (fun z => ?_)⟩
      · rw [if_pos z] at step
        refine ⟨_, rfl, _, rfl, _, rfl, lv, .ref sa, c, n, lk, _, rfl, hlv.same s2, hb, hlk, ok, hcm.1, hcm.2, fun v' H3 s3 hb3 => ?_⟩
        exact ⟨v', _, rfl, s2.trans s3, by rw [step]; exact hb3⟩
      · rw [if_neg z] at step
        exact ⟨.ref sa, _, rfl, s2, by rw [step]; exact hb⟩
    · rintro σ H2 ⟨v, v3, rfl, s2, hb⟩
      rw [List.length_map, List.take_length] at hb
      exact ⟨_, rfl, k _ _ s2 hb⟩
theorem cal_is_state_under (T : Txt K mg C) : Cal P w K mg base "is_state_under" 4 (spSU K) := by
  refine T.d_is_state_under.cal (ps := ["links", "state", "word"]) (fun f fd D => ?_) (fun _ _ _ _ _ _ us hl => match us, hl with | [_, _, _], _ => rfl)
  refine D.ok sc_is_state_under (fun vs H Q E h => ?_) (fun cdv A outer s H vs Q E hr h => ?_)
  · obtain ⟨_, _, _, _, _, _, _, rfl, _⟩ := h
    rfl
  · obtain ⟨lv, sv, wv, ws, n, lk, st, rfl, hlv, hsv, hwv, hlk, hst, hws, hw, hf, k⟩ := h
    refine ⟨_, (pss_one (ps_ret (pe_cmpR (op_eqD hr.units) (pe_cal (cal_led_down T) (hr.mono (by decide)) (by rfl) (pa_cons (pv 0) (pa_cons (pv 1) (pa_cons (pv 2) pa_nil)))) (pe_cal (cal_first_state T) (hr.mono (by decide)) (by rfl) (pa_cons (pv 0) pa_nil)) (nomark _)))), ?_⟩
    refine ⟨_, rfl, _, rfl, _, rfl, lv, sv, wv, ws, n, lk, st, rfl, hlv, hsv, hwv, hlk, hst, hws, hw, hf, fun v H1 s1 hb => ?_⟩
    refine ⟨_, rfl, lv, lk, rfl, hlv.same s1, by rw [hlk.len]; exact hlk.few, fun v2 H2 s2 hb2 => ?_⟩
    rw [hlk.len] at hb2
    refine ⟨dB _, dB _, (hb.same s2).dp, hb2.dp, sh_dB _, sh_dB _, ?_⟩
    rw [eqv_dB]
    exact k _ (s1.trans s2)
theorem cal_is_word_under (T : Txt K mg C) : Cal P w K mg base "is_word_under" 5 (spWU K) := by
  refine T.d_is_word_under.cal (ps := ["links", "one", "word"]) (fun f fd D => ?_) (fun _ _ _ _ _ _ us hl => match us, hl with | [_, _, _], _ => rfl)
  refine D.ok sc_is_word_under (fun vs H Q E h => ?_) (fun cdv A outer s H vs Q E hr h => ?_)
  · obtain ⟨_, _, _, _, _, _, _, rfl, _⟩ := h
    rfl
  · obtain ⟨lv, ov, wv, os, ws, n, lk, rfl, hlv, hov, hwv, hlk, hos, hol, hws, hw, hf, k⟩ := h
    refine ⟨_, (pss_one (ps_ret (pe_cal (cal_is_state_under T) (hr.mono (by decide)) (by rfl) (pa_cons (pv 0) (pa_cons (pe_cal (cal_state_of T) (hr.mono (by decide)) (by rfl) (pa_cons (pv 0) (pa_cons (pv 1) pa_nil))) (pa_cons (pv 2) pa_nil)))))), ?_⟩
    refine ⟨_, rfl, _, rfl, _, rfl, lv, ov, os, n, lk, rfl, hlv, hov, hlk, hos, hol, fun v H1 s1 hb => ?_⟩
    exact ⟨_, rfl, lv, v, wv, ws, n, lk, _, rfl, hlv.same s1, hb, hwv.same s1, hlk, StOk.ahead lk _ (.first n), hws, hw, hf, fun H2 s2 => k _ (s1.trans s2)⟩
theorem cal_is_under (T : Txt K mg C) : Cal P w K mg base "is_under" 7 (spUnder K C) := by
  refine T.d_is_under.cal (ps := ["system", "one", "other"]) (fun f fd D => ?_) (fun _ _ _ _ _ _ us hl => match us, hl with | [_, _, _], _ => rfl)
  refine D.ok sc_is_under (fun vs H Q E h => ?_) (fun cdv A outer s H vs Q E hr h => ?_)
  · obtain ⟨_, _, _, _, _, _, _, _, rfl, _⟩ := h
    rfl
  · obtain ⟨_, ov, zv, n, bs, os, zs, us, rfl, ⟨p, bv, rfl, y, va, t, hw⟩, tz, hz, hn, hl, hus, hf, k⟩ := h
    have n1 := va.lo
    have h40 := hw.2
    have z40 := hz.2
    refine ⟨_, (pss_cons (ps_expr (pe_calR (cal_check_words T) (hr.mono (by decide)) (by rfl) (pa_cons (pv 0) (pa_cons (pv 1) (pa_cons (pv 2) pa_nil)))))
      (pss_cons (ps_set (i := 3) sc_is_under.nd rfl (Or.inl rfl) (pe_cal (cal_links_of T) (hr.mono (by decide)) (by rfl) (pa_cons (pv 0) pa_nil)))
      (pss_one (ps_ret (pe_cal (cal_is_word_under T) (hr.mono (by decide)) (by rfl) (pa_cons (pv 3) (pa_cons (pv 1) (pa_cons (pe_cal (cal_normal_word T) (hr.mono (by decide)) (by rfl) (pa_cons (pv 3) (pa_cons (pv 2) pa_nil))) pa_nil)))))))), ?_⟩
    refine ⟨_, rfl, _, rfl, _, rfl, p, n, bv, bs, [ov, zv], rfl, by simp, y, fun v hv => ?_, fun H1 s1 => ?_⟩
    · rcases List.mem_cons.mp hv with rfl | hv
      · exact ⟨os, t, hw⟩
      · exact ⟨zs, by rw [List.mem_singleton.mp hv]; exact tz, hz⟩
    refine ⟨_, rfl, p, n, bv, bs, rfl, y.same s1, va, fun v2 H2 s2 hlk => ?_⟩
    have s12 := s1.trans s2
    refine ⟨_, rfl, _, rfl, _, rfl, _, rfl, v2, zv, n.toNat, lkOf bs n, zs, us, rfl, hlk, tz.same s12, lkOf_ok va, hz.in_ (by omega), by omega, hn, hl, fun v3 H3 s3 t3 => ?_⟩
    exact ⟨v2, ov, v3, os, us, n.toNat, lkOf bs n, rfl, hlk.same s3, t.same (s12.trans s3), t3, lkOf_ok va, hw.in_ (by omega), by omega, fun x hx => by have := hus x hx; omega, hl, hf, fun H4 s4 => k _ ((s12.trans s3).trans s4)⟩
end
end Sk

namespace Sk
open PySem L2 Ow
def IB (x : V) : Prop := (∃ i, x = .int i) ∨ ∃ b, x = .bl b
def dv : V → PyData
  | .int i => .int i
  | .bl b => .bool b
  | _ => .none
theorem dp_ib {K : PySem.W.Frag} {H : Hp} : ∀ {l : List V}, (∀ x ∈ l, IB x) → DpAll K H l (l.map dv)
  | [], _ => .nil
  | x :: l, h => by
    refine .cons ?_ (dp_ib fun y hy => h y (List.mem_cons_of_mem _ hy))
    rcases h x (List.mem_cons_self ..) with ⟨i, rfl⟩ | ⟨b, rfl⟩
    · exact .int i
    · exact .bl b
theorem lay_ib : ∀ {l : List V}, (∀ x ∈ l, IB x) → PyData.canLayAll0 (l.map dv) = true
  | [], _ => by simp [PyData.canLayAll0]
  | x :: l, h => by
    have := lay_ib (l := l) fun y hy => h y (List.mem_cons_of_mem _ hy)
    rcases h x (List.mem_cons_self ..) with ⟨i, rfl⟩ | ⟨b, rfl⟩ <;> simp [PyData.canLayAll0, PyData.canLay0, dv, this]
theorem dep_ib : ∀ {l : List V}, (∀ x ∈ l, IB x) → PyData.depthAll (l.map dv) ≤ 1
  | [], _ => by simp [PyData.depthAll]
  | x :: l, h => by
    have := dep_ib (l := l) fun y hy => h y (List.mem_cons_of_mem _ hy)
    rcases h x (List.mem_cons_self ..) with ⟨i, rfl⟩ | ⟨b, rfl⟩ <;> (simp [PyData.depthAll, PyData.depth, dv]; omega)
theorem sh_ib {l : List V} (h : ∀ x ∈ l, IB x) : SeqAt.shaped (.list (l.map dv)) = true := by
  unfold SeqAt.shaped
  have h1 : (PyData.list (l.map dv)).canLay0 = true := by simp [PyData.canLay0, lay_ib h]
  have h2 : (PyData.list (l.map dv)).depth ≤ 64 := by have := dep_ib h; simp [PyData.depth]; omega
  rw [h1, decide_eq_true h2]
  rfl
theorem eqv_nil : ∀ l : List PyData, PyData.eqv (.list l) (.list []) = l.isEmpty
  | [] => by simp [PyData.eqv, PyData.eqvAll]
  | _ :: _ => by simp [PyData.eqv, PyData.eqvAll]
def wB (lo hi : Int) : V → Bool
  | .int i => decide (lo ≤ i) && decide (i ≤ hi)
  | _ => false
def spWithin2 : Sp := fun vs H Q _ => ∃ (x : V) (lo hi : Int), vs = [x, .int lo, .int hi] ∧ IB x ∧ Q (.bl (wB lo hi x)) H
/-- values near corners: no pair of whole numbers, or one -/
inductive Near (K : PySem.W.Frag) (H : Hp) : V → Option (Int × Int) → Prop
  | flat {x : V} {s : String} : TyX K H x (.type s) → kitB s "tuple" = some false → Near K H x none
  | size {a : Addr} {xs : List V} : SqT K H a xs → xs.length ≠ 2 → Near K H (.ref a) none
  | bool {a : Addr} {x y : V} : SqT K H a [x, y] → IB x → IB y → (∃ b, x = .bl b ∨ y = .bl b) → Near K H (.ref a) none
  | pair {a : Addr} {i j : Int} : SqT K H a [.int i, .int j] → Near K H (.ref a) (some (i, j))
/-- whether a value is a corner -/
def crn (f g : List Int) : Option (Int × Int) → Bool
  | none => false
  | some (i, j) => (decide (1 ≤ i) && decide (i ≤ (f.length : Nat))) && f.contains j && over f g i j
def spLLed (K : PySem.W.Frag) : Sp := fun vs H Q _ => ∃ (ov wv : V) (u v : List Int), vs = [ov, wv] ∧ RT H ov u ∧ RT H wv v ∧ IsRow u ∧ IsRow v ∧ u.length = v.length ∧ ∀ H', Same H H' → Q (.bl (decide (ldn (inv u) (W v) = up u.length))) H'
def spLSLed (K : PySem.W.Frag) : Sp := fun vs H Q _ => ∃ (ov wv : V) (u v : List Int), vs = [ov, wv] ∧ TI K H ov u ∧ TI K H wv v ∧ Sg.IsRow u ∧ Sg.IsRow v ∧ u.length = v.length ∧ ∀ H', Same H H' → Q (.bl (decide (Sg.ldn (Sg.inv u) (Sg.W v) = up u.length))) H'
theorem ldn_snoc {q ws : List Int} {c : Int} {i : Nat} (h : ws[i]? = some c) : ldn q (ws.take (i + 1)) = if (falls (ldn q (ws.take i))).contains c then sw (ldn q (ws.take i)) c else ldn q (ws.take i) := by
  rw [take_snoc h]
  unfold ldn
  rw [List.foldl_append]
  rfl
theorem Sg.ldn_snoc {q ws : List Int} {c : Int} {i : Nat} (h : ws[i]? = some c) : Sg.ldn q (ws.take (i + 1)) = if (Sg.falls (Sg.ldn q (ws.take i))).contains c then Sg.sw (Sg.ldn q (ws.take i)) c else Sg.ldn q (ws.take i) := by
  rw [take_snoc h]
  unfold Sg.ldn
  rw [List.foldl_append]
  rfl
section
variable {P : Program} {w : World} {K : PySem.W.Frag} {mg : Str → Option Value} {base : Heap} {C : Addr}
theorem cal_is_within2 (T : Txt K mg C) : Cal P w K mg base "is_within" 1 spWithin2 := by
  refine T.d_is_within.cal (ps := ["value", "least", "most"]) (fun f fd D => ?_) (fun _ _ _ _ _ _ us hl => match us, hl with | [_, _, _], _ => rfl)
  refine D.ok sc_is_within (fun vs H Q E h => ?_) (fun cdv A outer s H vs Q E hr h => ?_)
  · obtain ⟨i, lo, hi, rfl, _⟩ := h
    rfl
  · obtain ⟨x, lo, hi, rfl, ib, q⟩ := h
    refine ⟨_, (pss_one (ps_ret (pe_and (pe_callB call_isi (by rfl) T.b_isinstance (by decide +kernel) (pa_cons (pv 0) (pa_cons (pe_bltn (v := .ty "int") (by rfl) T.b_int (by decide +kernel) rfl) pa_nil))) (pe_and (pe_not (pe_callB call_isi (by rfl) T.b_isinstance (by decide +kernel) (pa_cons (pv 0) (pa_cons (pe_bltn (v := .ty "bool") (by rfl) T.b_bool (by decide +kernel) rfl) pa_nil)))) (pe_one (pe_chain op_le op_le (pv 1) (pv 0) (pv 2))))))), ?_⟩
    rcases ib with ⟨i, rfl⟩ | ⟨b, rfl⟩
    · refine ⟨_, rfl, _, _, _, _, true, rfl, .ty "int", .base (.int i), kit_ty (by decide +kernel), _, rfl, iteT ?_⟩
      refine ⟨_, rfl, _, _, _, _, false, rfl, .ty "bool", .base (.int i), kit_ty (by decide +kernel), _, rfl, _, rfl, iteT ?_⟩
      refine ⟨_, rfl, _, rfl, _, _, rfl, rfl, _, rfl, ?_⟩
      have q' : Q (.bl (decide (lo ≤ i) && decide (i ≤ hi))) H := q
      by_cases h1 : lo ≤ i
      · rw [decide_eq_true h1] at *
        refine iteT ?_
        exact ⟨_, rfl, _, _, rfl, rfl, q'⟩
      · rw [decide_eq_false h1] at *
        exact iteF q'
    · refine ⟨_, rfl, _, _, _, _, true, rfl, .ty "int", .base (.bl b), kit_ty (by decide +kernel), _, rfl, iteT ?_⟩
      exact ⟨_, rfl, _, _, _, _, true, rfl, .ty "bool", .base (.bl b), kit_ty (by decide +kernel), _, rfl, _, rfl, iteF q⟩
theorem cal_l_is_led_down (T : Txt K mg C) : Cal P w K mg base "_law_is_led_down" 4 (spLLed K) := by
  refine T.d_l_is_led_down.cal (ps := ["_law_one", "_law_other"]) (fun f fd D => ?_) (fun _ _ _ _ _ _ us hl => match us, hl with | [_, _], _ => rfl)
  refine D.ok sc_l_is_led_down (fun vs H Q E h => ?_) (fun cdv A outer s H vs Q E hr h => ?_)
  · obtain ⟨_, _, _, _, rfl, _⟩ := h
    rfl
  · obtain ⟨ov, wv, u, v, rfl, hov, hwv, hu, hv, he, k⟩ := h
    refine ⟨_, (pss_cons (ps_for PassesOwn.never rfl (pi_tup (pe_cal (cal_l_word T) (hr.mono (by decide)) (by rfl) (pa_cons (pv 1) pa_nil))) (pg_name (i := 2) sc_l_is_led_down.nd rfl (Or.inl rfl)) (pss_one (ps_if (pt_cmpR op_in_seq (pv 2) (pe_cal (cal_l_right_letters T) (hr.mono (by decide)) (by rfl) (pa_cons (pe_cal (cal_l_undone T) (hr.mono (by decide)) (by rfl) (pa_cons (pv 0) pa_nil)) pa_nil)) (by rfl)) (pss_one (ps_set (i := 0) sc_l_is_led_down.nd rfl (Or.inl rfl) (pe_cal (cal_l_ahead T) (hr.mono (by decide)) (by rfl) (pa_cons (pv 2) (pa_cons (pv 0) pa_nil))))) pss_nil)))
      (pss_one (ps_ret (pe_cmpR op_eq (pe_cal (cal_l_length T) (hr.mono (by decide)) (by rfl) (pa_cons (pv 0) pa_nil)) pe_int (nomark _))))), ?_⟩
    refine ⟨_, rfl, wv, v, rfl, hwv, hv, fun v1 H1 s1 t1 => ?_⟩
    obtain ⟨wa, rfl, hwa⟩ := t1
    have hin : ∀ c ∈ W v, 0 ≤ c ∧ c < (u.length : Nat) - 1 := fun c hc => by
      have := nrm_in (inv_row hv) c hc
      rw [inv_length] at this
      omega
    refine ⟨wa, rfl, ⟨_, hwa⟩, for_tup (K := K) (a := wa) (xs := (W v).map V.int) (fun i σ H' => ∃ (o : V) (r : List Int) (v3 : Option V), σ = [some o, some wv, v3] ∧ Same H1 H' ∧ RT H' o r ∧ IsRow r ∧ r.length = u.length ∧ inv r = ldn (inv u) ((W v).take i)) ⟨ov, u, none, rfl, .refl _, hov.same s1, hu, rfl, rfl⟩ (fun i σ H' _ h => by obtain ⟨_, _, _, _, h, _⟩ := h; exact sqT_same h hwa) ?_ ?_⟩
    · rintro i x σ H2 hi ⟨o, r, v3, rfl, s2, hr2, rr, rl, re⟩
      obtain ⟨c, hc, rfl⟩ := int_at hi
      have b := hin c (List.mem_of_getElem? hc)
      have r5 := rr.hi
      have ir := inv_row rr
      have st := ldn_snoc (q := inv u) hc
      rw [← re] at st
      refine ⟨_, rfl, _, rfl, o, r, rfl, hr2, rr, fun v4 H3 s3 t3 => ⟨v4, inv r, rfl, t3, by rw [inv_length]; omega, by rw [inv_length]; omega, fun v5 H4 s4 t4 => ?_⟩⟩
      obtain ⟨ra, rfl, hra⟩ := t4
      refine ⟨ra, _, rfl, .inr hra, rfl, flat_ints _, _, rfl, ite2 (fun z => ?_) (fun z => ?_)⟩
      · have z' : (falls (inv r)).contains c = true := by rw [← inV_int]; exact z
        rw [if_pos z'] at st
        refine ⟨_, rfl, _, rfl, o, c, r, rfl, ((hr2.same s3).same s4).ti, by omega, fun v6 H5 s5 t5 => ?_⟩
        exact ⟨v6, ahl c r, _, rfl, s2.trans (s3.trans (s4.trans s5)), t5, ahl_row rr b.1 (by omega), by rw [ahl_length]; exact rl, by rw [inv_ahl rr b.1 (by omega), st]⟩
      · have z' : ¬ (falls (inv r)).contains c = true := fun y => z (by rw [← inV_int] at y; exact y)
        rw [if_neg z'] at st
        exact ⟨o, r, _, rfl, s2.trans (s3.trans s4), (hr2.same s3).same s4, rr, rl, by rw [st]⟩
    · rintro σ H2 ⟨o, r, v3, rfl, s2, hr2, rr, rl, re⟩
      rw [List.length_map, List.take_length] at re
      have r5 := rr.hi
      refine ⟨_, rfl, o, r, rfl, hr2.ti, by omega, fun H3 s3 => ⟨rfl, ?_⟩⟩
      have e1 : decide (V.int (invs r) = V.int 0) = decide (invs r = 0) := decide_eq_decide.mpr ⟨fun z => V.int.inj z, fun z => by rw [z]⟩
      show Q (.bl (decide (V.int (invs r) = V.int 0))) H3
      rw [e1, end_rows rr, re, rl]
      exact k _ ((s1.trans s2).trans s3)
theorem cal_l_is_signed_led_down (T : Txt K mg C) : Cal P w K mg base "_law_is_signed_led_down" 4 (spLSLed K) := by
  refine T.d_l_is_signed_led_down.cal (ps := ["_law_one", "_law_other"]) (fun f fd D => ?_) (fun _ _ _ _ _ _ us hl => match us, hl with | [_, _], _ => rfl)
  refine D.ok sc_l_is_signed_led_down (fun vs H Q E h => ?_) (fun cdv A outer s H vs Q E hr h => ?_)
  · obtain ⟨_, _, _, _, rfl, _⟩ := h
    rfl
  · obtain ⟨ov, wv, u, v, rfl, hov, hwv, hu, hv, he, k⟩ := h
    refine ⟨_, (pss_cons (ps_for PassesOwn.never rfl (pi_tup (pe_cal (Sg.cal_l_signed_word T) (hr.mono (by decide)) (by rfl) (pa_cons (pv 1) pa_nil))) (pg_name (i := 2) sc_l_is_signed_led_down.nd rfl (Or.inl rfl)) (pss_one (ps_if (pt_cmpR op_in_seq (pv 2) (pe_cal (Sg.cal_l_signed_right T) (hr.mono (by decide)) (by rfl) (pa_cons (pe_cal (Sg.cal_l_signed_undone T) (hr.mono (by decide)) (by rfl) (pa_cons (pv 0) pa_nil)) pa_nil)) (by rfl)) (pss_one (ps_set (i := 0) sc_l_is_signed_led_down.nd rfl (Or.inl rfl) (pe_cal (Sg.cal_l_signed_ahead T) (hr.mono (by decide)) (by rfl) (pa_cons (pv 2) (pa_cons (pv 0) pa_nil))))) pss_nil)))
      (pss_one (ps_ret (pe_and (pe_cmpR op_gt (pe_callB (cr_minTup rfl) (by rfl) T.b_min (by decide +kernel) (pa_cons (pv 0) pa_nil)) pe_int (nomark _)) (pe_one (pe_cmpR (op_eqD hr.units) (pe_callTy call_list_of (by rfl) T.b_list (by decide +kernel) (pa_cons (pv 0) pa_nil)) (pe_callB cr_sortTup (by rfl) T.b_sorted (by decide +kernel) (pa_cons (pv 0) pa_nil)) (nomark _))))))), ?_⟩
    refine ⟨_, rfl, wv, v, rfl, hwv, hv, fun v1 H1 s1 t1 => ?_⟩
    obtain ⟨wa, rfl, hwa⟩ := t1
    have hin : ∀ c ∈ Sg.W v, 0 ≤ c ∧ c < (u.length : Nat) := fun c hc => by
      have := Sg.nrm_in (Sg.inv_row hv) c hc
      rw [Sg.inv_length] at this
      omega
    refine ⟨wa, rfl, ⟨_, hwa⟩, for_tup (K := K) (a := wa) (xs := (Sg.W v).map V.int) (fun i σ H' => ∃ (o : V) (r : List Int) (v3 : Option V), σ = [some o, some wv, v3] ∧ Same H1 H' ∧ TI K H' o r ∧ Sg.IsRow r ∧ r.length = u.length ∧ Sg.inv r = Sg.ldn (Sg.inv u) ((Sg.W v).take i)) ⟨ov, u, none, rfl, .refl _, hov.same s1, hu, rfl, rfl⟩ (fun i σ H' _ h => by obtain ⟨_, _, _, _, h, _⟩ := h; exact sqT_same h hwa) ?_ ?_⟩
    · rintro i x σ H2 hi ⟨o, r, v3, rfl, s2, hr2, rr, rl, re⟩
      obtain ⟨c, hc, rfl⟩ := int_at hi
      have b := hin c (List.mem_of_getElem? hc)
      have ir := Sg.inv_row rr
      have st := Sg.ldn_snoc (q := Sg.inv u) hc
      rw [← re] at st
      refine ⟨_, rfl, _, rfl, o, r, rfl, hr2, rr, fun v4 H3 s3 t3 => ⟨v4, Sg.inv r, rfl, t3, ir, fun v5 H4 s4 t4 => ?_⟩⟩
      obtain ⟨ra, rfl, hra⟩ := t4
      refine ⟨ra, _, rfl, .inr hra, rfl, flat_ints _, _, rfl, ite2 (fun z => ?_) (fun z => ?_)⟩
      · have z' : (Sg.falls (Sg.inv r)).contains c = true := by rw [← inV_int]; exact z
        rw [if_pos z'] at st
        refine ⟨_, rfl, _, rfl, o, c, r, rfl, (hr2.same s3).same s4, rr, b.1, by omega, fun v6 H5 s5 t5 => ?_⟩
        exact ⟨v6, Sg.ahl c r, _, rfl, s2.trans (s3.trans (s4.trans s5)), t5, Sg.ahl_row rr b.1 (by omega), by rw [Sg.ahl_length]; exact rl, by rw [Sg.inv_ahl rr b.1 (by omega), st]⟩
      · have z' : ¬ (Sg.falls (Sg.inv r)).contains c = true := fun y => z (by rw [← inV_int] at y; exact y)
        rw [if_neg z'] at st
        exact ⟨o, r, _, rfl, s2.trans (s3.trans s4), (hr2.same s3).same s4, rr, rl, by rw [st]⟩
    · rintro σ H2 ⟨o, r, v3, rfl, s2, hr2, rr, rl, re⟩
      rw [List.length_map, List.take_length] at re
      have r2 := rr.lo
      have r5 := rr.hi
      obtain ⟨a, rfl, ha⟩ := id hr2
      have fin := Sg.end_rows rr
      rw [re, rl] at fin
      refine ⟨_, rfl, a, r, rfl, ha, by omega, fun m m1 m2 => ⟨_, _, rfl, rfl, _, rfl, ?_⟩⟩
      have pm : decide (0 < m) = Sg.posB r := by
        unfold Sg.posB
        rw [Bool.eq_iff_iff, decide_eq_true_iff, List.all_eq_true]
        exact ⟨fun h x hx => decide_eq_true (Int.lt_of_lt_of_le h (m2 x hx)), fun h => of_decide_eq_true (h m m1)⟩
      refine ite2 (fun z => ?_) (fun z => ?_)
      · have z' : decide (0 < m) = true := z
        rw [pm] at z'
        rw [z', Bool.true_and] at fin
        refine ⟨_, rfl, a, _, rfl, .inr ha, fun L nL => ?_⟩
        have s3 := same_new (o := .lst (r.map V.int)) nL
        refine ⟨_, rfl, a, r, rfl, sqT_same s3 ha, by omega, fun ns' p hp hs np => ?_⟩
        have s4 := same_new (o := .lst (ns'.map V.int)) np
        refine ⟨.list (r.map PyData.int), .list (ns'.map PyData.int), .lst (.of (s4 _ _ upd_same)) (dInts _), .lst (.of upd_same) (dInts _), sh_L _, sh_L _, ?_⟩
        have e : decide (r = ns') = decide (r.Pairwise (· ≤ ·)) := decide_eq_decide.mpr ⟨fun y => y ▸ hs, fun y => hp.symm.eq_of_pairwise (fun a b _ _ h h2 => Int.le_antisymm h h2) y hs⟩
        rw [eqv_L, e, fin]
        exact k _ (s1.trans (s2.trans (s3.trans s4)))
      · have z' : ¬ decide (0 < m) = true := z
        rw [pm] at z'
        have z2 : Sg.posB r = false := by simpa using z'
        rw [z2, Bool.false_and] at fin
        rw [← fin] at k
        exact k _ (s1.trans s2)
end
end Sk

namespace Sk
open PySem L2 Ow
/-- the inner walk of two -/
theorem lc2_in {J : It} {n : Nat} {G : Hp → Prop} {Y : Nat → Hp → V → Hp → Prop} (w : Walk J n G Y) {g : TG} {tt : TT} {te : TE} {vs : List Nat} {σ : L2.St} {H1 : Hp} {D : Addr} {Nx : Hp → Prop} (Pv : Nat → Hp → Prop) (h0 : Pv 0 H1) (hG : ∀ i H, i ≤ n → Pv i H → G H)
    (hs : ∀ i x H H', i < n → Pv i H → Y i H x H' → g x (wipe σ vs) H' fun σ2 H2 => wipe σ2 vs = wipe σ vs ∧ tt σ2 H2 fun b H3 =>
      if b = true then te σ2 H3 fun y H4 => ∃ acc, H4 D = some (.lst acc) ∧ acc.length < sizeLine ∧ Pv (i + 1) (upd H4 D (.lst (acc ++ [y]))) else Pv (i + 1) H3) (hd : ∀ H, Pv n H → Nx H) :
    ∃ W : Nat → Nat → Hp → Prop, (∃ m, W 0 m H1) ∧ ∀ i m H, W i m H →
      (J.stop i H ∧ Nx H) ∨ (J.go i H ∧ ∃ Nx1 : Hp → Prop, (∀ H', Nx1 H' → ∃ m', m' < m ∧ W (i + 1) m' H') ∧ ∀ x H', J.yld i H x H' → g x (wipe σ vs) H' fun σ2 H2 => wipe σ2 vs = wipe σ vs ∧ tt σ2 H2 fun b H3 =>
        if b = true then te σ2 H3 fun y H4 => ∃ acc, H4 D = some (.lst acc) ∧ acc.length < sizeLine ∧ Nx1 (upd H4 D (.lst (acc ++ [y]))) else Nx1 H3) := by
  refine ⟨fun i m H => m = n - i ∧ i ≤ n ∧ Pv i H, ⟨n, by simp, Nat.zero_le _, h0⟩, ?_⟩
  rintro i m H ⟨rfl, hi, p⟩
  have q := hG i H hi p
  by_cases hlt : i < n
  · refine .inr ⟨w.goes i H hlt q, Pv (i + 1), fun H' p' => ⟨n - (i + 1), by omega, rfl, hlt, p'⟩, fun x H' y => hs i x H H' hlt p (w.yields i H x H' hlt q y)⟩
  · have e : i = n := by omega
    subst e
    exact .inl ⟨w.stops H q, hd H p⟩
/-- the outer walk of two -/
theorem lc2_out {J : It} {n : Nat} {G : Hp → Prop} {Y : Nat → Hp → V → Hp → Prop} (w : Walk J n G Y) {g : TG} {tt : TT} {R : L2.St → Hp → (Hp → Prop) → Prop} {vs : List Nat} {σ : L2.St} {H1 : Hp} {Qd : Hp → Prop} (Pv : Nat → Hp → Prop) (h0 : Pv 0 H1) (hG : ∀ i H, i ≤ n → Pv i H → G H)
    (hs : ∀ i x H H', i < n → Pv i H → Y i H x H' → g x (wipe σ vs) H' fun σ2 H2 => wipe σ2 vs = wipe σ vs ∧ tt σ2 H2 fun b H3 => if b = true then R σ2 H3 (Pv (i + 1)) else Pv (i + 1) H3) (hd : ∀ H, Pv n H → Qd H) :
    ∃ W : Nat → Nat → Hp → Prop, (∃ m, W 0 m H1) ∧ ∀ i m H, W i m H →
      (J.stop i H ∧ Qd H) ∨ (J.go i H ∧ ∃ Nx : Hp → Prop, (∀ H', Nx H' → ∃ m', m' < m ∧ W (i + 1) m' H') ∧ ∀ x H', J.yld i H x H' → g x (wipe σ vs) H' fun σ2 H2 => wipe σ2 vs = wipe σ vs ∧ tt σ2 H2 fun b H3 =>
        if b = true then R σ2 H3 Nx else Nx H3) := by
  refine ⟨fun i m H => m = n - i ∧ i ≤ n ∧ Pv i H, ⟨n, by simp, Nat.zero_le _, h0⟩, ?_⟩
  rintro i m H ⟨rfl, hi, p⟩
  have q := hG i H hi p
  by_cases hlt : i < n
  · refine .inr ⟨w.goes i H hlt q, Pv (i + 1), fun H' p' => ⟨n - (i + 1), by omega, rfl, hlt, p'⟩, fun x H' y => hs i x H H' hlt p (w.yields i H x H' hlt q y)⟩
  · have e : i = n := by omega
    subst e
    exact .inl ⟨w.stops H q, hd H p⟩
theorem tld_len (f g r : List Int) : (tld f g r).length ≤ 2 * r.length := by
  unfold tld
  split
  · omega
  · rw [Sg.dbl_length]
    omega
theorem tld_pos (f g : List Int) {r : List Int} (h : 2 ≤ r.length) : 2 ≤ (tld f g r).length := by
  unfold tld
  split
  · exact h
  · rw [Sg.dbl_length]
    omega
theorem over_nat (F G : List Int) (i : Int) (j : Int) : over F G ((i.toNat : Nat) : Int) j = over F G i j := by
  unfold over
  rw [show (((i.toNat : Nat) : Int)).toNat = i.toNat by omega]
def keepB : V → Bool
  | .bl _ => true
  | _ => false
def spIsC (K : PySem.W.Frag) : Sp := fun vs H Q _ => ∃ (fv gv x : V) (f g : List Int) (c : Option (Int × Int)), vs = [fv, gv, x] ∧ TI K H fv f ∧ TI K H gv g ∧ 2 ≤ f.length ∧ f.length ≤ 5 ∧ g.length = f.length ∧ okR f ∧ okR g ∧ Near K H x c ∧ ∀ H', Same H H' → Q (.bl (crn (tld f g f) (tld f g g) c)) H'
def spLIsC (K : PySem.W.Frag) : Sp := fun vs H Q _ => ∃ (fv gv x : V) (f g : List Int) (c : Option (Int × Int)), vs = [fv, gv, x] ∧ TI K H fv f ∧ TI K H gv g ∧ f.length ≤ 10 ∧ g.length ≤ 10 ∧ Near K H x c ∧ ∀ H', Same H H' → Q (.bl (crn f g c)) H'
theorem Near.same {K : PySem.W.Frag} {H H' : Hp} {x : V} {c : Option (Int × Int)} (h : Near K H x c) (s : Same H H') : Near K H' x c := by
  cases h with
  | flat t k =>
    refine .flat (s := _) ?_ k
    cases t with
    | base t => cases t with
      | non => exact .base .non
      | bl b => exact .base (.bl b)
      | int i => exact .base (.int i)
      | str z => exact .base (.str z)
      | flt z => exact .base (.flt z)
      | lst e => exact .base (.lst (s _ _ e))
      | frz e => exact .base (.frz (s _ _ e))
      | tup e => exact .base (.tup (s _ _ e))
      | dK e => exact .base (.dK (s _ _ e))
      | dT e => exact .base (.dT (s _ _ e))
    | byt b => exact .byt b
    | set e => exact .set (s _ _ e)
    | kList a b => exact .kList a b
    | kTuple a b => exact .kTuple a b
    | kDict a b => exact .kDict a b
    | fTuple e => exact .fTuple (s _ _ e)
    | fDict e => exact .fDict (s _ _ e)
  | size q n => exact .size (sqT_same s q) n
  | bool q a b e => exact .bool (sqT_same s q) a b e
  | pair q => exact .pair (sqT_same s q)
section
variable {P : Program} {w : World} {K : PySem.W.Frag} {mg : Str → Option Value} {base : Heap} {C : Addr}
theorem cal_is_corner (T : Txt K mg C) : Cal P w K mg base "is_corner" 5 (spIsC K) := by
  refine T.d_is_corner.cal (ps := ["one", "other", "value"]) (fun f fd D => ?_) (fun _ _ _ _ _ _ us hl => match us, hl with | [_, _, _], _ => rfl)
  refine D.ok sc_is_corner (fun vs H Q E h => ?_) (fun cdv A outer s H vs Q E hr h => ?_)
  · obtain ⟨_, _, _, _, _, _, rfl, _⟩ := h
    rfl
  · obtain ⟨fv, gv, x, f, g, c, rfl, tf, tg, l2, l5, le, okf, okg, nr, k⟩ := h
    refine ⟨_, (pss_cons (ps_asg (pe_cal (cal_told_rows T) (hr.mono (by decide)) (by rfl) (pa_cons (pv 0) (pa_cons (pv 1) pa_nil))) (pg_tup (by rfl) (pgs_cons (pg_name (i := 3) sc_is_corner.nd rfl (Or.inl rfl)) (pgs_cons (pg_name (i := 4) sc_is_corner.nd rfl (Or.inl rfl)) pgs_nil))))
      (pss_cons (ps_if (PW.pt (pw_or (pt_not (pt_val (pe_callB call_isi (by rfl) T.b_isinstance (by decide +kernel) (pa_cons (pv 2) (pa_cons (pe_bltn (v := .ty "tuple") (by rfl) T.b_tuple (by decide +kernel) rfl) pa_nil))))) (pw_or1 (pt_cmpR op_ne (pe_callB call_len_seq (by rfl) T.b_len (by decide +kernel) (pa_cons (pv 2) pa_nil)) pe_int (nomark _))))) (pss_one (ps_ret pe_bl)) pss_nil)
      (pss_cons (ps_asg (pv 2) (pg_tup (by rfl) (pgs_cons (pg_name (i := 5) sc_is_corner.nd rfl (Or.inl rfl)) (pgs_cons (pg_name (i := 6) sc_is_corner.nd rfl (Or.inl rfl)) pgs_nil))))
      (pss_cons (ps_if (PW.pt (pw_or (pt_not (pt_val (pe_cal (cal_is_within2 T) (hr.mono (by decide)) (by rfl) (pa_cons (pv 5) (pa_cons pe_int (pa_cons (pe_callB call_len_seq (by rfl) T.b_len (by decide +kernel) (pa_cons (pv 3) pa_nil)) pa_nil)))))) (pw_or (pt_not (pt_val (pe_cal (cal_is_within2 T) (hr.mono (by decide)) (by rfl) (pa_cons (pv 6) (pa_cons (pe_callB (cr_minTup rfl) (by rfl) T.b_min (by decide +kernel) (pa_cons (pv 3) pa_nil)) (pa_cons (pe_callB (cr_maxTup rfl) (by rfl) T.b_max (by decide +kernel) (pa_cons (pv 3) pa_nil)) pa_nil)))))) (pw_or1 (pt_cmpR op_notIn_seq (pv 6) (pv 3) (by rfl)))))) (pss_one (ps_ret pe_bl)) pss_nil)
      (pss_one (ps_ret (pe_cal (cal_is_over T) (hr.mono (by decide)) (by rfl) (pa_cons (pv 3) (pa_cons (pv 4) (pa_cons (pv 5) (pa_cons (pv 6) pa_nil))))))))))), ?_⟩
    refine ⟨_, rfl, _, rfl, fv, gv, f, g, rfl, tf, tg, l2, l5, le, okf, okg, fun t xv yv H1 s1 ht tx ty => ⟨_, _, rfl, ht, rfl, _, _, rfl, _, _, rfl, rfl, ?_⟩⟩
    have lF := tld_len f g f
    have lG := tld_len f g g
    have pF := tld_pos f g l2
    generalize tld f g f = F at *
    generalize tld f g g = G at *
    obtain ⟨xa, rfl, hxa⟩ := id tx
    obtain ⟨ya, rfl, hya⟩ := id ty
    have nr1 := nr.same s1
    -- two numbers in a tuple
    have two : ∀ (va : Addr) (a b : V), x = .ref va → SqT K H1 va [a, b] → IB a → IB b → (∀ H', Same H H' → Q (.bl (match a, b with | .int i, .int j => crn F G (some (i, j)) | _, _ => false)) H') → _ := fun va a b _ _ _ _ _ => True.intro
    clear two
    cases nr1 with
    | @flat _ sn ty0 kk =>
      exact ⟨_, rfl, _, _, _, _, false, rfl, .ty "tuple", ty0, kit_ty kk, _, rfl, iteT (iteT (k _ s1))⟩
    | @size va xs sq n2 =>
      refine ⟨_, rfl, _, _, .type "tuple", _, true, rfl, .ty "tuple", tup_ty sq, kit_ty (by decide +kernel), _, rfl, iteF ?_⟩
      refine ⟨_, rfl, _, _, rfl, .inr sq, rfl, _, rfl, ?_⟩
      rw [show (!decide (V.int ((xs.length : Nat) : Int) = V.int 2)) = true by
        rw [decide_eq_false (fun z => n2 (by have := V.int.inj z; omega))]
        rfl]
      exact iteT (k _ s1)
    | @bool va a b sq ia ib e =>
      refine ⟨_, rfl, _, _, .type "tuple", _, true, rfl, .ty "tuple", tup_ty sq, kit_ty (by decide +kernel), _, rfl, iteF ?_⟩
      refine ⟨_, rfl, _, _, rfl, .inr sq, rfl, _, rfl, iteF ?_⟩
      refine ⟨_, rfl, _, _, rfl, sq, rfl, _, _, rfl, _, _, rfl, rfl, ?_⟩
      refine ⟨_, rfl, _, rfl, _, _, rfl, .inr hxa, a, 1, _, rfl, ia, _, rfl, ?_⟩
      cases w1 : wB 1 (((F.map V.int).length : Nat) : Int) a with
      | false => exact iteT (iteT (k _ s1))
      | true =>
        refine iteF ⟨_, rfl, _, rfl, xa, F, rfl, hxa, by omega, fun m m1 m2 => ⟨_, rfl, xa, F, rfl, hxa, by omega, fun M M1 M2 => ⟨b, m, M, rfl, ib, _, rfl, ?_⟩⟩⟩
        cases w2 : wB m M b with
        | false => exact iteT (iteT (k _ s1))
        | true =>
          obtain ⟨z, e⟩ := e
          rcases e with rfl | rfl
          · cases w1
          · cases w2
    | @pair va i j sq =>
      refine ⟨_, rfl, _, _, .type "tuple", _, true, rfl, .ty "tuple", tup_ty sq, kit_ty (by decide +kernel), _, rfl, iteF ?_⟩
      refine ⟨_, rfl, _, _, rfl, .inr sq, rfl, _, rfl, iteF ?_⟩
      refine ⟨_, rfl, _, _, rfl, sq, rfl, _, _, rfl, _, _, rfl, rfl, ?_⟩
      refine ⟨_, rfl, _, rfl, _, _, rfl, .inr hxa, .int i, 1, _, rfl, .inl ⟨i, rfl⟩, _, rfl, ?_⟩
      have ll : (((F.map V.int).length : Nat) : Int) = (F.length : Nat) := by rw [List.length_map]
      rw [ll]
      have w1e : wB 1 (F.length : Nat) (.int i) = (decide (1 ≤ i) && decide (i ≤ (F.length : Nat))) := rfl
      have kk : Q (.bl (crn F G (some (i, j)))) H1 := k _ s1
      cases w1 : (decide (1 ≤ i) && decide (i ≤ ((F.length : Nat) : Int))) with
      | false =>
        rw [w1e, w1]
        have : crn F G (some (i, j)) = false := by
          show ((decide (1 ≤ i) && decide (i ≤ (F.length : Nat))) && F.contains j && over F G i j) = false
          rw [w1]
          rfl
        rw [this] at kk
        exact iteT (iteT kk)
      | true =>
        rw [w1e, w1]
        refine iteF ⟨_, rfl, _, rfl, xa, F, rfl, hxa, by omega, fun m m1 m2 => ⟨_, rfl, xa, F, rfl, hxa, by omega, fun M M1 M2 => ⟨.int j, m, M, rfl, .inl ⟨j, rfl⟩, _, rfl, ?_⟩⟩⟩
        have w2e : wB m M (.int j) = (decide (m ≤ j) && decide (j ≤ M)) := rfl
        rw [w2e]
        cases w2 : (decide (m ≤ j) && decide (j ≤ M)) with
        | false =>
          have nj : F.contains j = false := by
            rw [Bool.eq_false_iff]
            intro z
            have mj := List.contains_iff_mem.mp z
            rw [decide_eq_true (m2 j mj), decide_eq_true (M2 j mj)] at w2
            cases w2
          have : crn F G (some (i, j)) = false := by
            show ((decide (1 ≤ i) && decide (i ≤ (F.length : Nat))) && F.contains j && over F G i j) = false
            rw [nj, Bool.and_false]
            rfl
          rw [this] at kk
          exact iteT (iteT kk)
        | true =>
          refine iteF ⟨_, rfl, _, rfl, xa, _, rfl, .inr hxa, rfl, flat_ints _, _, rfl, ite2 (fun z => ?_) (fun z => ?_)⟩
          · have z' : (!F.contains j) = true := by rw [← inV_int]; exact z
            have nj : F.contains j = false := by simpa using z'
            have : crn F G (some (i, j)) = false := by
              show ((decide (1 ≤ i) && decide (i ≤ (F.length : Nat))) && F.contains j && over F G i j) = false
              rw [nj, Bool.and_false]
              rfl
            rw [this] at kk
            exact kk
          · have z' : ¬ (!F.contains j) = true := fun y => z (by rw [← inV_int] at y; exact y)
            have yj : F.contains j = true := by simpa using z'
            have e : crn F G (some (i, j)) = over F G i j := by
              show ((decide (1 ≤ i) && decide (i ≤ (F.length : Nat))) && F.contains j && over F G i j) = _
              rw [w1, yj]
              rfl
            have i1 : 1 ≤ i := by
              rw [Bool.and_eq_true, decide_eq_true_iff] at w1
              exact w1.1
            refine ⟨_, rfl, _, rfl, _, rfl, _, rfl, .ref xa, .ref ya, F, G, i.toNat, j, by (rw [show ((i.toNat : Nat) : Int) = i by omega]; rfl), tx, ty, by omega, by omega, fun H2 s2 => ?_⟩
            rw [over_nat, ← e]
            exact k _ (s1.trans s2)
theorem cal_l_is_corner (T : Txt K mg C) : Cal P w K mg base "_law_is_corner" 1 (spLIsC K) := by
  refine T.d_l_is_corner.cal (ps := ["_law_one", "_law_other", "_law_value"]) (fun f fd D => ?_) (fun _ _ _ _ _ _ us hl => match us, hl with | [_, _, _], _ => rfl)
  refine D.ok sc_l_is_corner (fun vs H Q E h => ?_) (fun cdv A outer s H vs Q E hr h => ?_)
  · obtain ⟨_, _, _, _, _, _, rfl, _⟩ := h
    rfl
  · obtain ⟨_, _, x, F, G, c, rfl, ⟨xa, rfl, hxa⟩, ⟨ya, rfl, hya⟩, lF, lG, nr, k⟩ := h
    refine ⟨_, (pss_cons (ps_if (PW.pt (pw_or (pt_not (pt_val (pe_callB call_isi (by rfl) T.b_isinstance (by decide +kernel) (pa_cons (pv 2) (pa_cons (pe_bltn (v := .ty "tuple") (by rfl) T.b_tuple (by decide +kernel) rfl) pa_nil))))) (pw_or1 (pt_cmpR op_ne (pe_callB call_len_seq (by rfl) T.b_len (by decide +kernel) (pa_cons (pv 2) pa_nil)) pe_int (nomark _))))) (pss_one (ps_ret pe_bl)) pss_nil)
      (pss_cons (ps_if (pt_cmpR (op_neD hr.units) (pe_lc (own := [("_law_entry", 3)]) (g := gName 3) rfl sc_l_is_corner.nd (pi_tup (pv 2)) (blkOk_by (own := [("_law_entry", 3)]) (N := ["_law_one", "_law_other", "_law_value", "_law_entry", "_law_first"]) (sc := defScope s_l_is_corner) (by decide +kernel)) (fun _ _ _ _ _ => (pg_name (i := 3) sc_l_is_corner.nd rfl (Or.inl rfl))) (fun _ _ _ _ _ => (pts_one (PW.pt (pw_or (pt_not (pt_val (pe_callB (show CallR _ (.builtin "isinstance") (rIsi K) from call_isi) (by rfl) T.b_isinstance (by decide +kernel) (pa_cons (pv 3) (pa_cons (pe_bltn (v := .ty "int") (by rfl) T.b_int (by decide +kernel) rfl) pa_nil))))) (pw_or1 (pt_val (pe_callB (show CallR _ (.builtin "isinstance") (rIsi K) from call_isi) (by rfl) T.b_isinstance (by decide +kernel) (pa_cons (pv 3) (pa_cons (pe_bltn (v := .ty "bool") (by rfl) T.b_bool (by decide +kernel) rfl) pa_nil))))))))) (fun _ _ _ _ _ => (pv 3))) (pe_lst pa_nil) (nomark _)) (pss_one (ps_ret pe_bl)) pss_nil)
      (pss_cons (ps_if (PW.pt (pw_or (pt_not (pt_chain op_le op_le pe_int (pe_ix ix_tup (pv 2) pe_int (fun _ _ => rfl)) (pe_callB call_len_seq (by rfl) T.b_len (by decide +kernel) (pa_cons (pv 0) pa_nil)))) (pw_or1 (pt_cmpR op_notIn_seq (pe_ix ix_tup (pv 2) pe_int (fun _ _ => rfl)) (pv 0) (by rfl))))) (pss_one (ps_ret pe_bl)) pss_nil)
      (pss_cons (ps_set (i := 4) sc_l_is_corner.nd rfl (Or.inl rfl) (pe_callB call_len_seq (by rfl) T.b_len (by decide +kernel) (pa_cons (pe_lc (own := [("_law_entry", 3)]) (g := gName 3) rfl sc_l_is_corner.nd (pi_tup (pe_slice sl_tupA (pv 0) po_none (po_some (pe_ix ix_tup (pv 2) pe_int (fun _ _ => rfl))))) (blkOk_by (own := [("_law_entry", 3)]) (N := ["_law_one", "_law_other", "_law_value", "_law_entry", "_law_first"]) (sc := defScope s_l_is_corner) (by decide +kernel)) (fun _ _ _ _ _ => (pg_name (i := 3) sc_l_is_corner.nd rfl (Or.inl rfl))) (fun _ _ _ _ _ => (pts_one (pt_cmpR op_ge (pv 3) (pe_ix (show IxR _ (rIxT K) from ix_tup) (pv 2) pe_int (fun _ _ => rfl)) (nomark _)))) (fun _ _ _ _ _ => pe_int)) pa_nil)))
      (pss_one (ps_ret (pe_cmpR op_gt (pv 4) (pe_callB call_len_seq (by rfl) T.b_len (by decide +kernel) (pa_cons (pe_lc (own := [("_law_entry", 3)]) (g := gName 3) rfl sc_l_is_corner.nd (pi_tup (pe_slice sl_tupA (pv 1) po_none (po_some (pe_ix ix_tup (pv 2) pe_int (fun _ _ => rfl))))) (blkOk_by (own := [("_law_entry", 3)]) (N := ["_law_one", "_law_other", "_law_value", "_law_entry", "_law_first"]) (sc := defScope s_l_is_corner) (by decide +kernel)) (fun _ _ _ _ _ => (pg_name (i := 3) sc_l_is_corner.nd rfl (Or.inl rfl))) (fun _ _ _ _ _ => (pts_one (pt_cmpR op_ge (pv 3) (pe_ix (show IxR _ (rIxT K) from ix_tup) (pv 2) pe_int (fun _ _ => rfl)) (nomark _)))) (fun _ _ _ _ _ => pe_int)) pa_nil)) (nomark _)))))))), ?_⟩
    have bad : ∀ (va : Addr) (a b : V) (H' : Hp), True := fun _ _ _ _ => True.intro
    clear bad
    cases id nr with
    | @flat _ sn ty0 kk =>
      exact ⟨_, rfl, _, _, _, _, false, rfl, .ty "tuple", ty0, kit_ty kk, _, rfl, iteT (iteT (k _ (.refl _)))⟩
    | @size va xs sq n2 =>
      refine ⟨_, rfl, _, _, .type "tuple", _, true, rfl, .ty "tuple", tup_ty sq, kit_ty (by decide +kernel), _, rfl, iteF ?_⟩
      refine ⟨_, rfl, _, _, rfl, .inr sq, rfl, _, rfl, ?_⟩
      rw [show (!decide (V.int ((xs.length : Nat) : Int) = V.int 2)) = true by
        rw [decide_eq_false (fun z => n2 (by have := V.int.inj z; omega))]
        rfl]
      exact iteT (k _ (.refl _))
    | @bool va a b sq ia ib e =>
      refine ⟨_, rfl, _, _, .type "tuple", _, true, rfl, .ty "tuple", tup_ty sq, kit_ty (by decide +kernel), _, rfl, iteF ?_⟩
      refine ⟨_, rfl, _, _, rfl, .inr sq, rfl, _, rfl, iteF ?_⟩
      have hib : ∀ x ∈ [a, b], IB x := fun x m => by
        simp at m
        rcases m with rfl | rfl
        · exact ia
        · exact ib
      refine ⟨_, rfl, va, rfl, ⟨_, sq⟩, fun D1 nD1 => lc_tup (K := K) (a := va) (xs := [a, b]) (fun m H' => Same H H' ∧ H' D1 = some (.lst (([a, b].take m).filter keepB))) ⟨same_new nD1, upd_same⟩ (fun m H' _ h => sqT_same h.1 sq) ?_ ?_⟩
      · rintro m x H7 hj ⟨s7, hD7⟩
        have small : (([a, b].take m).filter keepB).length < sizeLine := small1000 (Nat.le_trans (List.length_filter_le _ _) (by rw [List.length_take]; simp; omega))
        rcases hib x (List.mem_of_getElem? hj) with ⟨i, rfl⟩ | ⟨z, rfl⟩
        · refine ⟨rfl, _, rfl, _, _, _, _, true, rfl, .ty "int", .base (.int i), kit_ty (by decide +kernel), _, rfl, iteF ?_⟩
          refine ⟨_, rfl, _, _, _, _, false, rfl, .ty "bool", .base (.int i), kit_ty (by decide +kernel), _, rfl, iteF ⟨s7, ?_⟩⟩
          rw [take_snoc hj, List.filter_append, List.filter_cons_of_neg (p := keepB) (by exact Bool.false_ne_true), List.filter_nil, List.append_nil]
          exact hD7
        · refine ⟨rfl, _, rfl, _, _, _, _, true, rfl, .ty "int", .base (.bl z), kit_ty (by decide +kernel), _, rfl, iteF ?_⟩
          refine ⟨_, rfl, _, _, _, _, true, rfl, .ty "bool", .base (.bl z), kit_ty (by decide +kernel), _, rfl, iteT ⟨_, rfl, _, hD7, small, same_off nD1 s7 off_upd, ?_⟩⟩
          rw [upd_same, take_snoc hj, List.filter_append, List.filter_cons_of_pos (p := keepB) rfl, List.filter_nil]
      · rintro H2 ⟨s2, hD1⟩
        rw [List.take_length] at hD1
        refine ⟨Nat.zero_le _, fun q nq => ?_⟩
        have sq2 := same_new (o := .lst []) nq
        have hk : ∀ x ∈ [a, b].filter keepB, IB x := fun x m => hib x (List.mem_filter.mp m).1
        refine ⟨.list (([a, b].filter keepB).map dv), .list [], .lst (.of (sq2 _ _ hD1)) (dp_ib hk), .lst (.of upd_same) .nil, sh_ib hk, sh_L [], ?_⟩
        rw [eqv_nil]
        have ne : (([a, b].filter keepB).map dv).isEmpty = false := by
          obtain ⟨z, e⟩ := e
          have : .bl z ∈ [a, b].filter keepB := List.mem_filter.mpr ⟨by rcases e with rfl | rfl <;> simp, rfl⟩
          cases hh : [a, b].filter keepB with
          | nil => rw [hh] at this; cases this
          | cons => rfl
        rw [ne]
        exact ⟨_, rfl, iteT (k _ (s2.trans sq2))⟩
    | @pair va i j sq =>
      have kk : ∀ H', Same H H' → Q (.bl (crn F G (some (i, j)))) H' := k
      have ce : crn F G (some (i, j)) = ((decide (1 ≤ i) && decide (i ≤ (F.length : Nat))) && F.contains j && over F G i j) := rfl
      refine ⟨_, rfl, _, _, .type "tuple", _, true, rfl, .ty "tuple", tup_ty sq, kit_ty (by decide +kernel), _, rfl, iteF ?_⟩
      refine ⟨_, rfl, _, _, rfl, .inr sq, rfl, _, rfl, iteF ?_⟩
      refine ⟨_, rfl, va, rfl, ⟨_, sq⟩, fun D1 nD1 => lc_tup (K := K) (a := va) (xs := [V.int i, V.int j]) (fun m H' => Same H H' ∧ H' D1 = some (.lst [])) ⟨same_new nD1, upd_same⟩ (fun m H' _ h => sqT_same h.1 sq) ?_ ?_⟩
      · rintro m x H7 hj ⟨s7, hD7⟩
        obtain ⟨i, rfl⟩ : ∃ i, x = .int i := by
          have m := List.mem_of_getElem? hj
          simp at m
          rcases m with rfl | rfl
          · exact ⟨_, rfl⟩
          · exact ⟨_, rfl⟩
        refine ⟨rfl, _, rfl, _, _, _, _, true, rfl, .ty "int", .base (.int i), kit_ty (by decide +kernel), _, rfl, iteF ?_⟩
        exact ⟨_, rfl, _, _, _, _, false, rfl, .ty "bool", .base (.int i), kit_ty (by decide +kernel), _, rfl, iteF ⟨s7, hD7⟩⟩
      · rintro H2 ⟨s2, hD1⟩
        refine ⟨Nat.zero_le _, fun q nq => ?_⟩
        have sq2 := same_new (o := .lst []) nq
        refine ⟨.list [], .list [], .lst (.of (sq2 _ _ hD1)) .nil, .lst (.of upd_same) .nil, sh_L [], sh_L [], ?_⟩
        rw [eqv_nil]
        refine ⟨_, rfl, iteF ?_⟩
        have s3 := s2.trans sq2
        generalize upd H2 q (.lst []) = H3 at *
        have sq3 := sqT_same s3 sq
        have hxa3 := sqT_same s3 hxa
        have hya3 := sqT_same s3 hya
        have ll : (((F.map V.int).length : Nat) : Int) = (F.length : Nat) := by rw [List.length_map]
        have no : ((decide (1 ≤ i) && decide (i ≤ (F.length : Nat))) && F.contains j) = false → Q (.bl false) H3 := fun z => by
          have := kk _ s3
          rw [ce, z] at this
          exact this
        refine ⟨_, rfl, va, _, _, _, rfl, rfl, sq3, at_of (j := 0) rfl rfl, _, _, rfl, rfl, _, rfl, ?_⟩
        by_cases c1 : 1 ≤ i
        case neg =>
          rw [decide_eq_false c1] at *
          exact iteF ⟨_, rfl, iteT (iteT (no rfl))⟩
        rw [decide_eq_true c1] at *
        refine iteT ⟨_, rfl, _, _, rfl, .inr hxa3, _, _, rfl, rfl, _, rfl, ?_⟩
        rw [ll]
        by_cases c2 : i ≤ (F.length : Nat)
        case neg =>
          rw [decide_eq_false c2] at *
          exact iteT (iteT (no rfl))
        rw [decide_eq_true c2] at *
        refine iteF ?_
        refine ⟨_, rfl, va, _, _, _, rfl, rfl, sq3, at_of (j := 1) rfl rfl, _, rfl, xa, _, rfl, .inr hxa3, rfl, flat_ints _, _, rfl, ite2 (fun z => ?_) (fun z => ?_)⟩
        · have z' : (!F.contains j) = true := by rw [← inV_int]; exact z
          have nj : F.contains j = false := by simpa using z'
          exact no (by rw [nj]; rfl)
        · have z' : ¬ (!F.contains j) = true := fun y => z (by rw [← inV_int] at y; exact y)
          have yj : F.contains j = true := by simpa using z'
          rw [yj] at ce
          have ce : crn F G (some (i, j)) = over F G i j := ce
          refine ⟨_, rfl, ?_⟩
          dsimp only [tNoPart]
          refine ⟨_, rfl, va, _, _, _, rfl, rfl, sq3, at_of (j := 0) rfl rfl, _, rfl, slc_any hxa3 fun v4 H4 s4 hc1 => ?_⟩
          obtain ⟨c4, rfl, hc4⟩ := hc1
          rw [show i = ((i.toNat : Nat) : Int) by omega, Sg.cut_take, ← List.map_take] at hc4
          refine ⟨c4, rfl, ⟨_, hc4⟩, fun D5 nD5 => lc_tup (K := K) (a := c4) (xs := (F.take i.toNat).map V.int) (fun m H' => Same H4 H' ∧ H' D5 = some (.lst (((((F.take i.toNat).take m).filter fun e => decide (e ≥ j)).map fun _ => (1 : Int)).map V.int))) ⟨same_new nD5, upd_same⟩ (fun m H' _ h => sqT_same h.1 hc4) ?_ ?_⟩
          · rintro m x H7 hj ⟨s7, hD7⟩
            obtain ⟨o, ho, rfl⟩ := int_at hj
            have hlen : (((F.take i.toNat).take m).filter fun e => decide (e ≥ j)).length ≤ 100 := Nat.le_trans (List.length_filter_le _ _) (by rw [List.length_take, List.length_take]; omega)
            refine ⟨rfl, _, rfl, _, rfl, va, _, _, _, rfl, rfl, sqT_same (s4.trans s7) sq3, at_of (j := 1) rfl rfl, _, _, rfl, rfl, _, rfl, ite2 (fun z => ?_) (fun z => ?_)⟩
            · refine ⟨_, hD7, small1000 (by rw [List.length_map, List.length_map]; omega), same_off nD5 s7 off_upd, ?_⟩
              rw [upd_same, take_snoc ho, List.filter_append, List.filter_cons_of_pos (p := fun e => decide (e ≥ j)) z, List.filter_nil, List.map_append, List.map_append]
              rfl
            · refine ⟨s7, ?_⟩
              rw [take_snoc ho, List.filter_append, List.filter_cons_of_neg (p := fun e => decide (e ≥ j)) z, List.filter_nil, List.append_nil]
              exact hD7
          rintro H5 ⟨s5, hD5⟩
          rw [List.length_map, List.take_length] at hD5
          have s35 := s4.trans s5
          refine ⟨_, _, rfl, .inl (.of hD5), _, rfl, _, rfl, ?_⟩
          dsimp only [tNoPart]
          refine ⟨_, rfl, va, _, _, _, rfl, rfl, sqT_same s35 sq3, at_of (j := 0) rfl rfl, _, rfl, slc_any (sqT_same s35 hya3) fun v6 H6 s6 hc1 => ?_⟩
          obtain ⟨c6, rfl, hc6⟩ := hc1
          rw [show i = ((i.toNat : Nat) : Int) by omega, Sg.cut_take, ← List.map_take] at hc6
          refine ⟨c6, rfl, ⟨_, hc6⟩, fun D7 nD7 => lc_tup (K := K) (a := c6) (xs := (G.take i.toNat).map V.int) (fun m H' => Same H6 H' ∧ H' D7 = some (.lst (((((G.take i.toNat).take m).filter fun e => decide (e ≥ j)).map fun _ => (1 : Int)).map V.int))) ⟨same_new nD7, upd_same⟩ (fun m H' _ h => sqT_same h.1 hc6) ?_ ?_⟩
          · rintro m x H7 hj ⟨s7, hD8⟩
            obtain ⟨o, ho, rfl⟩ := int_at hj
            have hlen : (((G.take i.toNat).take m).filter fun e => decide (e ≥ j)).length ≤ 100 := Nat.le_trans (List.length_filter_le _ _) (by rw [List.length_take, List.length_take]; omega)
            refine ⟨rfl, _, rfl, _, rfl, va, _, _, _, rfl, rfl, sqT_same (s35.trans (s6.trans s7)) sq3, at_of (j := 1) rfl rfl, _, _, rfl, rfl, _, rfl, ite2 (fun z => ?_) (fun z => ?_)⟩
            · refine ⟨_, hD8, small1000 (by rw [List.length_map, List.length_map]; omega), same_off nD7 s7 off_upd, ?_⟩
              rw [upd_same, take_snoc ho, List.filter_append, List.filter_cons_of_pos (p := fun e => decide (e ≥ j)) z, List.filter_nil, List.map_append, List.map_append]
              rfl
            · refine ⟨s7, ?_⟩
              rw [take_snoc ho, List.filter_append, List.filter_cons_of_neg (p := fun e => decide (e ≥ j)) z, List.filter_nil, List.append_nil]
              exact hD8
          rintro H7 ⟨s7, hD7⟩
          rw [List.length_map, List.take_length] at hD7
          refine ⟨_, _, rfl, .inl (.of hD7), _, _, rfl, rfl, ?_⟩
          have := kk _ (s3.trans (s35.trans (s6.trans s7)))
          rw [ce] at this
          unfold over cnt at this
          simp only [List.length_map]
          exact this
end
end Sk

namespace Sk
open PySem L2 Ow
/-- the least corner, or None -/
def CoAt (K : PySem.W.Frag) (H : Hp) (v : V) (l : List (List Int)) : Prop := (l = [] ∧ v = .non) ∨ ∃ c cs, l = c :: cs ∧ TI K H v c
theorem CoAt.same {K : PySem.W.Frag} {H H' : Hp} {v : V} {l : List (List Int)} (h : CoAt K H v l) (s : Same H H') : CoAt K H' v l := by
  rcases h with h | ⟨c, cs, e, t⟩
  · exact .inl h
  · exact .inr ⟨c, cs, e, t.same s⟩
def spCorner (K : PySem.W.Frag) : Sp := fun vs H Q _ => ∃ (fv gv : V) (f g : List Int), vs = [fv, gv] ∧ TI K H fv f ∧ TI K H gv g ∧ 2 ≤ f.length ∧ f.length ≤ 5 ∧ g.length = f.length ∧ okR f ∧ okR g ∧ ∀ v H', Same H H' → CoAt K H' v (evr (tld f g f) (tld f g g)) → Q v H'
def spTaste : Sp := fun vs H Q _ => ∃ (p l : Addr) (xs : List V), vs = [.ref p, .ref l] ∧ VatAt H p ∧ H l = some (.lst xs) ∧ l ≠ p ∧ 0 < xs.length ∧ xs.length ≤ 1000 ∧ ∀ v H', v ∈ xs → Off p H H' → VatAt H' p → Q v H'
def evRow (F G : List Int) (i : Int) : List (List Int) := ((srt F).filter fun j => over F G i j).map fun j => [i, j]
theorem evr_row (F G : List Int) : evr F G = (up F.length).flatMap (evRow F G) := rfl
theorem up_get {n i : Nat} (h : i < n) : (up n)[i]? = some ((1 : Int) + (i : Nat)) := by
  unfold up
  rw [List.getElem?_map, List.getElem?_range h]
  rfl
theorem off_two {K : PySem.W.Frag} {D : Addr} {H H' : Hp} {acc : List V} {xs : List V} {bs : List (List Int)} (o : Off D H H') (hD : H D = some (.lst acc)) (h : TIs K H xs bs) : TIs K H' xs bs := o.tis hD h
section
variable {P : Program} {w : World} {K : PySem.W.Frag} {mg : Str → Option Value} {base : Heap} {C : Addr}
theorem cal_l_taste (T : Txt K mg C) : Cal P w K mg base "_law_taste" 2 spTaste := by
  refine T.d_l_taste.cal (ps := ["_law_vat_here", "_law_items"]) (fun f fd D => ?_) (fun _ _ _ _ _ _ us hl => match us, hl with | [_, _], _ => rfl)
  refine D.ok sc_l_taste (fun vs H Q E h => ?_) (fun cdv A outer s H vs Q E hr h => ?_)
  · obtain ⟨p, l, xs, rfl, _⟩ := h
    rfl
  · obtain ⟨p, l, xs, rfl, hb, hl, ne, h0, h1, k⟩ := h
    refine ⟨_, (pss_one (ps_ret (pe_ix ix_list (pv 1) (pe_cal (cal_l_sip T) (hr.mono (by decide)) (by rfl) (pa_cons (pv 0) (pa_cons (pe_callB call_len_seq (by rfl) T.b_len (by decide +kernel) (pa_cons (pv 1) pa_nil)) pa_nil))) (fun _ _ => rfl)))), ?_⟩
    refine ⟨_, rfl, _, rfl, _, rfl, _, _, rfl, .inl (.of hl), p, _, rfl, by omega, B8 (by omega), hb, fun r H1 r0 r1 same b1 => ?_⟩
    have hi : r.toNat < xs.length := by omega
    exact ⟨_, _, _, _, rfl, rfl, .of (same _ _ ne hl), at_of (j := r.toNat) (by omega) (List.getElem?_eq_getElem hi), k _ _ (List.getElem_mem hi) same b1⟩
theorem cal_corner (T : Txt K mg C) : Cal P w K mg base "corner" 5 (spCorner K) := by
  refine T.d_corner.cal (ps := ["one", "other"]) (fun f fd D => ?_) (fun _ _ _ _ _ _ us hl => match us, hl with | [_, _], _ => rfl)
  refine D.ok sc_corner (fun vs H Q E h => ?_) (fun cdv A outer s H vs Q E hr h => ?_)
  · obtain ⟨_, _, _, _, rfl, _⟩ := h
    rfl
  · obtain ⟨fv, gv, f, g, rfl, tf, tg, l2, l5, le, okf, okg, k⟩ := h
    refine ⟨_, (pss_cons (ps_asg (pe_cal (cal_told_rows T) (hr.mono (by decide)) (by rfl) (pa_cons (pv 0) (pa_cons (pv 1) pa_nil))) (pg_tup (by rfl) (pgs_cons (pg_name (i := 2) sc_corner.nd rfl (Or.inr rfl)) (pgs_cons (pg_name (i := 3) sc_corner.nd rfl (Or.inr rfl)) pgs_nil))))
      (pss_cons (ps_setLc2 (i := 4) (own := [("i", 5), ("j", 6)]) (vs1 := [6]) (g := gName 5) (g1 := gName 6) (tt := tYes) rfl sc_corner.nd rfl rfl (sw_true rfl rfl rfl (by decide +kernel)) (pi_range2 (by rfl) T.b_range (pa_cons pe_int (pa_cons (pe_op op_add (pe_callB call_len_seq (by rfl) T.b_len (by decide +kernel) (pa_cons (pv 2) pa_nil)) pe_int) pa_nil))) (blkOk_by (own := [("i", 5), ("j", 6)]) (N := ["one", "other", "first", "second", "corners", "i", "j"]) (sc := defScope s_corner) (by decide +kernel)) (by decide) (fun _ _ _ _ _ => (pg_name (i := 5) sc_corner.nd rfl (Or.inl rfl))) (fun _ _ _ _ _ => pts_nil) (fun _ _ _ _ _ => (show PI _ _ _ (iList K (tCB (rSortT K) (tCons (tVar 2) tNil))) from (pi_list (pe_callB (show CallR _ (.builtin "sorted") (rSortT K) from cr_sortTup) (by rfl) T.b_sorted (by decide +kernel) (pa_cons (pv 2) pa_nil))))) (fun _ _ _ _ _ => (pg_name (i := 6) sc_corner.nd rfl (Or.inl rfl))) (fun _ _ _ _ _ => (pts_one (pt_val (pe_cal (cal_is_over T) (hr.mono (by decide)) (by rfl) (pa_cons (pv 2) (pa_cons (pv 3) (pa_cons (pv 5) (pa_cons (pv 6) pa_nil)))))))) (fun _ _ _ _ _ => (pe_tup (pa_cons (pv 5) (pa_cons (pv 6) pa_nil)))))
      (pss_one (ps_ret (pe_ifExp (pt_truth (pv 4) (by intro _; rfl)) (pe_ix ix_list (pv 4) pe_int (fun _ _ => rfl)) pe_non))))), ?_⟩
    refine ⟨_, rfl, _, rfl, fv, gv, f, g, rfl, tf, tg, l2, l5, le, okf, okg, fun t xv yv H1 s1 ht tx ty => ⟨_, _, rfl, ht, rfl, _, _, rfl, _, _, rfl, rfl, ?_⟩⟩
    have lF := tld_len f g f
    have lG := tld_len f g g
    have pF := tld_pos f g l2
    generalize tld f g f = F at *
    generalize tld f g g = G at *
    obtain ⟨xa, rfl, hxa⟩ := id tx
    obtain ⟨ya, rfl, hya⟩ := id ty
    refine ⟨_, rfl, _, _, rfl, .inr hxa, _, _, rfl, rfl, _, _, rfl, ⟨by decide, by decide, by rw [List.length_map]; omega, by rw [List.length_map]; omega⟩, ?_⟩
    rw [show ((((F.map V.int).length : Nat) : Int) + 1 - 1).toNat = F.length by rw [List.length_map]; omega]
    intro D1 nD1
    refine lc2_out (walk_range (lo := 1) (n := F.length)) (fun i H' => Same H1 H' ∧ ∃ ys, H' D1 = some (.lst ys) ∧ TIs K H' ys (((up F.length).take i).flatMap (evRow F G)) ∧ ys.length ≤ 10 * i) ⟨same_new nD1, [], upd_same, trivial, Nat.zero_le _⟩ (fun _ _ _ _ => trivial) ?_ ?_
    · rintro i x H2 _ hi ⟨s2, ys, hD, hy, hyl⟩ ⟨rfl, rfl⟩
      refine ⟨rfl, ?_⟩
      refine ⟨_, rfl, xa, F, rfl, sqT_same s2 hxa, by omega, fun ns' p hp hs np => ?_⟩
      have ens : ns' = srt F := srt_eq hp hs
      subst ens
      have sp := same_new (o := .lst ((srt F).map V.int)) np
      have pD : p ≠ D1 := (ne_of_none hD np).symm
      have ls : (srt F).length = F.length := (srt_perm F).length_eq
      refine ⟨p, rfl, ⟨_, .of upd_same⟩, lc2_in (walk_list (K := K) (a := p) (xs := (srt F).map V.int)) (fun j H' => Same H1 H' ∧ H' p = some (.lst ((srt F).map V.int)) ∧ ∃ ys, H' D1 = some (.lst ys) ∧ TIs K H' ys (((up F.length).take i).flatMap (evRow F G) ++ (((srt F).take j).filter fun j => over F G (1 + (i : Nat)) j).map fun j => [1 + ((i : Nat) : Int), j]) ∧ ys.length ≤ 10 * i + j) ⟨s2.trans sp, upd_same, ys, sp _ _ hD, by simpa using hy.same sp, by omega⟩ (fun j H' _ h => .of h.2.1) ?_ ?_⟩
      · rintro j y H4 _ hj ⟨s4, hpp, zs, hD4, hz, hzl⟩ ⟨rfl, hyj⟩
        obtain ⟨c, hc, rfl⟩ := int_at hyj
        have jl := (List.getElem?_eq_some_iff.mp hc).1
        refine ⟨rfl, ?_⟩
        refine ⟨_, rfl, _, rfl, _, rfl, _, rfl, .ref xa, .ref ya, F, G, i + 1, c, by (rw [show ((i + 1 : Nat) : Int) = (1 : Int) + (i : Nat) by omega]; rfl), ⟨xa, rfl, sqT_same s4 hxa⟩, ⟨ya, rfl, sqT_same s4 hya⟩, by omega, by omega, fun H5 s5 => ⟨_, rfl, ?_⟩⟩
        rw [show (((i + 1 : Nat)) : Int) = 1 + (i : Nat) by omega]
        have hD5 := s5 _ _ hD4
        cases ov : over F G (1 + (i : Nat)) c with
        | true =>
          refine iteT ⟨_, rfl, _, rfl, show 2 ≤ sizeLine by decide, fun q nq => ?_⟩
          have s6 := same_new (o := .tup [.int (1 + (i : Nat)), .int c]) nq
          have hD6 := s6 _ _ hD5
          refine ⟨zs, hD6, small1000 (by omega), same_off nD1 (s4.trans (s5.trans s6)) off_upd, ?_, _, upd_same, ?_, ?_⟩
          · rw [upd_ne pD]
            exact s6 _ _ (s5 _ _ hpp)
          · rw [take_snoc hc, List.filter_append, List.filter_cons_of_pos (p := fun j => over F G (1 + (i : Nat)) j) ov, List.filter_nil, List.map_append, ← List.append_assoc]
            exact (off_upd.tis hD6 ((hz.same s5).same s6)).snoc (off_upd.ti hD6 ⟨q, rfl, .of upd_same⟩)
          · rw [List.length_append, List.length_cons, List.length_nil]
            omega
        | false =>
          refine iteF ⟨s4.trans s5, s5 _ _ hpp, zs, hD5, ?_, by omega⟩
          rw [take_snoc hc, List.filter_append, List.filter_cons_of_neg (p := fun j => over F G (1 + (i : Nat)) j) (by rw [ov]; exact Bool.false_ne_true), List.filter_nil, List.append_nil]
          exact hz.same s5
      · rintro H4 ⟨s4, hpp, zs, hD4, hz, hzl⟩
        rw [List.length_map, List.take_length] at hz
        refine ⟨s4, zs, hD4, ?_, by rw [List.length_map] at hzl; omega⟩
        rw [take_snoc (up_get hi), List.flatMap_append, List.flatMap_cons, List.flatMap_nil, List.append_nil]
        exact hz
    · rintro H3 ⟨s3, ys, hD, hy, hyl⟩
      rw [List.take_of_length_le (by rw [up_length]; exact Nat.le_refl _), ← evr_row] at hy
      refine ⟨_, rfl, _, .inl ⟨_, .of hD, rfl⟩, ?_⟩
      have s13 := s1.trans s3
      cases ee : evr F G with
      | nil =>
        rw [ee] at hy k
        have : ys = [] := List.eq_nil_of_length_eq_zero hy.len
        subst this
        exact iteF (k _ _ s13 (.inl ⟨rfl, rfl⟩))
      | cons c cs =>
        rw [ee] at hy k
        rcases ys with _ | ⟨y, ys⟩
        · exact absurd hy id
        · exact iteT ⟨_, rfl, _, _, _, _, rfl, rfl, .of hD, at_of (j := 0) rfl rfl, k _ _ s13 (.inr ⟨c, cs, rfl, hy.1⟩)⟩
end
end Sk

namespace Sk
open PySem L2 Ow
/-! states of rows, led down -/
theorem bel_diffs {q : List Int} (h : IsRow q) {l : Int} (h0 : 0 ≤ l) (h1 : l < (q.length : Nat) - 1) : bel ((diffs q).getD l.toNat []) = (falls q).contains l :=
  eq_of_beq (rows_let (p := fun q l => bel ((diffs q).getD l.toNat []) == (falls q).contains l) (by decide +kernel) h h0 h1)
theorem Sg.bel_diffs {q : List Int} (h : Sg.IsRow q) {l : Int} (h0 : 0 ≤ l) (h1 : l < (q.length : Nat)) : bel ((Sg.diffs q).getD l.toNat []) = (Sg.falls q).contains l :=
  eq_of_beq (Sg.rows_let (p := fun q l => bel ((Sg.diffs q).getD l.toNat []) == (Sg.falls q).contains l) (by decide +kernel) h h0 h1)
theorem led_diffs : ∀ {ws q : List Int}, IsRow q → Lt q.length ws → ledA (rlk ((q.length : Nat) - 1)) (diffs q) ws = diffs (ldn q ws) ∧ IsRow (ldn q ws) ∧ (ldn q ws).length = q.length
  | [], q, h, _ => ⟨rfl, h, rfl⟩
  | l :: ws, q, h, hl => by
    have b := hl l (by simp)
    have s := stp_row h b.1 b.2
    have ih := led_diffs (ws := ws) s.1 (fun x hx => by rw [s.2]; exact hl x (by simp [hx]))
    rw [s.2] at ih
    have e1 : ldn q (l :: ws) = ldn (if (falls q).contains l then sw q l else q) ws := rfl
    have e2 : ledA (rlk ((q.length : Nat) - 1)) (diffs q) (l :: ws) = ledA (rlk ((q.length : Nat) - 1)) (if bel ((diffs q).getD l.toNat []) then putA (rlk ((q.length : Nat) - 1)) (diffs q) l else diffs q) ws := rfl
    have e3 : (if bel ((diffs q).getD l.toNat []) then putA (rlk ((q.length : Nat) - 1)) (diffs q) l else diffs q) = diffs (if (falls q).contains l then sw q l else q) := by
      rw [bel_diffs h b.1 b.2, put_diffs h b.1 b.2]
      split <;> rfl
    rw [e1, e2, e3]
    exact ih
theorem Sg.led_diffs : ∀ {ws q : List Int}, Sg.IsRow q → Sg.Lt q.length ws → ledA (Sg.rlk ((q.length : Nat))) (Sg.diffs q) ws = Sg.diffs (Sg.ldn q ws) ∧ Sg.IsRow (Sg.ldn q ws) ∧ (Sg.ldn q ws).length = q.length
  | [], q, h, _ => ⟨rfl, h, rfl⟩
  | l :: ws, q, h, hl => by
    have b := hl l (by simp)
    have s := Sg.stp_row h b.1 b.2
    have ih := Sg.led_diffs (ws := ws) s.1 (fun x hx => by rw [s.2]; exact hl x (by simp [hx]))
    rw [s.2] at ih
    have e1 : Sg.ldn q (l :: ws) = Sg.ldn (if (Sg.falls q).contains l then Sg.sw q l else q) ws := rfl
    have e2 : ledA (Sg.rlk ((q.length : Nat))) (Sg.diffs q) (l :: ws) = ledA (Sg.rlk ((q.length : Nat))) (if bel ((Sg.diffs q).getD l.toNat []) then putA (Sg.rlk ((q.length : Nat))) (Sg.diffs q) l else Sg.diffs q) ws := rfl
    have e3 : (if bel ((Sg.diffs q).getD l.toNat []) then putA (Sg.rlk ((q.length : Nat))) (Sg.diffs q) l else Sg.diffs q) = Sg.diffs (if (Sg.falls q).contains l then Sg.sw q l else q) := by
      rw [Sg.bel_diffs h b.1 b.2, Sg.put_diffs h b.1 b.2]
      split <;> rfl
    rw [e1, e2, e3]
    exact ih
theorem st_W {n : Nat} {u : List Int} (hu : IsRow u) (en : u.length = n) : stOf (nb 0 ((n : Int) - 1)) ((n : Int) - 1) (W u) = diffs (inv u) := by
  subst en
  have lw := W_lt hu
  rw [st_rows hu.lo hu.hi lw, ← inv_Rw hu.lo hu.hi _ lw, Rw_W hu]
theorem Sg.st_W {n : Nat} {u : List Int} (hu : Sg.IsRow u) (en : u.length = n) : stOf (Sg.sB n) n (Sg.W u) = Sg.diffs (Sg.inv u) := by
  subst en
  have lw := Sg.W_lt hu
  rw [Sg.st_rows hu.lo hu.hi lw, ← Sg.inv_Rw hu.lo hu.hi _ lw, Sg.Rw_W hu]
theorem under_rows {n : Nat} {u v : List Int} (hu : IsRow u) (hv : IsRow v) (eu : u.length = n) (ev : v.length = n) :
    (∀ i, i ≤ (W v).length → Fine (ledA (lkOf (nb 0 ((n : Int) - 1)) ((n : Int) - 1)) (stOf (nb 0 ((n : Int) - 1)) ((n : Int) - 1) (W u)) ((W v).take i))) ∧
    decide (ledA (lkOf (nb 0 ((n : Int) - 1)) ((n : Int) - 1)) (stOf (nb 0 ((n : Int) - 1)) ((n : Int) - 1) (W u)) (W v) = first ((n : Int) - 1).toNat) = decide (evr u v = []) := by
  have hi := inv_row hu
  have il := inv_length u
  have lv : Lt (inv u).length (W v) := by
    rw [il, eu, ← ev]
    exact W_lt hv
  rw [st_W hu eu]
  have lk : lkOf (nb 0 ((n : Int) - 1)) ((n : Int) - 1) = rlk (((inv u).length : Nat) - 1) := by rw [il, eu]; rfl
  rw [lk]
  refine ⟨fun i _ => ?_, ?_⟩
  · rw [(led_diffs hi (fun x hx => lv x (List.mem_of_mem_take hx))).1]
    exact fine_diffs _
  · obtain ⟨e1, e2, e3⟩ := led_diffs hi lv
    have e4 := end_state e2
    rw [e3, il] at e4
    rw [e1, show ((n : Int) - 1).toNat = u.length - 1 by omega, e4]
    exact low_rows hu hv (eu.trans ev.symm)
theorem Sg.under_rows {n : Nat} {u v : List Int} (hu : Sg.IsRow u) (hv : Sg.IsRow v) (eu : u.length = n) (ev : v.length = n) :
    (∀ i, i ≤ (Sg.W v).length → Fine (ledA (lkOf (Sg.sB n) n) (stOf (Sg.sB n) n (Sg.W u)) ((Sg.W v).take i))) ∧
    decide (ledA (lkOf (Sg.sB n) n) (stOf (Sg.sB n) n (Sg.W u)) (Sg.W v) = first ((n : Int)).toNat) = decide (evr (Sg.dbl u) (Sg.dbl v) = []) := by
  have hi := Sg.inv_row hu
  have il := Sg.inv_length u
  have lv : Sg.Lt (Sg.inv u).length (Sg.W v) := by
    rw [il, eu, ← ev]
    exact Sg.W_lt hv
  rw [Sg.st_W hu eu]
  have lk : lkOf (Sg.sB n) n = Sg.rlk (((Sg.inv u).length : Nat)) := by rw [il, eu]; rfl
  rw [lk]
  refine ⟨fun i _ => ?_, ?_⟩
  · rw [(Sg.led_diffs hi (fun x hx => lv x (List.mem_of_mem_take hx))).1]
    exact Sg.fine_diffs _
  · obtain ⟨e1, e2, e3⟩ := Sg.led_diffs hi lv
    have e4 := Sg.end_state e2
    rw [e3, il] at e4
    rw [e1, show ((n : Int)).toNat = u.length by omega, e4]
    exact Sg.low_signed hu hv (eu.trans ev.symm)
structure Pair (K : PySem.W.Frag) (H : Hp) (ov wv fv lv : V) (u v : List Int) (low : Bool) : Prop where
  one : TI K H ov u
  oth : TI K H wv v
  fst : TI K H fv (tld u v u)
  lst : TI K H lv (tld u v v)
  lo : 2 ≤ u.length
  hi : u.length ≤ 5
  len : v.length = u.length
  ok1 : okR u
  ok2 : okR v
  low : low = decide (evr (tld u v u) (tld u v v) = [])
def spPair (K : PySem.W.Frag) : Sp := fun vs H Q _ => ∃ (p : Addr), vs = [.ref p] ∧ VatAt H p ∧ ∀ (t : Addr) (ov wv fv lv : V) (u v : List Int) (low : Bool) (H' : Hp), Off p H H' → VatAt H' p → SqT K H' t [ov, wv, fv, lv, .bl low] → Pair K H' ov wv fv lv u v low → Q (.ref t) H'
theorem ne_bl {a b : Bool} (e : a = b) : (!decide (V.bl a = V.bl b)) = false := by rw [e]; simp
section
variable {P : Program} {w : World} {K : PySem.W.Frag} {mg : Str → Option Value} {base : Heap} {C : Addr}
theorem cal_l_pair (T : Txt K mg C) : Cal P w K mg base "_law_pair" 8 (spPair K) := by
  refine T.d_l_pair.cal (ps := ["_law_vat_here"]) (fun f fd D => ?_) (fun _ _ _ _ _ _ us hl => match us, hl with | [_], _ => rfl)
  refine D.ok sc_l_pair (fun vs H Q E h => ?_) (fun cdv A outer s H vs Q E hr h => ?_)
  · obtain ⟨_, rfl, _⟩ := h
    rfl
  · obtain ⟨p, rfl, hb, k⟩ := h
    refine ⟨_, (pss_cons (ps_par (i := 1) (j := 2) rfl sc_l_pair.nd rfl rfl (by decide) rfl rfl (pa_cons (pe_op op_add pe_int (pe_cal (cal_l_sip T) (hr.mono (by decide)) (by rfl) (pa_cons (pv 0) (pa_cons pe_int pa_nil)))) (pa_cons (pe_cal (cal_l_sip T) (hr.mono (by decide)) (by rfl) (pa_cons (pv 0) (pa_cons pe_int pa_nil))) pa_nil)) rfl)
      (pss_cons (ps_if (pt_cmpR op_gt (pv 2) pe_int (nomark _)) (pss_cons (ps_par (i := 3) (j := 4) rfl sc_l_pair.nd rfl rfl (by decide) rfl rfl (pa_cons (pe_cal (cal_l_some_row T) (hr.mono (by decide)) (by rfl) (pa_cons (pv 0) (pa_cons (pv 1) pa_nil))) (pa_cons (pe_cal (cal_l_some_row T) (hr.mono (by decide)) (by rfl) (pa_cons (pv 0) (pa_cons (pv 1) pa_nil))) pa_nil)) rfl)
      (pss_cons (ps_set (i := 5) sc_l_pair.nd rfl (Or.inl rfl) (pe_cal (cal_l_is_led_down T) (hr.mono (by decide)) (by rfl) (pa_cons (pv 3) (pa_cons (pv 4) pa_nil))))
      (pss_cons (ps_if (pt_cmpR op_ne (pe_cal (cal_is_under T) (hr.mono (by decide)) (by rfl) (pa_cons (pe_cRows T (hr.mono (by decide)) (pe_glob (v := .ref C) (by rfl) T.mgSystem rfl) (pa_cons (pv 1) pa_nil)) (pa_cons (pe_cal (cal_l_word T) (hr.mono (by decide)) (by rfl) (pa_cons (pv 3) pa_nil)) (pa_cons (pe_cal (cal_l_word T) (hr.mono (by decide)) (by rfl) (pa_cons (pv 4) pa_nil)) pa_nil)))) (pv 5) (nomark _)) (pss_one (ps_ret pe_non)) pss_nil)
      (pss_one (ps_ret (pe_tup (pa_cons (pv 3) (pa_cons (pv 4) (pa_cons (pv 3) (pa_cons (pv 4) (pa_cons (pv 5) pa_nil))))))))))) pss_nil)
      (pss_cons (ps_set (i := 1) sc_l_pair.nd rfl (Or.inl rfl) (pe_op op_add pe_int (pe_op op_mod (pv 1) pe_int)))
      (pss_cons (ps_par (i := 3) (j := 4) rfl sc_l_pair.nd rfl rfl (by decide) rfl rfl (pa_cons (pe_cal (Sg.cal_l_some_signed T) (hr.mono (by decide)) (by rfl) (pa_cons (pv 0) (pa_cons (pv 1) pa_nil))) (pa_cons (pe_cal (Sg.cal_l_some_signed T) (hr.mono (by decide)) (by rfl) (pa_cons (pv 0) (pa_cons (pv 1) pa_nil))) pa_nil)) rfl)
      (C8.pss_cut (ps_set (i := 3) sc_l_pair.nd rfl (Or.inl rfl) (pe_ifExp (pt_cmpR op_gt (pe_callB (cr_minTup rfl) (by rfl) T.b_min (by decide +kernel) (pa_cons (pe_op op_catA (pv 3) (pv 4)) pa_nil)) pe_int (nomark _)) (pe_op op_catA (pe_tup (pa_cons (pe_op op_sub pe_int (pe_ix ix_tup (pv 3) pe_int (fun _ _ => rfl))) pa_nil)) (pe_slice sl_tupA (pv 3) (po_some pe_int) po_none)) (pv 3)))
      (pss_cons (ps_set (i := 5) sc_l_pair.nd rfl (Or.inl rfl) (pe_cal (cal_l_is_signed_led_down T) (hr.mono (by decide)) (by rfl) (pa_cons (pv 3) (pa_cons (pv 4) pa_nil))))
      (pss_cons (ps_if (pt_cmpR op_ne (pe_cal (cal_is_under T) (hr.mono (by decide)) (by rfl) (pa_cons (Sg.pe_cSigned T (hr.mono (by decide)) (pe_glob (v := .ref C) (by rfl) T.mgSystem rfl) (pa_cons (pv 1) pa_nil)) (pa_cons (pe_cal (Sg.cal_l_signed_word T) (hr.mono (by decide)) (by rfl) (pa_cons (pv 3) pa_nil)) (pa_cons (pe_cal (Sg.cal_l_signed_word T) (hr.mono (by decide)) (by rfl) (pa_cons (pv 4) pa_nil)) pa_nil)))) (pv 5) (nomark _)) (pss_one (ps_ret pe_non)) pss_nil)
      (pss_one (ps_ret (pe_tup (pa_cons (pv 3) (pa_cons (pv 4) (pa_cons (pe_cal (cal_l_doubled T) (hr.mono (by decide)) (by rfl) (pa_cons (pv 3) pa_nil)) (pa_cons (pe_cal (cal_l_doubled T) (hr.mono (by decide)) (by rfl) (pa_cons (pv 4) pa_nil)) (pa_cons (pv 5) pa_nil))))))))))))))), ?_⟩
    refine ⟨_, rfl, p, _, rfl, by decide, B8 (by decide), hb, fun z H0 z0 z1 o0 b0 => ⟨_, _, rfl, rfl, ?_⟩⟩
    refine ⟨_, rfl, p, _, rfl, by decide, B8 (by decide), b0, fun y H1 y0 y1 o1 b1 => ⟨_, _, rfl, ?_⟩⟩
    have oH1 := o0.trans o1
    refine ⟨_, rfl, _, _, rfl, rfl, _, rfl, ite2 (fun c => ?_) (fun c => ?_)⟩
    · obtain ⟨n, hn⟩ : ∃ n : Nat, (2 : Int) + z = n := ⟨(2 + z).toNat, by omega⟩
      have n2 : 2 ≤ n := by omega
      have n5 : n ≤ 5 := by omega
      refine ⟨_, rfl, _, rfl, p, (n : Int), by rw [← hn]; rfl, b1, by omega, by omega, fun rv u H2 o2 b2 r2 hu hul => ?_⟩
      refine ⟨_, rfl, _, rfl, p, (n : Int), by rw [← hn]; rfl, b2, by omega, by omega, fun qv v H3 o3 b3 q3 hv hvl => ⟨_, _, rfl, ?_⟩⟩
      have r3 := r2.but o3 b2
      have oH3 := oH1.trans (o2.trans o3)
      have eu : u.length = n := by omega
      have ev : v.length = n := by omega
      refine ⟨_, rfl, _, rfl, rv, qv, u, v, rfl, r3, q3, hu, hv, by omega, fun H4 s4 => ?_⟩
      have lo := low_rows hu hv (by omega)
      rw [lo]
      refine ⟨rfl, _, rfl, (n : Int), by rw [← hn], ⟨by omega, by omega⟩, fun sy bv H5 s5 nsy ys => ?_⟩
      have s45 := s4.trans s5
      refine ⟨_, rfl, rv, u, rfl, r3.same s45, hu, fun w1 H6 s6 t6 => ⟨_, rfl, qv, v, rfl, q3.same (s45.trans s6), hv, fun w2 H7 s7 t7 => ?_⟩⟩
      have lwu : Lt n (W u) := by rw [← eu]; exact W_lt hu
      have lwv : Lt n (W v) := by rw [← ev]; exact W_lt hv
      have lu := W_le hu
      have lv := W_le hv
      have nw := nw_rows n2 n5 lwv
      have rwv : Rw n (W v) = v := by rw [← ev]; exact Rw_W hv
      rw [rwv] at nw
      have ur := under_rows hu hv eu ev
      refine ⟨.ref sy, w1, w2, (n : Int) - 1, nb 0 ((n : Int) - 1), W u, W v, W v, rfl, ⟨sy, bv, rfl, SysAt.same ys (s6.trans s7), rows_valid n2 n5, t6.same s7, lwu, by omega⟩, t7, ⟨lwv, by omega⟩, nw, by omega, lwv, ur.1, fun H8 s8 => ?_⟩
      refine ⟨_, rfl, rfl, _, rfl, ?_⟩
      rw [ne_bl ur.2]
      refine iteF ?_
      have s48 := s45.trans (s6.trans (s7.trans s8))
      refine ⟨_, rfl, _, rfl, _, rfl, _, rfl, _, rfl, show 5 ≤ sizeLine by decide, fun t nt => ?_⟩
      have sT := same_new (o := .tup [rv, qv, rv, qv, .bl (decide (evr u v = []))]) nt
      have sA := s48.trans sT
      have e1 : tld u v u = u := by unfold tld; rw [ent_row hu, ent_row hv]; rfl
      have e2 : tld u v v = v := by unfold tld; rw [ent_row hu, ent_row hv]; rfl
      exact k t rv qv rv qv u v _ _ (oH3.trans (.of_same sA)) (b3.same sA) (.of upd_same) ⟨(r3.same sA).ti, (q3.same sA).ti, by rw [e1]; exact (r3.same sA).ti, by rw [e2]; exact (q3.same sA).ti, hu.lo, hu.hi, by omega, .inl (ent_row hu), .inl (ent_row hv), by rw [e1, e2]⟩
    · refine ⟨_, rfl, _, _, rfl, rfl, show (0 : Int) < 2 by decide, _, _, rfl, rfl, ?_⟩
      obtain ⟨n, hn⟩ : ∃ n : Nat, (2 : Int) + (2 + z) % 2 = n := ⟨(2 + (2 + z) % 2).toNat, by omega⟩
      have n2 : 2 ≤ n := by omega
      have n3 : n ≤ 3 := by omega
      refine ⟨_, rfl, _, rfl, p, (n : Int), by rw [← hn]; rfl, b1, by omega, by omega, fun rv u H2 o2 b2 r2 hu hul => ?_⟩
      refine ⟨_, rfl, _, rfl, p, (n : Int), by rw [← hn]; rfl, b2, by omega, by omega, fun qv v H3 o3 b3 q3 hv hvl => ⟨_, _, rfl, ?_⟩⟩
      have r3 := r2.but o3 b2
      have oH3 := oH1.trans (o2.trans o3)
      have eu : u.length = n := by omega
      have ev : v.length = n := by omega
      clear r2
      refine ⟨fun σ H => ∃ (ov : V) (u' : List Int) (v5 : Option V), σ = [some (.ref p), some (.int (2 + (2 + z) % 2)), some (.int y), some ov, some qv, v5] ∧ Same H3 H ∧ TI K H ov u' ∧ Sg.IsRow u' ∧ u'.length = n ∧ (Sg.posB u' && Sg.posB v) = false, ?_, ?_⟩
      · obtain ⟨ra, rfl, hra⟩ := id r3
        obtain ⟨qa, rfl, hqa⟩ := id q3
        refine ⟨_, rfl, _, rfl, cat_any hra hqa (by rw [List.length_map, List.length_map]; omega) fun cv H4 s4 hc => ?_⟩
        obtain ⟨ca, rfl, hca⟩ := hc
        rw [← List.map_append] at hca
        refine ⟨ca, u ++ v, rfl, hca, by rw [List.length_append]; omega, fun m m1 m2 => ⟨_, _, rfl, rfl, _, rfl, ite2 (fun c => ?_) (fun c => ?_)⟩⟩
        · have hra4 := sqT_same s4 hra
          refine ⟨_, rfl, ra, _, _, _, rfl, rfl, hra4, atL (i := 0) (by decide) (by omega), _, _, rfl, rfl, show 1 ≤ sizeLine by decide, fun t nt => ?_⟩
          have st := same_new (o := .tup [.int (0 - u.getD (0 : Int).toNat 0)]) nt
          have ht : SqT K (upd H4 t (.tup [.int (0 - u.getD (0 : Int).toNat 0)])) t ([0 - u.getD 0 0].map V.int) := .of upd_same
          refine ⟨_, rfl, _, rfl, ?_⟩
          dsimp only [tNoPart]
          refine slc_any (sqT_same st hra4) fun v5 H5 s5 hc5 => ?_
          obtain ⟨b, rfl, hb⟩ := hc5
          rw [show (1 : Int) = ((1 : Nat) : Int) from rfl, cut_drop, ← List.map_drop] at hb
          refine cat_any (sqT_same s5 ht) hb (by simp only [List.length_map, List.length_drop, List.length_cons, List.length_nil]; omega) fun v6 H6 s6 hc6 => ?_
          obtain ⟨d, rfl, hd⟩ := hc6
          rw [← List.map_append, Sg.behind0 hu] at hd
          have h2 := hu.lo
          have hh : u.getD 0 0 > 0 := by
            have : u.getD 0 0 ∈ u ++ v := List.mem_append_left _ (getD_in (by omega))
            exact Int.lt_of_lt_of_le (of_decide_eq_true c) (m2 _ this)
          refine ⟨.ref d, Sg.sw u 0, _, rfl, s4.trans (st.trans (s5.trans s6)), ⟨d, rfl, hd⟩, Sg.sw_row hu (by decide) (by omega), by rw [Sg.sw_length]; exact eu, ?_⟩
          have : Sg.posB (Sg.sw u 0) = false := by
            unfold Sg.posB
            rw [List.all_eq_false]
            refine ⟨(Sg.sw u 0).getD 0 0, getD_in (by rw [Sg.sw_length]; omega), ?_⟩
            rw [← Sg.behind0 hu]
            show ¬ decide (0 < 0 - u.getD 0 0) = true
            rw [decide_eq_true_iff]
            omega
          rw [this]
          rfl
        · refine ⟨_, rfl, .ref ra, u, _, rfl, s4, ⟨ra, rfl, sqT_same s4 hra⟩, hu, eu, ?_⟩
          have np : ¬ 0 < m := fun y => c (decide_eq_true y)
          rw [Bool.eq_false_iff]
          intro y
          rw [Bool.and_eq_true] at y
          unfold Sg.posB at y
          rw [List.all_eq_true, List.all_eq_true] at y
          rcases List.mem_append.mp m1 with h | h
          · exact np (of_decide_eq_true (y.1 m h))
          · exact np (of_decide_eq_true (y.2 m h))
      · clear r3 hu hul eu
        clear u
        rintro σ H4 ⟨ov, u, v5, rfl, s34, tu, hu, eu, np⟩
        have tv := q3.same s34
        refine ⟨_, rfl, _, rfl, ov, qv, u, v, rfl, tu, tv, hu, hv, by omega, fun H5 s5 => ?_⟩
        have lo := Sg.low_signed hu hv (by omega)
        rw [lo]
        refine ⟨rfl, _, rfl, (n : Int), by rw [← hn], ⟨by omega, by omega⟩, fun sy bv H6 s6 nsy ys => ?_⟩
        have s56 := s5.trans s6
        refine ⟨_, rfl, ov, u, rfl, tu.same s56, hu, fun w1 H7 s7 t7 => ⟨_, rfl, qv, v, rfl, tv.same (s56.trans s7), hv, fun w2 H8 s8 t8 => ?_⟩⟩
        have lwu : Sg.Lt n (Sg.W u) := by rw [← eu]; exact Sg.W_lt hu
        have lwv : Sg.Lt n (Sg.W v) := by rw [← ev]; exact Sg.W_lt hv
        have lu := Sg.W_le hu
        have lv := Sg.W_le hv
        have nw := Sg.nw_rows n2 n3 lwv
        have rwv : Sg.Rw n (Sg.W v) = v := by rw [← ev]; exact Sg.Rw_W hv
        rw [rwv] at nw
        have ur := Sg.under_rows hu hv eu ev
        refine ⟨.ref sy, w1, w2, (n : Int), Sg.sB n, Sg.W u, Sg.W v, Sg.W v, rfl, ⟨sy, bv, rfl, SysAt.same ys (s7.trans s8), Sg.rows_valid n2 n3, t7.same s8, lwu, by omega⟩, t8, ⟨lwv, by omega⟩, nw, by omega, lwv, ur.1, fun H9 s9 => ?_⟩
        refine ⟨_, rfl, rfl, _, rfl, ?_⟩
        rw [ne_bl ur.2]
        refine iteF ?_
        have s59 := s56.trans (s7.trans (s8.trans s9))
        refine ⟨_, rfl, _, rfl, _, rfl, ov, u, rfl, tu.same s59, by omega, fun dv1 HA sA tA => ⟨_, rfl, qv, v, rfl, (tv.same s59).same sA, by omega, fun dv2 HB sB tB => ⟨_, rfl, show 5 ≤ sizeLine by decide, fun t nt => ?_⟩⟩⟩
        have sT := same_new (o := .tup [ov, qv, dv1, dv2, .bl (decide (evr (Sg.dbl u) (Sg.dbl v) = []))]) nt
        have sC := s59.trans (sA.trans (sB.trans sT))
        have ee : (entB u 1 && entB v 1) = false := by rw [Sg.ent_pos hu, Sg.ent_pos hv]; exact np
        have e1 : tld u v u = Sg.dbl u := by unfold tld; rw [ee]; rfl
        have e2 : tld u v v = Sg.dbl v := by unfold tld; rw [ee]; rfl
        have u3 := hu.hi
        have sD := s34.trans sC
        exact k t ov qv dv1 dv2 u v _ _ (oH3.trans (.of_same sD)) (b3.same sD) (.of upd_same) ⟨tu.same sC, tv.same sC, by rw [e1]; exact (tA.same sB).same sT, by rw [e2]; exact tB.same sT, hu.lo, by omega, by omega, .inr ⟨hu.hi, Sg.ent_signed hu⟩, .inr ⟨hv.hi, Sg.ent_signed hv⟩, by rw [e1, e2]⟩
end
end Sk

namespace Sk
open PySem L2 Ow
theorem TIs.app {K : PySem.W.Frag} {H : Hp} : ∀ {xs : List V} {as : List (List Int)} {ys : List V} {bs : List (List Int)}, TIs K H xs as → TIs K H ys bs → TIs K H (xs ++ ys) (as ++ bs)
  | [], [], _, _, _, h => h
  | _ :: _, _ :: _, _, _, h, k => ⟨h.1, TIs.app h.2 k⟩
theorem Near.but {K : PySem.W.Frag} {H H' : Hp} {x : V} {c : Option (Int × Int)} {p : Addr} (h : Near K H x c) (o : Off p H H') (b : VatAt H p) (n : x ≠ .ref p) : Near K H' x c := by
  obtain ⟨_, _, _, hp⟩ := b
  cases h with
  | flat t k =>
    refine .flat (s := _) ?_ k
    cases t with
    | base t => cases t with
      | non => exact .base .non
      | bl b => exact .base (.bl b)
      | int i => exact .base (.int i)
      | str z => exact .base (.str z)
      | flt z => exact .base (.flt z)
      | lst e => exact .base (.lst (o _ _ (fun z => n (by rw [z])) e))
      | frz e => exact .base (.frz (o _ _ (fun z => n (by rw [z])) e))
      | tup e => exact .base (.tup (o _ _ (fun z => n (by rw [z])) e))
      | dK e => exact .base (.dK (o _ _ (fun z => n (by rw [z])) e))
      | dT e => exact .base (.dT (o _ _ (fun z => n (by rw [z])) e))
    | byt b => exact .byt b
    | set e => exact .set (o _ _ (fun z => n (by rw [z])) e)
    | kList a b => exact .kList a b
    | kTuple a b => exact .kTuple a b
    | kDict a b => exact .kDict a b
    | fTuple e => exact .fTuple (o _ _ (fun z => n (by rw [z])) e)
    | fDict e => exact .fDict (o _ _ (fun z => n (by rw [z])) e)
  | size q m => exact .size (o.sqT hp q) m
  | bool q a b e => exact .bool (o.sqT hp q) a b e
  | pair q => exact .pair (o.sqT hp q)
theorem crn_at {F G : List Int} {i : Nat} {c : Int} (hi : i < F.length) (hc : c ∈ srt F) : crn F G (some (1 + (i : Nat), c)) = over F G (1 + (i : Nat)) c := by
  show ((decide (1 ≤ 1 + ((i : Nat) : Int)) && decide (1 + ((i : Nat) : Int) ≤ (F.length : Nat))) && F.contains c && over F G (1 + (i : Nat)) c) = _
  rw [decide_eq_true (show (1 : Int) ≤ 1 + (i : Nat) by omega), decide_eq_true (show (1 : Int) + (i : Nat) ≤ (F.length : Nat) by omega), List.contains_iff_mem.mpr (mem_srt.mp hc)]
  rfl
theorem dL_nil (l : List (List Int)) : PyData.eqv (dL l) (.list []) = decide (l = []) := eqv_dL l []
def spRight (K : PySem.W.Frag) : Sp := fun vs H Q _ => ∃ (p : Addr), vs = [.ref p] ∧ VatAt H p ∧ ∀ H', Off p H H' → VatAt H' p → Q (.bl true) H'
section
variable {P : Program} {w : World} {K : PySem.W.Frag} {mg : Str → Option Value} {base : Heap} {C : Addr}
theorem cal_l_right (T : Txt K mg C) : Cal P w K mg base "_law_right" 9 (spRight K) := by
  refine T.d_l_right.cal (ps := ["_law_vat_here"]) (fun f fd D => ?_) (fun _ _ _ _ _ _ us hl => match us, hl with | [_], _ => rfl)
  refine D.ok sc_l_right (fun vs H Q E h => ?_) (fun cdv A outer s H vs Q E hr h => ?_)
  · obtain ⟨_, rfl, _⟩ := h
    rfl
  · obtain ⟨p, rfl, hb, k⟩ := h
    refine ⟨_, (pss_cons (ps_set (i := 1) sc_l_right.nd rfl (Or.inl rfl) (pe_cal (cal_l_pair T) (hr.mono (by decide)) (by rfl) (pa_cons (pv 0) pa_nil)))
      (pss_cons (ps_if (pt_cmpR op_isN (pv 1) pe_non (nomark _)) (pss_one (ps_ret pe_bl)) pss_nil)
      (pss_cons (ps_asg (pv 1) (pg_tup (by rfl) (pgs_cons (pg_name (i := 2) sc_l_right.nd rfl (Or.inl rfl)) (pgs_cons (pg_name (i := 3) sc_l_right.nd rfl (Or.inl rfl)) (pgs_cons (pg_name (i := 4) sc_l_right.nd rfl (Or.inr rfl)) (pgs_cons (pg_name (i := 5) sc_l_right.nd rfl (Or.inr rfl)) (pgs_cons (pg_name (i := 6) sc_l_right.nd rfl (Or.inl rfl)) pgs_nil)))))))
      (pss_cons (ps_set (i := 7) sc_l_right.nd rfl (Or.inl rfl) (pe_lst pa_nil))
      (pss_cons (ps_for PassesOwn.never rfl (pi_range2 (by rfl) T.b_range (pa_cons pe_int (pa_cons (pe_op op_add (pe_callB call_len_seq (by rfl) T.b_len (by decide +kernel) (pa_cons (pv 4) pa_nil)) pe_int) pa_nil))) (pg_name (i := 8) sc_l_right.nd rfl (Or.inr rfl)) (pss_one (ps_expr (pe_bm PySem.F.plainAttrs_list PySem.F.slot_list_extend PySem.F.type_list_extend mt_extend (pv 7) (pa_cons (pe_lc (own := [("_law_entry", 9)]) (g := gName 9) rfl sc_l_right.nd (pi_list (pe_callB cr_sortTup (by rfl) T.b_sorted (by decide +kernel) (pa_cons (pv 4) pa_nil))) (blkOk_by (own := [("_law_entry", 9)]) (N := ["_law_vat_here", "_law_told", "_law_one", "_law_other", "_law_first", "_law_last", "_law_is_low", "_law_every", "_law_at", "_law_entry", "_law_some", "_law_turn", "_law_near"]) (sc := defScope s_l_right) (by decide +kernel)) (fun _ _ _ _ _ => (pg_name (i := 9) sc_l_right.nd rfl (Or.inl rfl))) (fun _ _ _ _ _ => (pts_one (pt_val (pe_cal (cal_l_is_corner T) (hr.mono (by decide)) (by rfl) (pa_cons (pv 4) (pa_cons (pv 5) (pa_cons (pe_tup (pa_cons (pv 8) (pa_cons (pv 9) pa_nil))) pa_nil))))))) (fun _ _ _ _ _ => (pe_tup (pa_cons (pv 8) (pa_cons (pv 9) pa_nil))))) pa_nil)))))
      (C8.pss_cut (ps_if (PW.pt (pw_or (pt_cmpR op_ne (pv 6) (pe_cmpR (op_eqD hr.units) (pv 7) (pe_lst pa_nil) (nomark _)) (nomark _)) (pw_or1 (pt_cmpR (op_neD hr.units) (pe_cal (cal_corner T) (hr.mono (by decide)) (by rfl) (pa_cons (pv 2) (pa_cons (pv 3) pa_nil))) (pe_ifExp (pt_cmpR (op_neD hr.units) (pv 7) (pe_lst pa_nil) (nomark _)) (pe_ix ix_list (pv 7) pe_int (fun _ _ => rfl)) pe_non) (nomark _))))) (pss_one (ps_ret pe_bl)) pss_nil)
      (pss_cons (ps_set (i := 10) sc_l_right.nd rfl (Or.inl rfl) (pe_lst (pa_cons pe_non (pa_cons pe_int (pa_cons (pe_tup pa_nil) (pa_cons (pe_tup (pa_cons pe_int pa_nil)) (pa_cons (pe_tup (pa_cons pe_int (pa_cons pe_int (pa_cons pe_int pa_nil)))) (pa_cons (pe_lst (pa_cons pe_int (pa_cons pe_int pa_nil))) (pa_cons (pe_tup (pa_cons pe_bl (pa_cons pe_int pa_nil))) (pa_cons (pe_tup (pa_cons pe_int (pa_cons pe_bl pa_nil))) (pa_cons (pe_tup (pa_cons pe_int (pa_cons pe_int pa_nil))) (pa_cons (pe_tup (pa_cons (pe_op op_add (pe_callB call_len_seq (by rfl) T.b_len (by decide +kernel) (pa_cons (pv 4) pa_nil)) pe_int) (pa_cons pe_int pa_nil))) (pa_cons (pe_tup (pa_cons pe_int (pa_cons (pe_op op_mulW (pe_op op_pow pe_int pe_int) (pe_op op_pow pe_int pe_int)) pa_nil))) pa_nil)))))))))))))
      (pss_cons (ps_for PassesOwn.never rfl (pi_range1 (by rfl) T.b_range (pa_cons pe_int pa_nil)) (pg_name (i := 11) sc_l_right.nd rfl (Or.inl rfl)) (pss_cons (ps_set (i := 12) sc_l_right.nd rfl (Or.inl rfl) (pe_cal (cal_l_taste T) (hr.mono (by decide)) (by rfl) (pa_cons (pv 0) (pa_cons (pv 10) pa_nil))))
      (pss_one (ps_if (pt_cmpR op_ne (pe_cal (cal_is_corner T) (hr.mono (by decide)) (by rfl) (pa_cons (pv 2) (pa_cons (pv 3) (pa_cons (pv 12) pa_nil)))) (pe_cal (cal_l_is_corner T) (hr.mono (by decide)) (by rfl) (pa_cons (pv 4) (pa_cons (pv 5) (pa_cons (pv 12) pa_nil)))) (nomark _)) (pss_one (ps_ret pe_bl)) pss_nil))))
      (pss_cons (ps_for PassesOwn.never rfl (pi_range2 (by rfl) T.b_range (pa_cons (pe_op op_sub pe_int pe_int) (pa_cons (pe_op op_add (pe_callB call_len_seq (by rfl) T.b_len (by decide +kernel) (pa_cons (pv 4) pa_nil)) pe_int) pa_nil))) (pg_name (i := 8) sc_l_right.nd rfl (Or.inr rfl)) (pss_one (ps_for PassesOwn.never rfl (pi_range2 (by rfl) T.b_range (pa_cons (pe_op op_sub pe_int pe_int) (pa_cons pe_int pa_nil))) (pg_name (i := 9) sc_l_right.nd rfl (Or.inl rfl)) (pss_one (ps_if (pt_cmpR op_ne (pe_cal (cal_is_corner T) (hr.mono (by decide)) (by rfl) (pa_cons (pv 2) (pa_cons (pv 3) (pa_cons (pe_tup (pa_cons (pv 8) (pa_cons (pv 9) pa_nil))) pa_nil)))) (pe_cal (cal_l_is_corner T) (hr.mono (by decide)) (by rfl) (pa_cons (pv 4) (pa_cons (pv 5) (pa_cons (pe_tup (pa_cons (pv 8) (pa_cons (pv 9) pa_nil))) pa_nil)))) (nomark _)) (pss_one (ps_ret pe_bl)) pss_nil)))))
      (pss_one (ps_ret pe_bl))))))))))), ?_⟩
    refine ⟨_, rfl, p, rfl, hb, fun t ov wv fv lv u v low H1 o1 b1 ht pr => ?_⟩
    refine ⟨_, rfl, rfl, _, rfl, iteF ?_⟩
    refine ⟨_, rfl, _, _, rfl, ht, rfl, _, _, rfl, _, _, rfl, _, _, rfl, _, _, rfl, _, _, rfl, rfl, ?_⟩
    obtain ⟨tu, tv, tf, tl, l2, l5, le, ok1, ok2, elow⟩ := pr
    have lF := tld_len u v u
    have lG := tld_len u v v
    generalize hF : tld u v u = F at *
    generalize hG : tld u v v = G at *
    obtain ⟨fa, rfl, hfa⟩ := id tf
    obtain ⟨la, rfl, hla⟩ := id tl
    refine ⟨Nat.zero_le _, fun e ne => ?_⟩
    have s1 := same_new (o := .lst []) ne
    have nep : e ≠ p := vat_ne b1 ne
    refine ⟨_, rfl, _, _, rfl, .inr (sqT_same s1 hfa), _, _, rfl, rfl, _, _, rfl, ⟨by decide, by decide, by rw [List.length_map]; omega, by rw [List.length_map]; omega⟩, ?_⟩
    rw [show ((((F.map V.int).length : Nat) : Int) + 1 - 1).toNat = F.length by rw [List.length_map]; omega]
    refine for_range (lo := 1) (n := F.length) (fun i σ H' => Same H1 H' ∧ (∃ v8 v9 : Option V, σ = [some (.ref p), some (.ref t), some ov, some wv, some (.ref fa), some (.ref la), some (.bl low), some (.ref e), v8, v9, none, none, none]) ∧ ∃ ys, H' e = some (.lst ys) ∧ TIs K H' ys (((up F.length).take i).flatMap (evRow F G)) ∧ ys.length ≤ 10 * i) ⟨s1, ⟨none, none, rfl⟩, [], upd_same, trivial, Nat.zero_le _⟩ ?_ ?_
    · rintro i σ H2 hi ⟨s2, ⟨v8, v9, rfl⟩, ys, he, hy, hyl⟩
      refine ⟨_, rfl, .inl ⟨rfl, _, .of he⟩, _, rfl, fa, F, rfl, sqT_same s2 hfa, by omega, fun ns' q hp hs nq => ?_⟩
      have ens : ns' = srt F := srt_eq hp hs
      subst ens
      have sq := same_new (o := .lst ((srt F).map V.int)) nq
      have ls : (srt F).length = F.length := (srt_perm F).length_eq
      generalize hHq : upd H2 q (.lst ((srt F).map V.int)) = Hq at *
      have hq : Hq q = some (.lst ((srt F).map V.int)) := by rw [← hHq, upd_same]
      refine ⟨q, rfl, ⟨_, .of hq⟩, fun D2 nD2 => lc_list (K := K) (a := q) (xs := (srt F).map V.int) (fun j H' => Same Hq H' ∧ ∃ zs, H' D2 = some (.lst zs) ∧ TIs K H' zs ((((srt F).take j).filter fun j => over F G (1 + (i : Nat)) j).map fun j => [1 + ((i : Nat) : Int), j]) ∧ zs.length ≤ j) ⟨same_new nD2, [], upd_same, trivial, Nat.zero_le _⟩ (fun j H' _ h => .of (h.1 _ _ hq)) ?_ ?_⟩
      · rintro j y H4 hyj ⟨s4, zs, hD4, hz, hzl⟩
        obtain ⟨c, hc, rfl⟩ := int_at hyj
        have jl := (List.getElem?_eq_some_iff.mp hc).1
        have s14 := (s2.trans sq).trans s4
        refine ⟨rfl, _, rfl, _, rfl, _, rfl, _, rfl, show 2 ≤ sizeLine by decide, fun q2 nq2 => ?_⟩
        have s5 := same_new (o := .tup [.int (1 + (i : Nat)), .int c]) nq2
        refine ⟨.ref fa, .ref la, .ref q2, F, G, some (1 + (i : Nat), c), rfl, (tf.same s14).same s5, (tl.same s14).same s5, by omega, by omega, .pair (.of upd_same), fun H5 s6 => ⟨_, rfl, ?_⟩⟩
        rw [crn_at hi (List.mem_of_getElem? hc)]
        have s46 := s5.trans s6
        have hD5 := s46 _ _ hD4
        cases ov2 : over F G (1 + (i : Nat)) c with
        | true =>
          refine iteT ⟨_, rfl, _, rfl, show 2 ≤ sizeLine by decide, fun q3 nq3 => ?_⟩
          have s7 := same_new (o := .tup [.int (1 + (i : Nat)), .int c]) nq3
          have hD6 := s7 _ _ hD5
          refine ⟨zs, hD6, small1000 (by omega), same_off nD2 (s4.trans (s46.trans s7)) off_upd, _, upd_same, ?_, ?_⟩
          · rw [take_snoc hc, List.filter_append, List.filter_cons_of_pos (p := fun j => over F G (1 + (i : Nat)) j) ov2, List.filter_nil, List.map_append]
            exact (off_upd.tis hD6 ((hz.same s46).same s7)).snoc (off_upd.ti hD6 ⟨q3, rfl, .of upd_same⟩)
          · rw [List.length_append, List.length_cons, List.length_nil]
            omega
        | false =>
          refine iteF ⟨s4.trans s46, zs, hD5, ?_, by omega⟩
          rw [take_snoc hc, List.filter_append, List.filter_cons_of_neg (p := fun j => over F G (1 + (i : Nat)) j) (by rw [ov2]; exact Bool.false_ne_true), List.filter_nil, List.append_nil]
          exact hz.same s46
      · rintro H4 ⟨s4, zs, hD4, hz, hzl⟩
        rw [List.length_map, List.take_length] at hz
        rw [List.length_map] at hzl
        have s24 := sq.trans s4
        have he4 := s24 _ _ he
        refine ⟨e, D2, ys, zs, rfl, rfl, he4, hD4, szl (by omega), ?_⟩
        refine ⟨same_off ne (s2.trans s24) off_upd, ⟨_, _, rfl⟩, _, upd_same, ?_, ?_⟩
        · rw [take_snoc (up_get hi), List.flatMap_append, List.flatMap_cons, List.flatMap_nil, List.append_nil]
          exact TIs.app (off_upd.tis he4 (hy.same s24)) (off_upd.tis he4 hz)
        · rw [List.length_append]
          omega
    · rintro σ H2 ⟨s2, ⟨v8, v9, rfl⟩, ys, he, hy, hyl⟩
      rw [List.take_of_length_le (by rw [up_length]; exact Nat.le_refl _), ← evr_row] at hy
      have b2 := b1.same s2
      refine ⟨fun σ H => (∃ v8 v9 : Option V, σ = [some (.ref p), some (.ref t), some ov, some wv, some (.ref fa), some (.ref la), some (.bl low), some (.ref e), v8, v9, none, none, none]) ∧ Same H1 H, ?_, ?_⟩
      · -- is it low
        refine ⟨_, rfl, _, rfl, Nat.zero_le _, fun q1 nq1 => ?_⟩
        have s3 := same_new (o := .lst []) nq1
        refine ⟨dL (evr F G), .list [], .lst (.of (s3 _ _ he)) (hy.same s3).dp, .lst (.of upd_same) .nil, sh_dL _, sh_L [], ?_⟩
        rw [dL_nil]
        refine ⟨rfl, _, rfl, ?_⟩
        rw [ne_bl elow]
        refine iteF ?_
        have s23 := s2.trans s3
        refine ⟨_, rfl, _, rfl, ov, wv, u, v, rfl, tu.same s23, tv.same s23, l2, l5, le, ok1, ok2, fun cv H3 s4 hco => ?_⟩
        rw [hF, hG] at hco
        refine ⟨_, rfl, Nat.zero_le _, fun q2 nq2 => ?_⟩
        have s5 := same_new (o := .lst []) nq2
        have s25 := s3.trans (s4.trans s5)
        have he5 := s25 _ _ he
        have hy5 := hy.same s25
        refine ⟨dL (evr F G), .list [], .lst (.of he5) hy5.dp, .lst (.of upd_same) .nil, sh_dL _, sh_L [], ?_⟩
        rw [dL_nil]
        refine ⟨_, rfl, ?_⟩
        have s15 := s2.trans s25
        have hc5 := hco.same s5
        generalize hHc : upd H3 q2 (.lst []) = H5 at *
        rcases hc5 with ⟨e1, rfl⟩ | ⟨c, cs, e1, tc⟩
        · rw [e1]
          refine iteF ?_
          refine ⟨.none, .none, .non, .non, by decide, by decide, ?_⟩
          rw [show PyData.eqv .none .none = true by simp [PyData.eqv]]
          exact ⟨_, rfl, iteF ⟨⟨v8, v9, rfl⟩, s15⟩⟩
        · rw [e1] at hy5 ⊢
          rcases ys with _ | ⟨y, ys⟩
          · exact absurd hy5 id
          · refine iteT ⟨_, rfl, e, _, 0, y, rfl, rfl, .of he5, at_of (j := 0) rfl rfl, ?_⟩
            refine ⟨dT c, dT c, tc.dp, hy5.1.dp, sh_dT _, sh_dT _, ?_⟩
            rw [eqv_dT, decide_eq_true rfl]
            exact ⟨_, rfl, iteF ⟨⟨v8, v9, rfl⟩, s15⟩⟩
      · clear b2 he hy hyl ys s2
        clear v8 v9
        rintro σ H2 ⟨⟨v8, v9, rfl⟩, s2⟩
        have b2 := b1.same s2
        have tf2 := tf.same s2
        have tl2 := tl.same s2
        refine ⟨Nat.zero_le _, fun a0 n0 => ⟨show 1 ≤ sizeLine by decide, fun a1 n1 => ⟨show 3 ≤ sizeLine by decide, fun a2 n2 => ⟨show 2 ≤ sizeLine by decide, fun a3 n3 => ⟨show 2 ≤ sizeLine by decide, fun a4 n4 => ⟨show 2 ≤ sizeLine by decide, fun a5 n5 => ⟨show 2 ≤ sizeLine by decide, fun a6 n6 => ?_⟩⟩⟩⟩⟩⟩⟩
        have x0 := same_new (o := .tup []) n0
        have x1 := same_new (o := .tup [.int 1]) n1
        have x2 := same_new (o := .tup [.int 1, .int 2, .int 3]) n2
        have x3 := same_new (o := .lst [.int 1, .int 2]) n3
        have x4 := same_new (o := .tup [.bl true, .int 1]) n4
        have x5 := same_new (o := .tup [.int 1, .bl true]) n5
        have x6 := same_new (o := .tup [.int 0, .int 1]) n6
        have xA := x0.trans (x1.trans (x2.trans (x3.trans (x4.trans (x5.trans x6)))))
        have hfa6 := sqT_same (s2.trans xA) hfa
        refine ⟨_, rfl, _, _, rfl, .inr hfa6, _, _, rfl, rfl, show 2 ≤ sizeLine by decide, fun a7 n7 => ?_⟩
        have x7 := same_new (o := .tup [.int ((((F.map V.int).length : Nat) : Int) + 1), .int 1]) n7
        refine ⟨_, _, rfl, rfl, ⟨by decide, by decide, by decide⟩, _, _, rfl, rfl, ⟨by decide, by decide, by decide⟩, _, _, rfl, rfl, ?_, show 2 ≤ sizeLine by decide, fun a8 n8 => ?_⟩
        · exact B.ok (n := 300) (m := 300) (show ((10 : Int) ^ (60 : Int).toNat).natAbs < 2 ^ 300 by decide +kernel) (show ((10 : Int) ^ (10 : Int).toNat).natAbs < 2 ^ 300 by decide +kernel)
        have x8 := same_new (o := .tup [.int 2, .int ((10 : Int) ^ (60 : Int).toNat * (10 : Int) ^ (10 : Int).toNat)]) n8
        refine ⟨show 11 ≤ sizeLine by decide, fun L nL => ?_⟩
        have xL := same_new (o := .lst [.non, .int 0, .ref a0, .ref a1, .ref a2, .ref a3, .ref a4, .ref a5, .ref a6, .ref a7, .ref a8]) nL
        have y8 := x8.trans xL
        have y7 := x7.trans y8
        have y6 := x6.trans y7
        have y5 := x5.trans y6
        have y4 := x4.trans y5
        have y3 := x3.trans y4
        have y2 := x2.trans y3
        have y1 := x1.trans y2
        have y0 := x0.trans y1
        have c0 := b2.same x0
        have c1 := c0.same x1
        have c2 := c1.same x2
        have c3 := c2.same x3
        have c4 := c3.same x4
        have c5 := c4.same x5
        have c6 := c5.same x6
        have c7 := c6.same x7
        have c8 := c7.same x8
        have p0 := vat_ne b2 n0
        have p1 := vat_ne c0 n1
        have p2 := vat_ne c1 n2
        have p3 := vat_ne c2 n3
        have p4 := vat_ne c3 n4
        have p5 := vat_ne c4 n5
        have p6 := vat_ne c5 n6
        have p7 := vat_ne c6 n7
        have p8 := vat_ne c7 n8
        have pL := vat_ne c8 nL
        have cL := c8.same xL
        have sS := s2.trans y0
        have hL : (upd _ L (.lst [.non, .int 0, .ref a0, .ref a1, .ref a2, .ref a3, .ref a4, .ref a5, .ref a6, .ref a7, .ref a8])) L = some (.lst [.non, .int 0, .ref a0, .ref a1, .ref a2, .ref a3, .ref a4, .ref a5, .ref a6, .ref a7, .ref a8]) := upd_same (H := upd (upd (upd (upd (upd (upd (upd (upd (upd H2 a0 (.tup [])) a1 (.tup [.int 1])) a2 (.tup [.int 1, .int 2, .int 3])) a3 (.lst [.int 1, .int 2])) a4 (.tup [.bl true, .int 1])) a5 (.tup [.int 1, .bl true])) a6 (.tup [.int 0, .int 1])) a7 (.tup [.int ((((F.map V.int).length : Nat) : Int) + 1), .int 1])) a8 (.tup [.int 2, .int ((10 : Int) ^ (60 : Int).toNat * (10 : Int) ^ (10 : Int).toNat)]))
        have g0 := y1 _ _ (upd_same (H := H2) (a := a0) (o := .tup []))
        have g1 := y2 _ _ (upd_same (H := upd H2 a0 (.tup [])) (a := a1) (o := .tup [.int 1]))
        have g2 := y3 _ _ upd_same
        have g3 := y4 _ _ upd_same
        have g4 := y5 _ _ upd_same
        have g5 := y6 _ _ upd_same
        have g6 := y7 _ _ upd_same
        have g7 := y8 _ _ upd_same
        have g8 := xL _ _ upd_same
        generalize hHS : upd (upd (upd (upd (upd (upd (upd (upd (upd (upd H2 a0 (.tup [])) a1 (.tup [.int 1])) a2 (.tup [.int 1, .int 2, .int 3])) a3 (.lst [.int 1, .int 2])) a4 (.tup [.bl true, .int 1])) a5 (.tup [.int 1, .bl true])) a6 (.tup [.int 0, .int 1])) a7 (.tup [.int ((((F.map V.int).length : Nat) : Int) + 1), .int 1])) a8 (.tup [.int 2, .int ((10 : Int) ^ (60 : Int).toNat * (10 : Int) ^ (10 : Int).toNat)])) L (.lst [.non, .int 0, .ref a0, .ref a1, .ref a2, .ref a3, .ref a4, .ref a5, .ref a6, .ref a7, .ref a8]) = HS at *
        clear hHS y0 y1 y2 y3 y4 y5 y6 y7 y8 x0 x1 x2 x3 x4 x5 x6 x7 x8 xA xL c0 c1 c2 c3 c4 c5 c6 c7 c8 n0 n1 n2 n3 n4 n5 n6 n7 n8 nL hfa6
        have rp : ∀ {a : Addr}, a ≠ p → V.ref a ≠ V.ref p := fun h z => h (by injection z)
        have nearAll : ∀ x ∈ ([.non, .int 0, .ref a0, .ref a1, .ref a2, .ref a3, .ref a4, .ref a5, .ref a6, .ref a7, .ref a8] : List V), x ≠ .ref p ∧ ∃ c, Near K HS x c := fun x m => by
          simp only [List.mem_cons, List.not_mem_nil, or_false] at m
          rcases m with rfl | rfl | rfl | rfl | rfl | rfl | rfl | rfl | rfl | rfl | rfl
          · exact ⟨fun z => (by cases z), none, .flat (.base .non) (by decide +kernel)⟩
          · exact ⟨fun z => (by cases z), none, .flat (.base (.int 0)) (by decide +kernel)⟩
          · exact ⟨rp p0, none, .size (.of g0) (by decide)⟩
          · exact ⟨rp p1, none, .size (.of g1) (by decide)⟩
          · exact ⟨rp p2, none, .size (.of g2) (by decide)⟩
          · exact ⟨rp p3, none, .flat (.base (.lst g3)) (by decide +kernel)⟩
          · exact ⟨rp p4, none, .bool (.of g4) (.inr ⟨_, rfl⟩) (.inl ⟨_, rfl⟩) ⟨true, .inl rfl⟩⟩
          · exact ⟨rp p5, none, .bool (.of g5) (.inl ⟨_, rfl⟩) (.inr ⟨_, rfl⟩) ⟨true, .inr rfl⟩⟩
          · exact ⟨rp p6, _, .pair (.of g6)⟩
          · exact ⟨rp p7, _, .pair (.of g7)⟩
          · exact ⟨rp p8, _, .pair (.of g8)⟩
        have tuS := tu.same sS
        have tvS := tv.same sS
        have tfS := tf.same sS
        have tlS := tl.same sS
        generalize hI : ([.non, .int 0, .ref a0, .ref a1, .ref a2, .ref a3, .ref a4, .ref a5, .ref a6, .ref a7, .ref a8] : List V) = items at *
        have il : items.length = 11 := by rw [← hI]; rfl
        clear hI g0 g1 g2 g3 g4 g5 g6 g7 g8
        have oS : Off p H HS := o1.trans (.of_same sS)
        refine ⟨_, rfl, by decide, by decide, for_range (lo := 0) (n := 4) (fun i σ H' => Off p HS H' ∧ VatAt H' p ∧ ∃ v8 v9 v11 v12 : Option V, σ = [some (.ref p), some (.ref t), some ov, some wv, some (.ref fa), some (.ref la), some (.bl low), some (.ref e), v8, v9, some (.ref L), v11, v12]) ⟨.refl, cL, _, _, _, _, rfl⟩ ?_ ?_⟩
        · rintro i σ H3 hi ⟨k0, d0, v8, v9, v11, v12, rfl⟩
          refine ⟨_, rfl, _, rfl, p, L, items, rfl, d0, k0 _ _ pL hL, pL, by omega, by omega, fun x H4 mx o4 b4 => ?_⟩
          have k4 := k0.trans o4
          obtain ⟨xp, c, nr⟩ := nearAll x mx
          have nr4 := nr.but k4 cL xp
          refine ⟨_, rfl, _, rfl, _, rfl, ov, wv, x, u, v, c, rfl, tuS.but k4 cL, tvS.but k4 cL, l2, l5, le, ok1, ok2, nr4, fun H5 s5 => ?_⟩
          refine ⟨_, rfl, _, rfl, _, rfl, .ref fa, .ref la, x, F, G, c, rfl, (tfS.but k4 cL).same s5, (tlS.but k4 cL).same s5, by omega, by omega, nr4.same s5, fun H6 s6 => ?_⟩
          refine ⟨rfl, _, rfl, ?_⟩
          rw [hF, hG, ne_bl rfl]
          exact iteF ⟨k4.trans (.of_same (s5.trans s6)), (b4.same s5).same s6, _, _, _, _, rfl⟩
        · rintro σ H3 ⟨k0, d0, v8, v9, v11, v12, rfl⟩
          have tf3 := tfS.but k0 cL
          obtain ⟨_, e3, hfa3⟩ := id tf3
          cases e3
          refine ⟨_, _, rfl, rfl, _, rfl, _, _, rfl, .inr hfa3, _, _, rfl, rfl, _, _, rfl, ⟨by decide, by decide, by rw [List.length_map]; omega, by rw [List.length_map]; omega⟩, ?_⟩
          refine for_range (lo := 0 - 1) (fun i σ H' => Off p HS H' ∧ VatAt H' p ∧ ∃ v8 v9 v11 v12 : Option V, σ = [some (.ref p), some (.ref t), some ov, some wv, some (.ref fa), some (.ref la), some (.bl low), some (.ref e), v8, v9, some (.ref L), v11, v12]) ⟨k0, d0, _, _, _, _, rfl⟩ ?_ ?_
          · rintro i σ H4 hi ⟨k4, d4, v8, v9, v11, v12, rfl⟩
            refine ⟨_, _, rfl, rfl, _, _, rfl, ⟨by decide, by decide, by decide, by decide⟩, ?_⟩
            refine for_range (lo := 0 - 4) (fun _ σ H' => Off p HS H' ∧ VatAt H' p ∧ ∃ v9 v11 v12 : Option V, σ = [some (.ref p), some (.ref t), some ov, some wv, some (.ref fa), some (.ref la), some (.bl low), some (.ref e), some (.int (0 - 1 + (i : Nat))), v9, some (.ref L), v11, v12]) ⟨k4, d4, _, _, _, rfl⟩ ?_ ?_
            · rintro j σ H5 hj ⟨k5, d5, v9, v11, v12, rfl⟩
              refine ⟨_, rfl, _, rfl, _, rfl, _, rfl, show 2 ≤ sizeLine by decide, fun q nq => ?_⟩
              have sq := same_new (o := .tup [.int (0 - 1 + (i : Nat)), .int (0 - 4 + (j : Nat))]) nq
              refine ⟨ov, wv, .ref q, u, v, some (0 - 1 + (i : Nat), 0 - 4 + (j : Nat)), rfl, (tuS.but k5 cL).same sq, (tvS.but k5 cL).same sq, l2, l5, le, ok1, ok2, .pair (.of upd_same), fun H6 s6 => ?_⟩
              refine ⟨_, rfl, _, rfl, _, rfl, _, rfl, show 2 ≤ sizeLine by decide, fun q2 nq2 => ?_⟩
              have sq2 := same_new (o := .tup [.int (0 - 1 + (i : Nat)), .int (0 - 4 + (j : Nat))]) nq2
              have s56 := sq.trans (s6.trans sq2)
              refine ⟨.ref fa, .ref la, .ref q2, F, G, some (0 - 1 + (i : Nat), 0 - 4 + (j : Nat)), rfl, (tfS.but k5 cL).same s56, (tlS.but k5 cL).same s56, by omega, by omega, .pair (.of upd_same), fun H7 s7 => ?_⟩
              refine ⟨rfl, _, rfl, ?_⟩
              rw [hF, hG, ne_bl rfl]
              have s57 := s56.trans s7
              exact iteF ⟨k5.trans (.of_same s57), d5.same s57, _, _, _, rfl⟩
            · rintro σ H5 ⟨k5, d5, v9, v11, v12, rfl⟩
              exact ⟨k5, d5, _, _, _, _, rfl⟩
          · rintro σ H4 ⟨k4, d4, v8, v9, v11, v12, rfl⟩
            exact k _ (oS.trans k4) d4
end
end Sk

namespace Sk
open PySem L2 Ow
theorem evr_js {F G js : List Int} (h : js.Perm F) (s : js.Pairwise (· ≤ ·)) : evr F G = (up F.length).flatMap fun i => (js.filter fun j => over F G i j).map fun j => [i, j] := by
  rw [srt_eq h s]
  rfl
theorem CoAt.is {K : PySem.W.Frag} {H : Hp} {v : V} {l : List (List Int)} {c : List Int} (h : CoAt K H v l) (e : l.head? = some c) : TI K H v c := by
  rcases h with ⟨rfl, _⟩ | ⟨d, cs, rfl, t⟩
  · cases e
  · rw [show d = c by simpa using e] at t
    exact t
theorem CoAt.no {K : PySem.W.Frag} {H : Hp} {v : V} {l : List (List Int)} (h : CoAt K H v l) (e : l = []) : v = .non := by
  rcases h with ⟨_, z⟩ | ⟨d, cs, rfl, t⟩
  · exact z
  · cases e
theorem law1 : (evr (tld [2, 1, 3] [1, 3, 2] [2, 1, 3]) (tld [2, 1, 3] [1, 3, 2] [1, 3, 2])).head? = some [1, 2] := by
  rw [show tld [2, 1, 3] [1, 3, 2] [2, 1, 3] = [2, 1, 3] by decide +kernel, show tld [2, 1, 3] [1, 3, 2] [1, 3, 2] = [1, 3, 2] by decide +kernel, evr_js (js := [1, 2, 3]) (by decide) (by decide)]
  decide +kernel
theorem law2 : evr (tld [1, 2, 3] [3, 2, 1] [1, 2, 3]) (tld [1, 2, 3] [3, 2, 1] [3, 2, 1]) = [] := by
  rw [show tld [1, 2, 3] [3, 2, 1] [1, 2, 3] = [1, 2, 3] by decide +kernel, show tld [1, 2, 3] [3, 2, 1] [3, 2, 1] = [3, 2, 1] by decide +kernel, evr_js (js := [1, 2, 3]) (by decide) (by decide)]
  decide +kernel
theorem law3 : (evr (tld [-1, 2] [2, 1] [-1, 2]) (tld [-1, 2] [2, 1] [2, 1])).head? = some [2, 1] := by
  rw [show tld [-1, 2] [2, 1] [-1, 2] = [-2, 1, -1, 2] by decide +kernel, show tld [-1, 2] [2, 1] [2, 1] = [-1, -2, 2, 1] by decide +kernel, evr_js (js := [-2, -1, 1, 2]) (by decide) (by decide)]
  decide +kernel
theorem law4 : (evr (tld [2, 1] [-1, 2] [2, 1]) (tld [2, 1] [-1, 2] [-1, 2])).head? = some [1, -1] := by
  rw [show tld [2, 1] [-1, 2] [2, 1] = [-1, -2, 2, 1] by decide +kernel, show tld [2, 1] [-1, 2] [-1, 2] = [-2, 1, -1, 2] by decide +kernel, evr_js (js := [-2, -1, 1, 2]) (by decide) (by decide)]
  decide +kernel
theorem law5 : evr (tld [1, 2] [-1, 2] [1, 2]) (tld [1, 2] [-1, 2] [-1, 2]) = [] := by
  rw [show tld [1, 2] [-1, 2] [1, 2] = [-2, -1, 1, 2] by decide +kernel, show tld [1, 2] [-1, 2] [-1, 2] = [-2, 1, -1, 2] by decide +kernel, evr_js (js := [-2, -1, 1, 2]) (by decide) (by decide)]
  decide +kernel
theorem law6 : (evr (tld [-1, 2] [1, 2] [-1, 2]) (tld [-1, 2] [1, 2] [1, 2])).head? = some [2, 1] := by
  rw [show tld [-1, 2] [1, 2] [-1, 2] = [-2, 1, -1, 2] by decide +kernel, show tld [-1, 2] [1, 2] [1, 2] = [-2, -1, 1, 2] by decide +kernel, evr_js (js := [-2, -1, 1, 2]) (by decide) (by decide)]
  decide +kernel
def okRB (r : List Int) : Bool := entB r 1 || (decide (r.length ≤ 3) && entB r (-(r.length : Nat)))
theorem okR_of {r : List Int} (h : okRB r = true) : okR r := by
  unfold okRB at h
  rw [Bool.or_eq_true, Bool.and_eq_true, decide_eq_true_iff] at h
  exact h
def spLaw (K : PySem.W.Frag) : Sp := fun vs H Q _ => ∃ (a : Addr) (ns : List Int), vs = [.ref a] ∧ SqL K H a (ns.map V.int) ∧ ns.length ≤ 63 ∧ ∀ H', Q (.bl true) H'
section
variable {P : Program} {w : World} {K : PySem.W.Frag} {mg : Str → Option Value} {base : Heap} {C : Addr}
theorem ok_law (T : Txt K mg C) {f : Addr} {fd : FuncData} (D : Fun K "law" "law" s_law f fd) : FnOk P w K mg base CX0 11 f fd ["_law_script"] (spLaw K) := by
  refine D.ok sc_law (fun vs H Q E h => ?_) (fun cdv A outer s H vs Q E hr h => ?_)
  · obtain ⟨a, ns, rfl, _⟩ := h
    rfl
  · obtain ⟨sa, ns, rfl, hs, hlen, k⟩ := h
    refine ⟨_, (pss_cons (ps_for PassesOwn.never rfl (pi_range1 (by rfl) T.b_range (pa_cons (pe_callB (call_max2 rfl) (by rfl) T.b_max (by decide +kernel) (pa_cons pe_int (pa_cons (pe_callB (call_min2 rfl) (by rfl) T.b_min (by decide +kernel) (pa_cons pe_int (pa_cons (pe_callB call_len_seq (by rfl) T.b_len (by decide +kernel) (pa_cons (pv 0) pa_nil)) pa_nil))) pa_nil))) pa_nil)) (pg_name (i := 1) sc_law.nd rfl (Or.inl rfl)) (pss_cons (ps_set (i := 2) sc_law.nd rfl (Or.inl rfl) (pe_cal (cal_l_vat T) (hr.mono (by decide)) (by rfl) (pa_cons (pv 0) (pa_cons (pv 1) pa_nil))))
      (pss_one (ps_if (PW.pt (pw_or (pt_not (pt_val (pe_cal (cal_l_right T) (hr.mono (by decide)) (by rfl) (pa_cons (pv 2) pa_nil)))) (pw_or1 (pt_not (pt_val (pe_cal (cal_l_right T) (hr.mono (by decide)) (by rfl) (pa_cons (pv 2) pa_nil))))))) (pss_one (ps_ret pe_bl)) pss_nil))))
      (pss_cons (ps_set (i := 3) sc_law.nd rfl (Or.inl rfl) (pe_lst (pa_cons (pe_cal (cal_corner T) (hr.mono (by decide)) (by rfl) (pa_cons (pe_tup (pa_cons pe_int (pa_cons pe_int (pa_cons pe_int pa_nil)))) (pa_cons (pe_tup (pa_cons pe_int (pa_cons pe_int (pa_cons pe_int pa_nil)))) pa_nil))) (pa_cons (pe_cal (cal_corner T) (hr.mono (by decide)) (by rfl) (pa_cons (pe_tup (pa_cons pe_int (pa_cons pe_int (pa_cons pe_int pa_nil)))) (pa_cons (pe_tup (pa_cons pe_int (pa_cons pe_int (pa_cons pe_int pa_nil)))) pa_nil))) (pa_cons (pe_cal (cal_corner T) (hr.mono (by decide)) (by rfl) (pa_cons (pe_tup (pa_cons (pe_op op_sub pe_int pe_int) (pa_cons pe_int pa_nil))) (pa_cons (pe_tup (pa_cons pe_int (pa_cons pe_int pa_nil))) pa_nil))) pa_nil)))))
      (pss_cons (ps_if (PW.pt (pw_or (pt_cmpR (op_neD hr.units) (pv 3) (pe_lst (pa_cons (pe_tup (pa_cons pe_int (pa_cons pe_int pa_nil))) (pa_cons pe_non (pa_cons (pe_tup (pa_cons pe_int (pa_cons pe_int pa_nil))) pa_nil)))) (nomark _)) (pw_or1 (pt_cmpR (op_neD hr.units) (pe_cal (cal_corner T) (hr.mono (by decide)) (by rfl) (pa_cons (pe_tup (pa_cons pe_int (pa_cons pe_int pa_nil))) (pa_cons (pe_tup (pa_cons (pe_op op_sub pe_int pe_int) (pa_cons pe_int pa_nil))) pa_nil))) (pe_tup (pa_cons pe_int (pa_cons (pe_op op_sub pe_int pe_int) pa_nil))) (nomark _))))) (pss_one (ps_ret pe_bl)) pss_nil)
      (pss_one (ps_ret (pe_and (pe_cmpR op_isN (pe_cal (cal_corner T) (hr.mono (by decide)) (by rfl) (pa_cons (pe_tup (pa_cons pe_int (pa_cons pe_int pa_nil))) (pa_cons (pe_tup (pa_cons (pe_op op_sub pe_int pe_int) (pa_cons pe_int pa_nil))) pa_nil))) pe_non (nomark _)) (pe_one (pe_cmpR (op_eqD hr.units) (pe_cal (cal_corner T) (hr.mono (by decide)) (by rfl) (pa_cons (pe_tup (pa_cons (pe_op op_sub pe_int pe_int) (pa_cons pe_int pa_nil))) (pa_cons (pe_tup (pa_cons pe_int (pa_cons pe_int pa_nil))) pa_nil))) (pe_tup (pa_cons pe_int (pa_cons pe_int pa_nil))) (nomark _))))))))), ?_⟩
    have hj : ∀ j : Int, -(2 ^ 62) ≤ (if (if (j : Int) < 4 then (j : Int) else 4) > 1 then (if (j : Int) < 4 then (j : Int) else 4) else 1) ∧ (if (if (j : Int) < 4 then (j : Int) else 4) > 1 then (if (j : Int) < 4 then (j : Int) else 4) else 1) < 2 ^ 62 := fun j => by
      split <;> split <;> omega
    refine ⟨_, rfl, _, _, rfl, .inl hs, _, _, rfl, _, _, rfl, _, rfl, (hj _).1, (hj _).2, for_range (lo := 0) (fun _ σ H' => SqL K H' sa (ns.map V.int) ∧ ∃ v1 v2 : Option V, σ = [some (.ref sa), v1, v2, none]) ⟨hs, none, none, rfl⟩ ?_ ?_⟩
    · rintro i σ H0 hi ⟨hs, v1, v2, rfl⟩
      refine ⟨_, rfl, _, rfl, sa, _, ns, rfl, hs, by omega, fun p H1 s1 np bb => ?_⟩
      refine ⟨_, rfl, p, rfl, bb, fun H2 o2 b2 => ⟨_, rfl, iteF ?_⟩⟩
      exact ⟨_, rfl, p, rfl, b2, fun H3 o3 b3 => ⟨_, rfl, iteF ⟨SqL.ext hs (same_off np s1 (o2.trans o3)), _, _, rfl⟩⟩⟩
    · rintro σ H0 ⟨hs, v1, v2, rfl⟩
      refine ⟨show 3 ≤ sizeLine by decide, fun a1 n1 => ⟨show 3 ≤ sizeLine by decide, fun a2 n2 => ?_⟩⟩
      refine ⟨.ref a1, .ref a2, [2, 1, 3], [1, 3, 2], rfl, ⟨a1, rfl, .of (same_new n2 _ _ upd_same)⟩, ⟨a2, rfl, .of upd_same⟩, by decide, by decide, rfl, okR_of (by decide +kernel), okR_of (by decide +kernel), fun u1 H1 s1 r1 => ?_⟩
      have r1 := r1.is law1
      refine ⟨show 3 ≤ sizeLine by decide, fun a3 n3 => ⟨show 3 ≤ sizeLine by decide, fun a4 n4 => ?_⟩⟩
      have w2 := (same_new (o := .tup [.int 1, .int 2, .int 3]) n3).trans (same_new (o := .tup [.int 3, .int 2, .int 1]) n4)
      refine ⟨.ref a3, .ref a4, [1, 2, 3], [3, 2, 1], rfl, ⟨a3, rfl, .of (same_new n4 _ _ upd_same)⟩, ⟨a4, rfl, .of upd_same⟩, by decide, by decide, rfl, okR_of (by decide +kernel), okR_of (by decide +kernel), fun u2 H2 s2 r2 => ?_⟩
      have r2 := r2.no law2
      subst r2
      refine ⟨_, _, rfl, rfl, show 2 ≤ sizeLine by decide, fun a5 n5 => ⟨show 2 ≤ sizeLine by decide, fun a6 n6 => ?_⟩⟩
      have w3b : Same (upd H2 a5 (.tup [.int (-1), .int 2])) (upd (upd H2 a5 (.tup [.int (-1), .int 2])) a6 (.tup [.int 2, .int 1])) := same_new (show (upd H2 a5 (.tup [.int (-1), .int 2])) a6 = none from n6)
      have w3 := (same_new (o := .tup [.int (-1), .int 2]) n5).trans w3b
      refine ⟨.ref a5, .ref a6, [-1, 2], [2, 1], rfl, ⟨a5, rfl, .of (same_new n6 _ _ upd_same)⟩, ⟨a6, rfl, .of upd_same⟩, by decide, by decide, rfl, okR_of (by decide +kernel), okR_of (by decide +kernel), fun u3 H3 s3 r3 => ?_⟩
      have r3 := r3.is law3
      refine ⟨show 3 ≤ sizeLine by decide, fun L nL => ?_⟩
      have wL := same_new (o := .lst [u1, .non, u3]) nL
      have r1L := ((r1.same (w2.trans s2)).same (w3.trans s3)).same wL
      have r3L := r3.same wL
      refine ⟨_, rfl, show 2 ≤ sizeLine by decide, fun b1 m1 => ⟨show 2 ≤ sizeLine by decide, fun b2 m2 => ⟨show 3 ≤ sizeLine by decide, fun M nM => ?_⟩⟩⟩
      have x1 := same_new (o := .tup [.int 1, .int 2]) m1
      have x2 := same_new (o := .tup [.int 2, .int 1]) m2
      have xM := same_new (o := .lst [.ref b1, .non, .ref b2]) nM
      have y1 := x1.trans (x2.trans xM)
      let DD : PyData := .list [dT [1, 2], .none, dT [2, 1]]
      refine ⟨DD, DD, .lst (.of (y1 _ _ upd_same)) (.cons (r1L.same y1).dp (.cons .non (.cons (r3L.same y1).dp .nil))), .lst (.of upd_same) (.cons (TI.dp (ns := [1, 2]) ⟨b1, rfl, .of ((x2.trans xM) _ _ upd_same)⟩) (.cons .non (.cons (TI.dp (ns := [2, 1]) ⟨b2, rfl, .of (xM _ _ upd_same)⟩) .nil))), by decide +kernel, by decide +kernel, ?_⟩
      rw [show PyData.eqv DD DD = true by decide +kernel]
      refine ⟨_, rfl, iteF ?_⟩
      refine ⟨show 2 ≤ sizeLine by decide, fun a7 n7 => ⟨_, _, rfl, rfl, show 2 ≤ sizeLine by decide, fun a8 n8 => ?_⟩⟩
      refine ⟨.ref a7, .ref a8, [2, 1], [-1, 2], rfl, ⟨a7, rfl, .of (same_new n8 _ _ upd_same)⟩, ⟨a8, rfl, .of upd_same⟩, by decide, by decide, rfl, okR_of (by decide +kernel), okR_of (by decide +kernel), fun u4 H4 s4 r4 => ?_⟩
      have r4 := r4.is law4
      refine ⟨_, _, rfl, rfl, show 2 ≤ sizeLine by decide, fun a9 n9 => ?_⟩
      refine ne_ti (r4.same (same_new n9)) (b := [1, -1]) ⟨a9, rfl, .of upd_same⟩ rfl ⟨_, rfl, iteF ?_⟩
      refine ⟨show 2 ≤ sizeLine by decide, fun b3 m3 => ⟨_, _, rfl, rfl, show 2 ≤ sizeLine by decide, fun b4 m4 => ?_⟩⟩
      refine ⟨.ref b3, .ref b4, [1, 2], [-1, 2], rfl, ⟨b3, rfl, .of (same_new m4 _ _ upd_same)⟩, ⟨b4, rfl, .of upd_same⟩, by decide, by decide, rfl, okR_of (by decide +kernel), okR_of (by decide +kernel), fun u5 H5 s5 r5 => ?_⟩
      have r5 := r5.no law5
      subst r5
      refine ⟨rfl, _, rfl, iteT ?_⟩
      refine ⟨_, _, rfl, rfl, show 2 ≤ sizeLine by decide, fun b5 m5 => ⟨show 2 ≤ sizeLine by decide, fun b6 m6 => ?_⟩⟩
      refine ⟨.ref b5, .ref b6, [-1, 2], [1, 2], rfl, ⟨b5, rfl, .of (same_new m6 _ _ upd_same)⟩, ⟨b6, rfl, .of upd_same⟩, by decide, by decide, rfl, okR_of (by decide +kernel), okR_of (by decide +kernel), fun u6 H6 s6 r6 => ?_⟩
      have r6 := r6.is law6
      refine ⟨show 2 ≤ sizeLine by decide, fun b7 m7 => ?_⟩
      refine eq_ti (r6.same (same_new m7)) (b := [2, 1]) ⟨b7, rfl, .of upd_same⟩ ?_
      rw [decide_eq_true rfl]
      exact k _
end
end Sk

namespace Sk
open PySem L2 Ow
section
variable {K : PySem.W.Frag} {h : Heap} {mg : Str → Option Value} {x qual : Str} {st : Stmt} {f p C T0 : Addr} {oc kV doc pm cdv ct oc2 : Value} {od an od2 : Option Addr} {sl sl2 : Array (Option Value)} {tk n : Nat} {rest : List Value}
theorem mdef_mk (X : K.In h) (G : h.Ns mainGlobals mg) (a : PySem.W.nsIn K mainGlobals x = some (some (.ref f)))
    (l : K.lookup f = some ⟨oc, od, .func (PySem.W.fnOf x x (defArgs st) (defBody st) (defScope st) .none kV doc pm an cdv ct), sl⟩) (c : PySem.W.codeIn K cdv x = true) (k : PySem.W.keepIn K (.ref f) = true) : MDef K mg x st :=
  ⟨f, _, fun_mk l c k, PySem.W.mg_of X G a⟩
theorem gm_mk (a : PySem.W.findIn K (.ref C) x = some (some (.ref f))) (i : PySem.W.isFn K (.ref f) = true)
    (l : K.lookup f = some ⟨oc, od, .func (PySem.W.fnOf x qual (defArgs st) (defBody st) (defScope st) .none kV doc pm an cdv ct), sl⟩) (c : PySem.W.codeIn K cdv qual = true) (k : PySem.W.keepIn K (.ref f) = true) : GM K C x qual st :=
  ⟨f, _, fun_mk l c k, ⟨a, i⟩⟩
theorem gp_mk (a : PySem.W.findIn K (.ref C) x = some (some (.ref p))) (g : PySem.W.specialIn K (.ref p) "__get__" = some (some (.builtin "property.__get__"))) (t : PySem.W.takesIn K (.ref p) = some true) (r : PySem.W.recIn K p "property" = some (.ref f :: rest))
    (l : K.lookup f = some ⟨oc, od, .func (PySem.W.fnOf x qual (defArgs st) (defBody st) (defScope st) .none kV doc pm an cdv ct), sl⟩) (c : PySem.W.codeIn K cdv qual = true) (k : PySem.W.keepIn K (.ref f) = true) : GP K C x qual st :=
  ⟨p, f, _, ⟨a, g, t, rest, r⟩, fun_mk l c k⟩
theorem init_mk {e0 : Addr} {od3 : Option Addr} {sl3 : Array (Option Value)} {n3 : Nat} (mk : PySem.W.makesIn K C = true) (kc : PySem.W.keepIn K (.ref C) = true) (a : PySem.W.findIn K (.ref C) "__init__" = some (some (.ref f))) (i : PySem.W.isFn K (.ref f) = true)
    (l : K.lookup f = some ⟨oc, od, .func (PySem.W.fnOf "__init__" "System.__init__" (defArgs s_init) (defBody s_init) (defScope s_init) (.ref T0) kV doc pm an cdv ct), sl⟩) (c : PySem.W.codeIn K cdv "System.__init__" = true) (k : PySem.W.keepIn K (.ref f) = true)
    (lT : K.lookup T0 = some ⟨oc2, od2, .seq #[.ref e0] n, sl2⟩) (lE : K.lookup e0 = some ⟨.type "tuple", od3, .seq #[] n3, sl3⟩) : ∃ f fd e, Mk K C f ∧ FunD K "__init__" "System.__init__" (defArgs s_init) (defBody s_init) (defScope s_init) [.ref e] [] f fd ∧ ∀ H, SqT K H e [] :=
  ⟨f, _, e0, ⟨mk, a, i, kc⟩, ⟨⟨oc, od, .ref T0, kV, doc, pm, an, cdv, ct, sl, rfl, l, c, .inr ⟨by simp, T0, _, [.ref e0], n, rfl, lT, rfl, .cons rfl .nil⟩, .inl rfl⟩, k⟩, fun H => .inr ⟨_, #[], n3, lE, rfl, rfl, Nat.zero_le _, .nil⟩⟩
theorem cg_mk {g : Addr} (a : PySem.W.findCls K (.ref C) (.type "type") x = some (.get (.builtin "classmethod.__get__") (.ref p) .none (.ref C))) (r : PySem.W.recIn K p "classmethod" = some (.ref g :: rest)) (fi : PySem.W.fnIn K g = true)
    (l : K.lookup g = some ⟨oc, od, .func (PySem.W.fnOf x qual (defArgs st) (defBody st) (defScope st) .none kV doc pm an cdv ct), sl⟩) (c : PySem.W.codeIn K cdv qual = true) (k : PySem.W.keepIn K (.ref g) = true) : CG K C x qual st :=
  ⟨p, g, _, ⟨a, ⟨rest, r⟩, fi⟩, fun_mk l c k⟩
theorem gi_mk {t : Nat} {i : Int} {x : Str} (X : K.In h) (G : h.Ns mainGlobals mg) (a : PySem.W.nsIn K mainGlobals x = some (some (.int i t))) : ∃ u, mg x = some u ∧ RelV (.int i) u := ⟨_, PySem.W.mg_of X G a, ⟨t, rfl⟩⟩
theorem bo_mk {q : Addr} {t0 t1 t2 t3 t4 t5 : Nat} (X : K.In h) (G : h.Ns mainGlobals mg) (a : PySem.W.nsIn K mainGlobals "BONDS" = some (some (.ref q))) (l : K.lookup q = some ⟨.type "tuple", od, .seq #[.int 0 t0, .int 2 t1, .int 3 t2, .int 4 t3, .int 5 t4, .int 6 t5] n, sl⟩) :
    ∃ a, mg "BONDS" = some (.ref a) ∧ ∀ H, SqT K H a [.int 0, .int 2, .int 3, .int 4, .int 5, .int 6] :=
  ⟨q, PySem.W.mg_of X G a, fun H => .inr ⟨_, _, n, l, rfl, rfl, (show 6 ≤ sizeLine by decide), .cons ⟨_, rfl⟩ (.cons ⟨_, rfl⟩ (.cons ⟨_, rfl⟩ (.cons ⟨_, rfl⟩ (.cons ⟨_, rfl⟩ (.cons ⟨_, rfl⟩ .nil)))))⟩⟩
theorem pair_at {a x y : Addr} {w p u q : Int} {t1 t2 t3 t4 n0 n1 n2 : Nat} {d0 d1 d2 : Option Addr} {s0 s1 s2 : Array (Option Value)}
    (l : K.lookup a = some ⟨.type "tuple", d0, .seq #[.ref x, .ref y] n0, s0⟩) (lx : K.lookup x = some ⟨.type "tuple", d1, .seq #[.int w t1, .int p t2] n1, s1⟩) (ly : K.lookup y = some ⟨.type "tuple", d2, .seq #[.int u t3, .int q t4] n2, s2⟩) (H : Hp) : BsAt K H (.ref a) [[w, p], [u, q]] :=
  ⟨a, [.ref x, .ref y], rfl, .inr ⟨_, _, n0, l, rfl, rfl, (show 2 ≤ sizeLine by decide), .cons rfl (.cons rfl .nil)⟩, ⟨x, rfl, .inr ⟨_, _, n1, lx, rfl, rfl, (show 2 ≤ sizeLine by decide), .cons ⟨_, rfl⟩ (.cons ⟨_, rfl⟩ .nil)⟩⟩, ⟨y, rfl, .inr ⟨_, _, n2, ly, rfl, rfl, (show 2 ≤ sizeLine by decide), .cons ⟨_, rfl⟩ (.cons ⟨_, rfl⟩ .nil)⟩⟩, trivial⟩
theorem fac_mk {dd : Addr} {nd : Nat} {a0 x0 y0 a2 x2 y2 a3 x3 y3 a4 x4 y4 a5 x5 y5 a6 x6 y6 : Addr} {na0 nx0 ny0 na2 nx2 ny2 na3 nx3 ny3 na4 nx4 ny4 na5 nx5 ny5 na6 nx6 ny6 : Nat} {da0 dx0 dy0 da2 dx2 dy2 da3 dx3 dy3 da4 dx4 dy4 da5 dx5 dy5 da6 dx6 dy6 : Option Addr} {sla0 slx0 sly0 sla2 slx2 sly2 sla3 slx3 sly3 sla4 slx4 sly4 sla5 slx5 sly5 sla6 slx6 sly6 : Array (Option Value)} {u0 r0 s0 v0 z0 u2 r2 s2 v2 z2 u3 r3 s3 v3 z3 u4 r4 s4 v4 z4 u5 r5 s5 v5 z5 u6 r6 s6 v6 z6 : Nat} (X : K.In h) (G : h.Ns mainGlobals mg) (a : PySem.W.nsIn K mainGlobals "FACTORS" = some (some (.ref dd)))
    (l : K.lookup dd = some ⟨.type "dict", none, .dict #[⟨0, .int 0 u0, .ref a0⟩, ⟨2, .int 2 u2, .ref a2⟩, ⟨3, .int 3 u3, .ref a3⟩, ⟨4, .int 4 u4, .ref a4⟩, ⟨5, .int 5 u5, .ref a5⟩, ⟨6, .int 6 u6, .ref a6⟩] nd, #[]⟩)
    (la0 : K.lookup a0 = some ⟨.type "tuple", da0, .seq #[.ref x0, .ref y0] na0, sla0⟩)
    (lx0 : K.lookup x0 = some ⟨.type "tuple", dx0, .seq #[.int 2 r0, .int 0 s0] nx0, slx0⟩)
    (ly0 : K.lookup y0 = some ⟨.type "tuple", dy0, .seq #[.int 2 v0, .int 0 z0] ny0, sly0⟩)
    (la2 : K.lookup a2 = some ⟨.type "tuple", da2, .seq #[.ref x2, .ref y2] na2, sla2⟩)
    (lx2 : K.lookup x2 = some ⟨.type "tuple", dx2, .seq #[.int 0 r2, .int 0 s2] nx2, slx2⟩)
    (ly2 : K.lookup y2 = some ⟨.type "tuple", dy2, .seq #[.int 0 v2, .int 0 z2] ny2, sly2⟩)
    (la3 : K.lookup a3 = some ⟨.type "tuple", da3, .seq #[.ref x3, .ref y3] na3, sla3⟩)
    (lx3 : K.lookup x3 = some ⟨.type "tuple", dx3, .seq #[.int 1 r3, .int 0 s3] nx3, slx3⟩)
    (ly3 : K.lookup y3 = some ⟨.type "tuple", dy3, .seq #[.int 1 v3, .int 0 z3] ny3, sly3⟩)
    (la4 : K.lookup a4 = some ⟨.type "tuple", da4, .seq #[.ref x4, .ref y4] na4, sla4⟩)
    (lx4 : K.lookup x4 = some ⟨.type "tuple", dx4, .seq #[.int 1 r4, .int 0 s4] nx4, slx4⟩)
    (ly4 : K.lookup y4 = some ⟨.type "tuple", dy4, .seq #[.int 2 v4, .int 0 z4] ny4, sly4⟩)
    (la5 : K.lookup a5 = some ⟨.type "tuple", da5, .seq #[.ref x5, .ref y5] na5, sla5⟩)
    (lx5 : K.lookup x5 = some ⟨.type "tuple", dx5, .seq #[.int 0 r5, .int 1 s5] nx5, slx5⟩)
    (ly5 : K.lookup y5 = some ⟨.type "tuple", dy5, .seq #[.int 0 v5, .int 1 z5] ny5, sly5⟩)
    (la6 : K.lookup a6 = some ⟨.type "tuple", da6, .seq #[.ref x6, .ref y6] na6, sla6⟩)
    (lx6 : K.lookup x6 = some ⟨.type "tuple", dx6, .seq #[.int 1 r6, .int 0 s6] nx6, slx6⟩)
    (ly6 : K.lookup y6 = some ⟨.type "tuple", dy6, .seq #[.int 3 v6, .int 0 z6] ny6, sly6⟩) :
    ∃ d es n, mg "FACTORS" = some (.ref d) ∧ K.lookup d = some ⟨.type "dict", none, .dict es n, #[]⟩ ∧ IntKeys es ∧ ∀ b : Int, (b = 0 ∨ b = 2 ∨ b = 3 ∨ b = 4 ∨ b = 5 ∨ b = 6) → ∃ a, findBy Value.isInt es b = some (.ref a) ∧ ∀ H, BsAt K H (.ref a) (facT b) := by
  refine ⟨dd, _, nd, PySem.W.mg_of X G a, l, fun e he => ?_, fun b hb => ?_⟩
  · simp at he
    rcases he with rfl | rfl | rfl | rfl | rfl | rfl
    · exact ⟨0, _, rfl, (by decide : (0 : Int) = hashInt 0)⟩
    · exact ⟨2, _, rfl, (by decide : (2 : Int) = hashInt 2)⟩
    · exact ⟨3, _, rfl, (by decide : (3 : Int) = hashInt 3)⟩
    · exact ⟨4, _, rfl, (by decide : (4 : Int) = hashInt 4)⟩
    · exact ⟨5, _, rfl, (by decide : (5 : Int) = hashInt 5)⟩
    · exact ⟨6, _, rfl, (by decide : (6 : Int) = hashInt 6)⟩
  · rcases hb with rfl | rfl | rfl | rfl | rfl | rfl
    · exact ⟨a0, by simp [findBy, Value.isInt], pair_at la0 lx0 ly0⟩
    · exact ⟨a2, by simp [findBy, Value.isInt], pair_at la2 lx2 ly2⟩
    · exact ⟨a3, by simp [findBy, Value.isInt], pair_at la3 lx3 ly3⟩
    · exact ⟨a4, by simp [findBy, Value.isInt], pair_at la4 lx4 ly4⟩
    · exact ⟨a5, by simp [findBy, Value.isInt], pair_at la5 lx5 ly5⟩
    · exact ⟨a6, by simp [findBy, Value.isInt], pair_at la6 lx6 ly6⟩
theorem end_mk {l : PySem.W.OpenLaw} {w : World} {fa : Addr} (X : K.In h) (G : h.Ns mainGlobals mg) (hfa : mg "law" = some (.ref fa)) (T : Txt K mg C) (a : PySem.W.nsIn K mainGlobals "law" = some (some (.ref f)))
    (l1 : K.lookup f = some ⟨oc, od, .func (PySem.W.fnOf "law" "law" (defArgs s_law) (defBody s_law) (defScope s_law) .none kV doc pm an cdv ct), sl⟩) (c : PySem.W.codeIn K cdv "law" = true) (k : PySem.W.keepIn K (.ref f) = true) :
    ∃ fd : FuncData, (∀ (s : Shared) (v : Value), BindsTo s fd ⟨[v], []⟩ [("_law_script", v)]) ∧ ∀ base : Heap, K.In base → base.Ns mainGlobals mg → FnOk l.prog w K mg base CX0 11 fa fd ["_law_script"] (spLaw K) := by
  have e := hfa.symm.trans (PySem.W.mg_of X G a)
  cases e
  exact ⟨PySem.W.fnOf "law" "law" (defArgs s_law) (defBody s_law) (defScope s_law) .none kV doc pm an cdv ct, fun s v => .of_eq rfl, fun base _ _ => ok_law T (fun_mk (st := s_law) l1 c k)⟩
end
theorem walkEnd {l : PySem.W.OpenLaw} {q : Program} {loose : List Str} {XP : (Str → Option Value) → Heap → Prop} {YP : World → Heap → Prop} {d : DefRec} {K : Params → PySem.W.Frag} (hn : l.most = some 63) (hdf : d.params.defaults = [])
    (hY : ∀ (w : World) (h : Heap), YP w h → (K w.params).In h)
    (F : ∀ (w : World) (mg : Str → Option Value) (fa : Addr) (h : Heap), (K w.params).In h → h.Ns mainGlobals mg → mg d.name = some (.ref fa) →
      ∃ fd : FuncData, (∀ (s : Shared) (u : Value), BindsTo s fd ⟨[u], []⟩ [("_law_script", u)]) ∧ ∀ base : Heap, (K w.params).In base → base.Ns mainGlobals mg → FnOk l.prog w (K w.params) mg base CX0 11 fa fd ["_law_script"] (spLaw (K w.params))) :
    PySem.W.WalkO q loose XP YP l.row.toRowW d [] (fun f vs => PySem.call f vs) :=
  L2.walk_of (n := 63) (k := 11) (x := "_law_script") (CX := fun _ => CX0) (sp := fun w => spLaw (K w.params)) hn (by decide) hdf ⟨rfl, by decide, by decide⟩ hY F (fun _ _ a ns hl _ hS => ⟨a, ns, rfl, hS, hl, fun _ => rfl⟩) fun _ _ _ _ _ z => z
end Sk

open PySem PySem.W PyProof.Rows in
set_option maxRecDepth 100000 in
set_option maxHeartbeats 0 in
theorem PySem.Challenge.cw_underwords_k65_whole_corners_tell_what_i_holds : PySem.Challenge.rw_underwords_k65_whole_corners_tell_what_i.Holds := by
  w_on; o_law; k_head; (case hw => w_witness2)
  k_fill
  refine Sk.walkEnd (l := PySem.Challenge.rw_underwords_k65_whole_corners_tell_what_i) rfl rfl (fun w h Y => PySem.W.kIn_of Y) ?F
  case F =>
    intro w mg fa h KX G hmg
    refine' Sk.end_mk KX G hmg (C := _) ?T ?a ?l ?c ?k
    (case a => k_is)
    (case l => k_is)
    (case c => k_is)
    (case k => k_is)
    case T =>
      refine' { cl := ⟨?pg, ?hd, ?po, ?sa⟩, ic := ⟨⟨?pg2, ?hd2, ?po2, ?sa2⟩, ?ha, ?hn, ?htk, ?hm, if_pos (beq_self_eq_true _)⟩, mgSystem := PySem.W.mg_of KX G ?gG, nL := ?nL, nB := ?nB, mkS := ?mkS, gB := ?gB, gF := ?gF, crd := ⟨?rd, ?ga⟩, cRows := ?cRows, pL := ?pL, mBond := ?mBond, cSigned := ?cSigned, g_MAX_LETTERS := ?g_MAX_LETTERS, g_LONGEST_WORD := ?g_LONGEST_WORD, g_MOST_PLACES := ?g_MOST_PLACES, g_MOST_SIGNED := ?g_MOST_SIGNED, d_is_within := ?d_is_within, d_neighbours := ?d_neighbours, d_are_bonds := ?d_are_bonds, d_is_triple := ?d_is_triple, d_is_letter := ?d_is_letter, d_is_word := ?d_is_word, d_check_system := ?d_check_system, d_check_word := ?d_check_word, d_check_words := ?d_check_words, d_sense_of := ?d_sense_of, d_factor := ?d_factor, d_other_letters := ?d_other_letters, d_triples_from := ?d_triples_from, d_without_zeros := ?d_without_zeros, d_is_below := ?d_is_below, d_links_of := ?d_links_of, d_first_state := ?d_first_state, d_put_ahead := ?d_put_ahead, d_word_ahead := ?d_word_ahead, d_state_of := ?d_state_of, d_left_of := ?d_left_of, d_normal_of := ?d_normal_of, d_normal_word := ?d_normal_word, d_corner := ?d_corner, d_is_corner := ?d_is_corner, d_is_row := ?d_is_row, d_is_signed := ?d_is_signed, d_are_entries := ?d_are_entries, d_told_rows := ?d_told_rows, d_doubled := ?d_doubled, d_is_over := ?d_is_over, d_led_down := ?d_led_down, d_is_state_under := ?d_is_state_under, d_is_word_under := ?d_is_word_under, d_is_under := ?d_is_under, d_l_vat := ?d_l_vat, d_l_sip := ?d_l_sip, d_l_taste := ?d_l_taste, d_l_undone := ?d_l_undone, d_l_length := ?d_l_length, d_l_right_letters := ?d_l_right_letters, d_l_ahead := ?d_l_ahead, d_l_word := ?d_l_word, d_l_some_row := ?d_l_some_row, d_l_some_signed := ?d_l_some_signed, d_l_signed_undone := ?d_l_signed_undone, d_l_signed_right := ?d_l_signed_right, d_l_signed_ahead := ?d_l_signed_ahead, d_l_signed_behind := ?d_l_signed_behind, d_l_signed_word := ?d_l_signed_word, d_l_doubled := ?d_l_doubled, d_l_is_corner := ?d_l_is_corner, d_l_is_led_down := ?d_l_is_led_down, d_l_is_signed_led_down := ?d_l_is_signed_led_down, d_l_pair := ?d_l_pair, d_l_right := ?d_l_right, b_list := ?b_list, b_sorted := ?b_sorted, b_isinstance := ?b_isinstance, b_int := ?b_int, b_bool := ?b_bool, b_tuple := ?b_tuple, b_len := ?b_len, b_abs := ?b_abs, b_max := ?b_max, b_min := ?b_min, b_sum := ?b_sum, b_all := ?b_all, b_zip := ?b_zip, b_range := ?b_range, b_enumerate := ?b_enumerate }
      (case gG => k_is)
      (case pg => k_is)
      (case hd => k_is)
      (case po => k_is)
      (case sa => k_is)
      (case pg2 => k_is)
      (case hd2 => k_is)
      (case po2 => k_is)
      (case sa2 => k_is)
      (case ha => k_is)
      (case hn => k_is)
      (case htk => k_is)
      (case hm => k_is)
      (case rd => k_is)
      (case ga => k_is)
      (case nL => ((show PySem.W.findIn _ _ "_letters" = some none); k_is))
      (case nB => ((show PySem.W.findIn _ _ "_bonds" = some none); k_is))
      (case mkS => (refine' Sk.init_mk ?q1 ?q2 ?q3 ?q4 ?q5 ?q6 ?q7 ?q8 ?q9; (case q1 => k_is); (case q2 => k_is); (case q3 => k_is); (case q4 => k_is); (case q5 => k_is); (case q6 => k_is); (case q7 => k_is); (case q8 => k_is); (case q9 => k_is)))
      (case gB => (refine' Sk.bo_mk KX G ?q1 ?q2; (case q1 => k_is); (case q2 => k_is)))
      (case gF => (refine' Sk.fac_mk KX G ?q1 ?q2 ?q3 ?q4 ?q5 ?q6 ?q7 ?q8 ?q9 ?q10 ?q11 ?q12 ?q13 ?q14 ?q15 ?q16 ?q17 ?q18 ?q19 ?q20; (case q1 => k_is); (case q2 => k_is); (case q3 => k_is); (case q4 => k_is); (case q5 => k_is); (case q6 => k_is); (case q7 => k_is); (case q8 => k_is); (case q9 => k_is); (case q10 => k_is); (case q11 => k_is); (case q12 => k_is); (case q13 => k_is); (case q14 => k_is); (case q15 => k_is); (case q16 => k_is); (case q17 => k_is); (case q18 => k_is); (case q19 => k_is); (case q20 => k_is)))
      (case cRows => (refine' Sk.cg_mk ?q1 ?q2 ?q3 ?q4 ?q5 ?q6; (case q1 => k_is); (case q2 => k_is); (case q3 => k_is); (case q4 => k_is); (case q5 => k_is); (case q6 => k_is)))
      (case pL => (refine' Sk.gp_mk ?q1 ?q2 ?q3 ?q4 ?q5 ?q6 ?q7; (case q1 => k_is); (case q2 => k_is); (case q3 => k_is); (case q4 => k_is); (case q5 => k_is); (case q6 => k_is); (case q7 => k_is)))
      (case mBond => (refine' Sk.gm_mk ?q1 ?q2 ?q3 ?q4 ?q5; (case q1 => k_is); (case q2 => k_is); (case q3 => k_is); (case q4 => k_is); (case q5 => k_is)))
      (case cSigned => (refine' Sk.cg_mk ?q1 ?q2 ?q3 ?q4 ?q5 ?q6; (case q1 => k_is); (case q2 => k_is); (case q3 => k_is); (case q4 => k_is); (case q5 => k_is); (case q6 => k_is)))
      (case g_MAX_LETTERS => (refine' Sk.gi_mk KX G ?q1; (case q1 => k_is)))
      (case g_LONGEST_WORD => (refine' Sk.gi_mk KX G ?q1; (case q1 => k_is)))
      (case g_MOST_PLACES => (refine' Sk.gi_mk KX G ?q1; (case q1 => k_is)))
      (case g_MOST_SIGNED => (refine' Sk.gi_mk KX G ?q1; (case q1 => k_is)))
      (case d_is_within => (refine' Sk.mdef_mk KX G ?q1 ?q2 ?q3 ?q4; (case q1 => k_is); (case q2 => k_is); (case q3 => k_is); (case q4 => k_is)))
      (case d_neighbours => (refine' Sk.mdef_mk KX G ?q1 ?q2 ?q3 ?q4; (case q1 => k_is); (case q2 => k_is); (case q3 => k_is); (case q4 => k_is)))
      (case d_are_bonds => (refine' Sk.mdef_mk KX G ?q1 ?q2 ?q3 ?q4; (case q1 => k_is); (case q2 => k_is); (case q3 => k_is); (case q4 => k_is)))
      (case d_is_triple => (refine' Sk.mdef_mk KX G ?q1 ?q2 ?q3 ?q4; (case q1 => k_is); (case q2 => k_is); (case q3 => k_is); (case q4 => k_is)))
      (case d_is_letter => (refine' Sk.mdef_mk KX G ?q1 ?q2 ?q3 ?q4; (case q1 => k_is); (case q2 => k_is); (case q3 => k_is); (case q4 => k_is)))
      (case d_is_word => (refine' Sk.mdef_mk KX G ?q1 ?q2 ?q3 ?q4; (case q1 => k_is); (case q2 => k_is); (case q3 => k_is); (case q4 => k_is)))
      (case d_check_system => (refine' Sk.mdef_mk KX G ?q1 ?q2 ?q3 ?q4; (case q1 => k_is); (case q2 => k_is); (case q3 => k_is); (case q4 => k_is)))
      (case d_check_word => (refine' Sk.mdef_mk KX G ?q1 ?q2 ?q3 ?q4; (case q1 => k_is); (case q2 => k_is); (case q3 => k_is); (case q4 => k_is)))
      (case d_check_words => (refine' Sk.mdef_mk KX G ?q1 ?q2 ?q3 ?q4; (case q1 => k_is); (case q2 => k_is); (case q3 => k_is); (case q4 => k_is)))
      (case d_sense_of => (refine' Sk.mdef_mk KX G ?q1 ?q2 ?q3 ?q4; (case q1 => k_is); (case q2 => k_is); (case q3 => k_is); (case q4 => k_is)))
      (case d_factor => (refine' Sk.mdef_mk KX G ?q1 ?q2 ?q3 ?q4; (case q1 => k_is); (case q2 => k_is); (case q3 => k_is); (case q4 => k_is)))
      (case d_other_letters => (refine' Sk.mdef_mk KX G ?q1 ?q2 ?q3 ?q4; (case q1 => k_is); (case q2 => k_is); (case q3 => k_is); (case q4 => k_is)))
      (case d_triples_from => (refine' Sk.mdef_mk KX G ?q1 ?q2 ?q3 ?q4; (case q1 => k_is); (case q2 => k_is); (case q3 => k_is); (case q4 => k_is)))
      (case d_without_zeros => (refine' Sk.mdef_mk KX G ?q1 ?q2 ?q3 ?q4; (case q1 => k_is); (case q2 => k_is); (case q3 => k_is); (case q4 => k_is)))
      (case d_is_below => (refine' Sk.mdef_mk KX G ?q1 ?q2 ?q3 ?q4; (case q1 => k_is); (case q2 => k_is); (case q3 => k_is); (case q4 => k_is)))
      (case d_links_of => (refine' Sk.mdef_mk KX G ?q1 ?q2 ?q3 ?q4; (case q1 => k_is); (case q2 => k_is); (case q3 => k_is); (case q4 => k_is)))
      (case d_first_state => (refine' Sk.mdef_mk KX G ?q1 ?q2 ?q3 ?q4; (case q1 => k_is); (case q2 => k_is); (case q3 => k_is); (case q4 => k_is)))
      (case d_put_ahead => (refine' Sk.mdef_mk KX G ?q1 ?q2 ?q3 ?q4; (case q1 => k_is); (case q2 => k_is); (case q3 => k_is); (case q4 => k_is)))
      (case d_word_ahead => (refine' Sk.mdef_mk KX G ?q1 ?q2 ?q3 ?q4; (case q1 => k_is); (case q2 => k_is); (case q3 => k_is); (case q4 => k_is)))
      (case d_state_of => (refine' Sk.mdef_mk KX G ?q1 ?q2 ?q3 ?q4; (case q1 => k_is); (case q2 => k_is); (case q3 => k_is); (case q4 => k_is)))
      (case d_left_of => (refine' Sk.mdef_mk KX G ?q1 ?q2 ?q3 ?q4; (case q1 => k_is); (case q2 => k_is); (case q3 => k_is); (case q4 => k_is)))
      (case d_normal_of => (refine' Sk.mdef_mk KX G ?q1 ?q2 ?q3 ?q4; (case q1 => k_is); (case q2 => k_is); (case q3 => k_is); (case q4 => k_is)))
      (case d_normal_word => (refine' Sk.mdef_mk KX G ?q1 ?q2 ?q3 ?q4; (case q1 => k_is); (case q2 => k_is); (case q3 => k_is); (case q4 => k_is)))
      (case d_corner => (refine' Sk.mdef_mk KX G ?q1 ?q2 ?q3 ?q4; (case q1 => k_is); (case q2 => k_is); (case q3 => k_is); (case q4 => k_is)))
      (case d_is_corner => (refine' Sk.mdef_mk KX G ?q1 ?q2 ?q3 ?q4; (case q1 => k_is); (case q2 => k_is); (case q3 => k_is); (case q4 => k_is)))
      (case d_is_row => (refine' Sk.mdef_mk KX G ?q1 ?q2 ?q3 ?q4; (case q1 => k_is); (case q2 => k_is); (case q3 => k_is); (case q4 => k_is)))
      (case d_is_signed => (refine' Sk.mdef_mk KX G ?q1 ?q2 ?q3 ?q4; (case q1 => k_is); (case q2 => k_is); (case q3 => k_is); (case q4 => k_is)))
      (case d_are_entries => (refine' Sk.mdef_mk KX G ?q1 ?q2 ?q3 ?q4; (case q1 => k_is); (case q2 => k_is); (case q3 => k_is); (case q4 => k_is)))
      (case d_told_rows => (refine' Sk.mdef_mk KX G ?q1 ?q2 ?q3 ?q4; (case q1 => k_is); (case q2 => k_is); (case q3 => k_is); (case q4 => k_is)))
      (case d_doubled => (refine' Sk.mdef_mk KX G ?q1 ?q2 ?q3 ?q4; (case q1 => k_is); (case q2 => k_is); (case q3 => k_is); (case q4 => k_is)))
      (case d_is_over => (refine' Sk.mdef_mk KX G ?q1 ?q2 ?q3 ?q4; (case q1 => k_is); (case q2 => k_is); (case q3 => k_is); (case q4 => k_is)))
      (case d_led_down => (refine' Sk.mdef_mk KX G ?q1 ?q2 ?q3 ?q4; (case q1 => k_is); (case q2 => k_is); (case q3 => k_is); (case q4 => k_is)))
      (case d_is_state_under => (refine' Sk.mdef_mk KX G ?q1 ?q2 ?q3 ?q4; (case q1 => k_is); (case q2 => k_is); (case q3 => k_is); (case q4 => k_is)))
      (case d_is_word_under => (refine' Sk.mdef_mk KX G ?q1 ?q2 ?q3 ?q4; (case q1 => k_is); (case q2 => k_is); (case q3 => k_is); (case q4 => k_is)))
      (case d_is_under => (refine' Sk.mdef_mk KX G ?q1 ?q2 ?q3 ?q4; (case q1 => k_is); (case q2 => k_is); (case q3 => k_is); (case q4 => k_is)))
      (case d_l_vat => (refine' Sk.mdef_mk KX G ?q1 ?q2 ?q3 ?q4; (case q1 => k_is); (case q2 => k_is); (case q3 => k_is); (case q4 => k_is)))
      (case d_l_sip => (refine' Sk.mdef_mk KX G ?q1 ?q2 ?q3 ?q4; (case q1 => k_is); (case q2 => k_is); (case q3 => k_is); (case q4 => k_is)))
      (case d_l_taste => (refine' Sk.mdef_mk KX G ?q1 ?q2 ?q3 ?q4; (case q1 => k_is); (case q2 => k_is); (case q3 => k_is); (case q4 => k_is)))
      (case d_l_undone => (refine' Sk.mdef_mk KX G ?q1 ?q2 ?q3 ?q4; (case q1 => k_is); (case q2 => k_is); (case q3 => k_is); (case q4 => k_is)))
      (case d_l_length => (refine' Sk.mdef_mk KX G ?q1 ?q2 ?q3 ?q4; (case q1 => k_is); (case q2 => k_is); (case q3 => k_is); (case q4 => k_is)))
      (case d_l_right_letters => (refine' Sk.mdef_mk KX G ?q1 ?q2 ?q3 ?q4; (case q1 => k_is); (case q2 => k_is); (case q3 => k_is); (case q4 => k_is)))
      (case d_l_ahead => (refine' Sk.mdef_mk KX G ?q1 ?q2 ?q3 ?q4; (case q1 => k_is); (case q2 => k_is); (case q3 => k_is); (case q4 => k_is)))
      (case d_l_word => (refine' Sk.mdef_mk KX G ?q1 ?q2 ?q3 ?q4; (case q1 => k_is); (case q2 => k_is); (case q3 => k_is); (case q4 => k_is)))
      (case d_l_some_row => (refine' Sk.mdef_mk KX G ?q1 ?q2 ?q3 ?q4; (case q1 => k_is); (case q2 => k_is); (case q3 => k_is); (case q4 => k_is)))
      (case d_l_some_signed => (refine' Sk.mdef_mk KX G ?q1 ?q2 ?q3 ?q4; (case q1 => k_is); (case q2 => k_is); (case q3 => k_is); (case q4 => k_is)))
      (case d_l_signed_undone => (refine' Sk.mdef_mk KX G ?q1 ?q2 ?q3 ?q4; (case q1 => k_is); (case q2 => k_is); (case q3 => k_is); (case q4 => k_is)))
      (case d_l_signed_right => (refine' Sk.mdef_mk KX G ?q1 ?q2 ?q3 ?q4; (case q1 => k_is); (case q2 => k_is); (case q3 => k_is); (case q4 => k_is)))
      (case d_l_signed_ahead => (refine' Sk.mdef_mk KX G ?q1 ?q2 ?q3 ?q4; (case q1 => k_is); (case q2 => k_is); (case q3 => k_is); (case q4 => k_is)))
      (case d_l_signed_behind => (refine' Sk.mdef_mk KX G ?q1 ?q2 ?q3 ?q4; (case q1 => k_is); (case q2 => k_is); (case q3 => k_is); (case q4 => k_is)))
      (case d_l_signed_word => (refine' Sk.mdef_mk KX G ?q1 ?q2 ?q3 ?q4; (case q1 => k_is); (case q2 => k_is); (case q3 => k_is); (case q4 => k_is)))
      (case d_l_doubled => (refine' Sk.mdef_mk KX G ?q1 ?q2 ?q3 ?q4; (case q1 => k_is); (case q2 => k_is); (case q3 => k_is); (case q4 => k_is)))
      (case d_l_is_corner => (refine' Sk.mdef_mk KX G ?q1 ?q2 ?q3 ?q4; (case q1 => k_is); (case q2 => k_is); (case q3 => k_is); (case q4 => k_is)))
      (case d_l_is_led_down => (refine' Sk.mdef_mk KX G ?q1 ?q2 ?q3 ?q4; (case q1 => k_is); (case q2 => k_is); (case q3 => k_is); (case q4 => k_is)))
      (case d_l_is_signed_led_down => (refine' Sk.mdef_mk KX G ?q1 ?q2 ?q3 ?q4; (case q1 => k_is); (case q2 => k_is); (case q3 => k_is); (case q4 => k_is)))
      (case d_l_pair => (refine' Sk.mdef_mk KX G ?q1 ?q2 ?q3 ?q4; (case q1 => k_is); (case q2 => k_is); (case q3 => k_is); (case q4 => k_is)))
      (case d_l_right => (refine' Sk.mdef_mk KX G ?q1 ?q2 ?q3 ?q4; (case q1 => k_is); (case q2 => k_is); (case q3 => k_is); (case q4 => k_is)))
      (case b_list => exact PySem.W.mg_none_of KX G (by k_is))
      (case b_sorted => exact PySem.W.mg_none_of KX G (by k_is))
      (case b_isinstance => exact PySem.W.mg_none_of KX G (by k_is))
      (case b_int => exact PySem.W.mg_none_of KX G (by k_is))
      (case b_bool => exact PySem.W.mg_none_of KX G (by k_is))
      (case b_tuple => exact PySem.W.mg_none_of KX G (by k_is))
      (case b_len => exact PySem.W.mg_none_of KX G (by k_is))
      (case b_abs => exact PySem.W.mg_none_of KX G (by k_is))
      (case b_max => exact PySem.W.mg_none_of KX G (by k_is))
      (case b_min => exact PySem.W.mg_none_of KX G (by k_is))
      (case b_sum => exact PySem.W.mg_none_of KX G (by k_is))
      (case b_all => exact PySem.W.mg_none_of KX G (by k_is))
      (case b_zip => exact PySem.W.mg_none_of KX G (by k_is))
      (case b_range => exact PySem.W.mg_none_of KX G (by k_is))
      (case b_enumerate => exact PySem.W.mg_none_of KX G (by k_is))
