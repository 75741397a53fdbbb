import PyProof.Rows.All
import Wide.All
import OpenK.AllK
import Wide.FinOn
import HandS.ForMost
import HandS.OwnEq
import HandS.Property
import HandS.Defaults
import HandS.IsInst
import HandS.Codes
import HandS.Wide
import HandS.Flow
import HandS.SetFor
import HandS.Style
import PyProof.InstNe
import HandS.FStr
import HandS.Star
import HandS.Deep
import HandS.Zip
import HandS.Walk
import HandS.ClsMeth
import KE.GoesMore
import KE.GoesEnum
import HandS.Iter
import KE.KRevSl
import HandS.Records
import HandS.WideBits
import HandS.TupAny
import HandS.Rev
import HandS.Conv
import HandS.TupSets
import KE.KIndexOf
import PySem.Challenge.RW_underwords_k66_whole_patterns_in_rows
set_option Elab.async false
set_option maxRecDepth 100000
set_option maxHeartbeats 8000000
namespace Ow
open PySem PySem.Spec PyProof.Rows
open PySem.W (findIn isFn InstAt looks_findIn special_fn ifBound_K truthy_K CmpBack BoolBack)
section
variable {prog : Program} {w : World} {A : Around} {E : Value → Shared → Prop} {s : Shared} {K : PySem.W.Frag} {x y C f : Addr} {ox : Obj} {od : Option Obj}
/-- object's own unequal, over the text's equal -/
theorem objNe (X : K.In s.heap) (I : InstAt s.heap x ox C od) (hs : findIn K (.ref C) "__eq__" = some (some (.ref f))) (hf : isFn K (.ref f) = true) (hu : A.units < cLine) {Q : Fin → Shared → Prop}
    (hc : wpAny (model prog w) A (call (.ref f) [.ref x, .ref y]) (fun v s' => ∃ b, v = .bool b ∧ Q (.done (.ret (.bool (!b)))) s') E s) :
    wpAny (model prog w) A (Builtin.«object.__ne__» ⟨[.ref x, .ref y], []⟩) Q E s := by
  obtain ⟨hp, g, d, tk, os⟩ := s
  unfold Builtin.«object.__ne__»
  repeat (first
    | with_reducible refine wpAny_cRoomFor hu ?_
    | (refine wpAny_bind (m := callSpecialIfBound? (.ref x) (Str.ofString "__eq__") [.ref y])
        (ifBound_K X I hs hf (wpAny_mono hc (fun r s' hr => by
          obtain ⟨b, rfl, hq⟩ := hr
          repeat (first | exact hq | exact wpAny_pure hq | exact wpAny_truthy_bool hq | (refine wpAny_bind (m := truthy (.bool _)) (wpAny_truthy_bool ?_)) | wp_step)) fun _ _ e => e)))
    | wp_step)
theorem tryNe (X : K.In s.heap) (I : InstAt s.heap x ox C od) (hn : findIn K (.ref C) "__ne__" = some (some (.builtin "object.__ne__"))) (hs : findIn K (.ref C) "__eq__" = some (some (.ref f))) (hf : isFn K (.ref f) = true)
    (hb : PySem.W.mroIn K C (.type "object") = some true) (hu : A.units + 1 < cLine) {Q : Option Value → Shared → Prop}
    (hc : wpAny (model prog w) A.in1 (call (.ref f) [.ref x, .ref y]) (fun v s' => ∃ b, v = .bool b ∧ Q (some (.bool (!b))) s') E s) :
    wpAny (model prog w) A (tryCompare (.ref x) "__ne__" (.ref y)) Q E s := by
  simp only [tryCompare]
  have hcall : wpAny (model prog w) A (call (.builtin "object.__ne__") (.ref x :: [.ref y])) (fun v s' => ∃ b, v = .bool b ∧ Q (some (.bool b)) s') E s := by
    refine wpAny_call (codeAny_call_builtin PySem.F.cmp_object.ne.plain PySem.F.cmpEntry_ne ?_)
    refine PySem.W.check_slot PySem.F.cmpKind_ne PySem.F.cmpSplit_ne ?_ (PySem.F.cmpArgs_ne _ _) ?_
    · exact I.type.andThen (PySem.W.looks_mroIn X hb)
    · refine objNe (A := A.in1) X I hs hf hu (wpAny_mono hc (fun v s' hv => ?_) fun _ _ e => e)
      obtain ⟨b, rfl, hq⟩ := hv
      exact ⟨b, rfl, ⟨_, rfl, hq⟩⟩
  refine wpAny_bind ?_
  simp only [callSpecialIfBound?, bindSpecialIfBound?]
  refine wpAny_holding (wpAny_bind (wpAny_bind (wpAny_bind (I.type.here ((looks_findIn X hn).here ?_)))))
  simp only [PySem.F.cmp_object.ne.bind]
  refine wpAny_bind (wpAny_askSetting (wpAny_ite ?_))
  have fin : wpAny (model prog w) A (call (.builtin "object.__ne__") ([.ref x] ++ [.ref y]) >>= fun v => pure (some v)) (fun r s' => ∃ b, r = some (.bool b) ∧ Q (some (.bool b)) s') E s :=
    wpAny_bind (wpAny_mono hcall (fun v s' ⟨b, e, q⟩ => wpAny_pure ⟨b, by rw [e], q⟩) fun _ _ h' => h')
  have fin2 : wpAny (model prog w) A (call (.builtin "object.__ne__") ([.ref x] ++ [.ref y]) >>= fun v => pure (some v)) (fun a s' => wpAny (model prog w) A (match a with | some Value.notImplemented => pure none | none => pure none | some r => pure (some r)) Q E s') E s :=
    wpAny_mono fin (fun r s' ⟨b, e, q⟩ => by rw [e]; exact wpAny_pure q) fun _ _ h' => h'
  split
  · exact wpAny_bind (wpAny_pure (wpAny_pure fin2))
  · exact wpAny_tryCatch (wpAny_bind (wpAny_pure (wpAny_pure fin2)))
theorem neq_own (X : K.In s.heap) (I : InstAt s.heap x ox C od) {oy : Obj} {ody : Option Obj} (J : InstAt s.heap y oy C ody) (hn : findIn K (.ref C) "__ne__" = some (some (.builtin "object.__ne__"))) (hs : findIn K (.ref C) "__eq__" = some (some (.ref f))) (hf : isFn K (.ref f) = true)
    (hb : PySem.W.mroIn K C (.type "object") = some true) (hu : A.units + 1 < cLine) {Q : Value → Shared → Prop}
    (hc : wpAny (model prog w) A.in1 (call (.ref f) [.ref x, .ref y]) (fun v s' => ∃ b, v = .bool b ∧ Q (.bool (!b)) s') E s) :
    wpAny (model prog w) A (compareOp .NotEq (.ref x) (.ref y)) Q E s := by
  unfold compareOp richCompare
  simp only [oneThing_ref]
  refine wpAny_holding ?_
  refine wpAny_bind (wpAny_cRoomFor (Nat.lt_of_succ_lt hu) ?_)
  rw [cmpInfo_NotEq]
  dsimp only
  refine wpAny_bind (I.type.here (wpAny_bind (J.type.here ?_)))
  rw [show (Value.ref C != Value.ref C) = false from by simp]
  simp only [Bool.false_eq_true, if_false]
  refine wpAny_bind (wpAny_pure ?_)
  simp only [Bool.false_eq_true, if_false]
  refine wpAny_bind (tryNe X I hn hs hf hb hu (wpAny_mono hc (fun v s' hv => ?_) fun _ _ e => e))
  obtain ⟨b, rfl, hq⟩ := hv
  exact ⟨b, rfl, wpAny_pure hq⟩
/-- bool(x) by an own __bool__ -/
theorem bool_own (X : K.In s.heap) (I : InstAt s.heap x ox C od) (hs : findIn K (.ref C) "__bool__" = some (some (.ref f))) (hf : isFn K (.ref f) = true) {Q : Value → Shared → Prop}
    (h : wpAny (model prog w) A.in1.in1 (call (.ref f) [.ref x]) (fun v s' => ∃ b, v = .bool b ∧ Q (.bool b) s') E s) : wpAny (model prog w) A (call (.type "bool") [.ref x]) Q E s := by
  refine callType_codes (T := "bool") (Bi := Builtin.«object.__init__») (Q₁ := fun r s₁ => ∃ b, r = Value.bool b ∧ Q r s₁) PySem.F.called_bool (PySem.F.typeCall_bool_1 _) PySem.F.entry_object_init ?_ ?_
  · refine codeAny_of_tree ?_
    show wpAny _ A.in1.in1 (do checkBuiltinCall "bool.__new__" ⟨[.type "bool", .ref x], []⟩; again (.builtin "bool.__new__" ⟨[.type "bool", .ref x], []⟩)) _ _ s
    refine wpAny_bind (wpAny_of_eq (PySem.F.newCall_bool_1 _) (wpAny_pure ⟨plainId_quiet (by decide +kernel) _, codeAny_builtin PySem.F.entry_bool_new ?_⟩))
    rw [Around.under_plainId (by decide +kernel) _]
    unfold Builtin.«bool.__new__»
    refine wpAny_bind (wpAny_of_eq (a := true) (by kernel_rfl) ?_)
    refine PySem.W.KFB.if_not rfl ?_
    refine wpAny_bind (wpAny_of_eq (a := true) PySem.F.conv_sub_bool ?_)
    refine PySem.W.KFB.if_not rfl ?_
    refine wpAny_bind (wpAny_of_eq (a := [.ref x]) rfl ?_)
    refine wpAny_bind ?_
    unfold truthy
    refine wpAny_bind (m := callSpecial? (.ref x) (Str.ofString "__bool__")) (special_fn X I hs (beq_iff_eq.mp hf) (wpAny_mono h (fun r s' hr => ?_) fun _ _ y => y))
    obtain ⟨b, rfl, hq⟩ := hr
    exact wpAny_pure (wpAny_pure ⟨b, rfl, hq⟩)
  · rintro obj s₁ ⟨b, rfl, hq⟩
    exact ⟨PySem.typeIs_bool _ _, PySem.F.args_object_init_2 _ _, object_init_meets PySem.F.called_bool.init.lookup PySem.F.called_bool.made (by decide) prog w A.in1 _ s₁ ⟨PySem.typeIs_bool _ _, rfl, hq⟩⟩
end
end Ow

namespace Ow
open PySem PySem.Spec PyProof.Rows L2
/-- the class at C as these rules want it -/
structure OCls (K : PySem.W.Frag) (C : Addr) : Prop where
  first : PySem.W.selfFirst K C = true
  ob : PySem.W.mroIn K C (.type "object") = some true
  ne : PySem.W.findIn K (.ref C) "__ne__" = some (some (.builtin "object.__ne__"))
  nf : PySem.W.notFirst K C (.ref C) = true
/-- a method at f under the name m -/
structure OM (K : PySem.W.Frag) (C : Addr) (m : Str) (f : Addr) : Prop where
  at_ : PySem.W.findIn K (.ref C) m = some (some (.ref f))
  fn : PySem.W.isFn K (.ref f) = true
section
variable {X : Cx} {CX : CXT} {C f : Addr} {n : Nat} {fd : FuncData} {ps : List Str} {sp : Sp} {E : XK}
theorem cback {P : Value → Shared → Prop} {z : V} {v : Value} {s' : Shared} (r : RelV z v) (h : P v s') : PySem.W.CmpBack P v s' := by
  cases z <;> first | (obtain ⟨t, e⟩ := r; subst e; exact h) | (have e := r; simp only [L2.RelV] at e; subst e; exact h)
/-- the called def, some level below -/
theorem run_in {pins : List (Addr × Obj)} {σ : L2.St} {H : Hp} {s : Shared} {A : Around} {Q : VK} {us : List Value} {ws : List V} (F : FnOk X.prog X.w X.K X.mg X.base CX n f fd ps sp) (hr : Room n A) (e0 : Env0 X.prog X.w X.K X.mg X.base A X.stack s H)
    (hb : Binds X.K fd ps []) (hx : Passes CX X E) (I : Inv X pins σ H s) (r : Vals ws us) (h : sp ws H Q E) : wpAny (model X.prog X.w) A (call (.ref f) us) (EP X pins σ Q) X.xe s := by
  have hl : us.length = ps.length := by rw [← r.length]; exact F.len _ _ _ _ h
  have hb2 := hb s us I.kIn (by simpa using hl)
  simp only [List.append_nil] at hb2
  refine wpAny_call (codeAny_mono (F.run A X.stack s H ⟨us, []⟩ us ws Q E hr e0 hb2 r h) fun r s' hq => ?_)
  cases r with
  | error e => exact hx pins σ H s e s' I hq
  | ok fl =>
    cases fl with
    | ret u => exact I.after hq
    | next => exact False.elim hq
    | brk => exact False.elim hq
    | cont => exact False.elim hq
/-- x op y of two instances of one class -/
def rBin (C : Addr) (sp : Sp) (E : XK) : R2 := fun x y H Q => ∃ a b dx fs dy gs, x = .ref a ∧ y = .ref b ∧ H a = some (.ins C dx fs) ∧ H b = some (.ins C dy gs) ∧ sp [.ref a, .ref b] H Q E
theorem op_bin {op : Operator} (oc : OCls X.K C) (om : OM X.K C (PySem.dunder op.info.2) f) (F : FnOk X.prog X.w X.K X.mg X.base CX n f fd ps sp) (hr : Room n X.A) (hb : Binds X.K fd ps []) (hx : Passes CX X E) :
    OpR X (binaryOp op) (rBin C sp E) := by
  intro pins s σ H x y v u Q I rx ry h
  obtain ⟨a, b, dx, fs, dy, gs, rfl, rfl, ha, hb', q⟩ := h
  cases rx
  cases ry
  obtain ⟨mA, J, _⟩ := ins_get I.hok ha
  obtain ⟨mB, J', _⟩ := ins_get I.hok hb'
  obtain ⟨od, J, _⟩ := J.look
  obtain ⟨od', J', _⟩ := J'.look
  obtain ⟨m, hF⟩ := I.fr
  refine PySem.W.binop_K hF I.ok.mod.kin J J'.type oc.first om.at_ om.fn ?_
  refine wpAny_mono (run_in (us := [.ref a, .ref b]) (ws := [.ref a, .ref b]) F hr I.env0 hb hx I (.cons rfl (.cons rfl .nil)) q) (fun w s' ⟨z, H', I', rz, qz⟩ => cback rz ⟨z, H', I', rz, qz⟩) fun _ _ e => e
/-- x == y -/
theorem op_eqO (oc : OCls X.K C) (om : OM X.K C "__eq__" f) (F : FnOk X.prog X.w X.K X.mg X.base CX n f fd ps sp) (hr : Room n X.A) (hb : Binds X.K fd ps []) (hx : Passes CX X E) : OpR X (compareOp .Eq) (rBin C sp E) := by
  intro pins s σ H x y v u Q I rx ry h
  obtain ⟨a, b, dx, fs, dy, gs, rfl, rfl, ha, hb', q⟩ := h
  cases rx
  cases ry
  obtain ⟨mA, J, _⟩ := ins_get I.hok ha
  obtain ⟨mB, J', _⟩ := ins_get I.hok hb'
  obtain ⟨od, J, _⟩ := J.look
  obtain ⟨od', J', _⟩ := J'.look
  obtain ⟨m, hF⟩ := I.fr
  show wpAny _ _ (richCompare .Eq _ _) _ _ _
  refine PySem.W.cmp_K (op := .Eq) (tb := .ref C) hr.units0 hF I.ok.mod.kin J J'.type oc.nf om.at_ om.fn ?_
  refine wpAny_mono (run_in (us := [.ref a, .ref b]) (ws := [.ref a, .ref b]) F hr I.env0 hb hx I (.cons rfl (.cons rfl .nil)) q) (fun w s' ⟨z, H', I', rz, qz⟩ => cback rz ⟨z, H', I', rz, qz⟩) fun _ _ e => e
/-- x != y, by an own equal that answers a bool -/
def rBinN (C : Addr) (sp : Sp) (E : XK) : R2 := fun x y H Q => ∃ a b dx fs dy gs, x = .ref a ∧ y = .ref b ∧ H a = some (.ins C dx fs) ∧ H b = some (.ins C dy gs) ∧ sp [.ref a, .ref b] H (fun z H' => ∃ k, z = .bl k ∧ Q (.bl (!k)) H') E
theorem op_neO (oc : OCls X.K C) (om : OM X.K C "__eq__" f) (F : FnOk X.prog X.w X.K X.mg X.base CX n f fd ps sp) (hr : Room (n + 1) X.A) (hb : Binds X.K fd ps []) (hx : Passes CX X E) : OpR X (compareOp .NotEq) (rBinN C sp E) := by
  intro pins s σ H x y v u Q I rx ry h
  obtain ⟨a, b, dx, fs, dy, gs, rfl, rfl, ha, hb', q⟩ := h
  cases rx
  cases ry
  obtain ⟨mA, J, _⟩ := ins_get I.hok ha
  obtain ⟨mB, J', _⟩ := ins_get I.hok hb'
  obtain ⟨od, J, _⟩ := J.look
  obtain ⟨od', J', _⟩ := J'.look
  refine neq_own I.kIn J J' oc.ne om.at_ om.fn oc.ob (hu_of hr) ?_
  refine wpAny_mono (run_in (us := [.ref a, .ref b]) (ws := [.ref a, .ref b]) F hr.in1 I.env0.in1 hb hx I (.cons rfl (.cons rfl .nil)) q) (fun w s' ⟨z, H', I', rz, k, ez, qz⟩ => ?_) fun _ _ e => e
  subst ez
  exact ⟨k, rz, .bl (!k), H', I', rfl, qz⟩
/-- -x -/
def rNegO (C : Addr) (sp : Sp) (E : XK) : V → Hp → VK → Prop := fun x H Q => ∃ a dx fs, x = .ref a ∧ H a = some (.ins C dx fs) ∧ sp [.ref a] H Q E
theorem un_negO (om : OM X.K C "__neg__" f) (F : FnOk X.prog X.w X.K X.mg X.base CX n f fd ps sp) (hr : Room n X.A) (hb : Binds X.K fd ps []) (hx : Passes CX X E) : UnR X (unaryOp .USub) (rNegO C sp E) := by
  intro pins s σ H x v Q I rx h
  obtain ⟨a, dx, fs, rfl, ha, q⟩ := h
  cases rx
  obtain ⟨mA, J, _⟩ := ins_get I.hok ha
  obtain ⟨od, J, _⟩ := J.look
  obtain ⟨m, hF⟩ := I.fr
  refine PySem.W.ksp_neg hF I.ok.mod.kin J om.at_ om.fn ?_
  exact run_in (us := [.ref a]) (ws := [.ref a]) F hr I.env0 hb hx I (.cons rfl .nil) q
/-- bool(x) by an own __bool__ -/
def rBoolO (C : Addr) (sp : Sp) (E : XK) : List V → Hp → VK → Prop := fun xs H Q => ∃ a dx fs, xs = [.ref a] ∧ H a = some (.ins C dx fs) ∧ sp [.ref a] H (fun z H' => ∃ k, z = .bl k ∧ Q (.bl k) H') E
theorem call_boolO (om : OM X.K C "__bool__" f) (F : FnOk X.prog X.w X.K X.mg X.base CX n f fd ps sp) (hr : Room (n + 2) X.A) (hb : Binds X.K fd ps []) (hx : Passes CX X E) : CallR X (.type "bool") (rBoolO C sp E) := by
  intro pins s σ H xs us Q I r h
  obtain ⟨a, dx, fs, rfl, ha, q⟩ := h
  obtain ⟨u, rfl, ru⟩ := vals1 r
  cases ru
  obtain ⟨mA, J, _⟩ := ins_get I.hok ha
  obtain ⟨od, J, _⟩ := J.look
  have hr2 : Room n X.A.in1.in1 := (show Room (n + 1) X.A.in1 from Room.in1 hr).in1
  refine bool_own I.kIn J om.at_ om.fn ?_
  refine wpAny_mono (run_in (us := [.ref a]) (ws := [.ref a]) F hr2 I.env0.in1.in1 hb hx I (.cons rfl .nil) q) (fun w s' ⟨z, H', I', rz, k, ez, qz⟩ => ?_) fun _ _ e => e
  subst ez
  exact ⟨k, rz, .bl k, H', I', rfl, qz⟩
/-- powers with a large base -/
def CPowW (i j : Int) : Prop := 0 ≤ j ∧ (Builtin.Int.intBits i : Int) * j ≤ 2 ^ 27
theorem op_powW : OpR X (binaryOp .Pow) (rI CPowW fun i j => .int (i ^ j.toNat)) := by
  intro pins s σ H x y v u Q I rx ry h
  obtain ⟨i, j, rfl, rfl, hc, q⟩ := h
  obtain ⟨t, rfl⟩ := rx
  obtain ⟨t', rfl⟩ := ry
  exact pow_int hc.1 hc.2 ⟨.int _, H, I.tok _, ⟨_, rfl⟩, q⟩
end
/-! ### a def of the module by its promise -/
/-- the def under the name x keeps the promise sp, by at most level k -/
structure Cal (P : Program) (w : World) (K : PySem.W.Frag) (mg : Str → Option Value) (base : Heap) (x : Str) (k : Nat) (sp : Sp) : Prop where
  ex : ∃ f fd ps, FnOk P w K mg base CX0 k f fd ps sp ∧ mg x = some (.ref f) ∧ PySem.W.keepIn K (.ref f) = true ∧ Binds K fd ps []
section
variable {X : Cx} {x : Str} {k : Nat} {sp : Sp} {e : Expr} {es : List Expr} {t : TA} {p pos : Pos}
theorem pe_cal (C : Cal X.prog X.w X.K X.mg X.base x k sp) (hr : Room k X.A) (hg : Gl X x) (ha : PA X (e :: es) t) (hdb : (x == ("__debug__" : Str)) = false := by decide)
    (he : starEach (e :: es) X.env = (false, eval e X.env) :: starEach es X.env := by rfl) (hpl : (backTo pos (starEach es X.env)).any (·.1) = false := by rfl) : PE X (.Call (.Name x p) (e :: es) [] pos) (tCall sp [] E0 t) := by
  obtain ⟨f, fd, ps, F, hm, hk, hb⟩ := C.ex
  exact pe_call F hr hg hm hk hb .nil pass0 ha hdb he hpl
theorem pe_cal0 (C : Cal X.prog X.w X.K X.mg X.base x k sp) (hr : Room k X.A) (hg : Gl X x) (hdb : (x == ("__debug__" : Str)) = false := by decide) : PE X (.Call (.Name x p) [] [] pos) (tCall sp [] E0 tNil) := by
  obtain ⟨f, fd, ps, F, hm, hk, hb⟩ := C.ex
  exact pe_call0 F hr hg hm hk hb .nil pass0 hdb
end
end Ow

namespace Ow
open PySem PySem.Spec PyProof.Rows L2
section
variable {X : Cx} {CX : CXT} {C f : Addr} {n : Nat} {fd : FuncData} {ps : List Str} {sp : Sp} {E : XK}
/-- str(x) by an own __str__ -/
def rStrO (C : Addr) (sp : Sp) (E : XK) : List V → Hp → VK → Prop := fun xs H Q => ∃ a dx fs, xs = [.ref a] ∧ H a = some (.ins C dx fs) ∧ sp [.ref a] H (fun z H' => ∃ y, z = .str y ∧ Q (.str y) H') E
theorem call_strO (om : OM X.K C "__str__" f) (F : FnOk X.prog X.w X.K X.mg X.base CX n f fd ps sp) (hr : Room (n + 2) X.A) (hb : Binds X.K fd ps []) (hx : Passes CX X E) : CallR X (.type "str") (rStrO C sp E) := by
  intro pins s σ H xs us Q I r h
  obtain ⟨a, dx, fs, rfl, ha, q⟩ := h
  obtain ⟨u, rfl, ru⟩ := vals1 r
  cases ru
  obtain ⟨mA, J, _⟩ := ins_get I.hok ha
  obtain ⟨od, J, _⟩ := J.look
  have hr2 : Room n X.A.in1.in1 := (show Room (n + 1) X.A.in1 from Room.in1 hr).in1
  refine PySem.W.kso_call hr2.units0 I.kIn J om.at_ om.fn ?_
  refine wpAny_mono (run_in (us := [.ref a]) (ws := [.ref a]) F hr2 I.env0.in1.in1 hb hx I (.cons rfl .nil) q) (fun w s' ⟨z, H', I', rz, y, ez, qz⟩ => ?_) fun _ _ e => e
  subst ez
  obtain ⟨t, rfl⟩ := rz
  exact ⟨.str y, H', I', ⟨t, rfl⟩, qz⟩
/-- a text of parts, by a name -/
def tJn (ts : List TE) : TE := fun σ H Q => tJs ts Str.empty σ H fun out H1 => Q (.str out) H1
theorem pe_fstr {v1 v2 : Expr} {rest : List Expr} {ts : List TE} {pos : Pos} (h : PJ X (v1 :: v2 :: rest) ts) : PE X (.JoinedStr (v1 :: v2 :: rest) pos) (tJn ts) := pe_joined h
theorem u65 {A : Around} {k : Nat} (hr : Room k A) : A.units + 65 < cLine := by
  have := hr.un
  omega
def rInT (K : PySem.W.Frag) : R2 := fun x y H Q => ∃ d ds, Dp K H x d ∧ Dp K H y (.tuple ds) ∧ SeqAt.shaped d = true ∧ SeqAt.shaped (.tuple ds) = true ∧ Q (.bl (ds.any fun z => PyData.eqv z d)) H
theorem op_inT (hu : X.A.units + 65 < cLine) : OpR X (compareOp .In) (rInT X.K) := by
  intro pins s σ H x y v u Q I rx ry h
  obtain ⟨d, ds, hd, he, sd, se, q⟩ := h
  obtain ⟨as, r1⟩ := Dp.reads I d x v hd rx
  obtain ⟨bs, r2⟩ := Dp.reads I (.tuple ds) y u he ry
  exact SeqAt.in_tuple_reads r2 r1 (SeqAt.canLay_of_shaped se) (SeqAt.canLay_of_shaped sd) (room_in_shaped (xs := ds) sd hu) ⟨.bl _, H, I, rfl, q⟩
end
end Ow

namespace Ow
open PySem PySem.Spec PyProof.Rows
open PySem.W (findIn isFn InstAt looks_findIn special_fn ifBound_K)
section
variable {prog : Program} {w : World} {A : Around} {E : Value → Shared → Prop} {s : Shared} {K : PySem.W.Frag} {x C f : Addr} {y tb : Value} {ox : Obj} {od : Option Obj}
theorem objNeV (X : K.In s.heap) (I : InstAt s.heap x ox C od) (hs : findIn K (.ref C) "__eq__" = some (some (.ref f))) (hf : isFn K (.ref f) = true) (hu : A.units < cLine) {Q : Fin → Shared → Prop}
    (hc : wpAny (model prog w) A (call (.ref f) [.ref x, y]) (fun v s' => ∃ b, v = .bool b ∧ Q (.done (.ret (.bool (!b)))) s') E s) :
    wpAny (model prog w) A (Builtin.«object.__ne__» ⟨[.ref x, y], []⟩) Q E s := by
  obtain ⟨hp, g, d, tk, os⟩ := s
  unfold Builtin.«object.__ne__»
  repeat (first
    | with_reducible refine wpAny_cRoomFor hu ?_
    | (refine wpAny_bind (m := callSpecialIfBound? (.ref x) (Str.ofString "__eq__") [y])
        (ifBound_K X I hs hf (wpAny_mono hc (fun r s' hr => by
          obtain ⟨b, rfl, hq⟩ := hr
          repeat (first | exact hq | exact wpAny_pure hq | exact wpAny_truthy_bool hq | (refine wpAny_bind (m := truthy (.bool _)) (wpAny_truthy_bool ?_)) | wp_step)) fun _ _ e => e)))
    | wp_step)
theorem tryNeV (X : K.In s.heap) (I : InstAt s.heap x ox C od) (hn : findIn K (.ref C) "__ne__" = some (some (.builtin "object.__ne__"))) (hs : findIn K (.ref C) "__eq__" = some (some (.ref f))) (hf : isFn K (.ref f) = true)
    (hb : PySem.W.mroIn K C (.type "object") = some true) (hu : A.units + 1 < cLine) {Q : Option Value → Shared → Prop}
    (hc : wpAny (model prog w) A.in1 (call (.ref f) [.ref x, y]) (fun v s' => ∃ b, v = .bool b ∧ Q (some (.bool (!b))) s') E s) :
    wpAny (model prog w) A (tryCompare (.ref x) "__ne__" y) Q E s := by
  simp only [tryCompare]
  have hcall : wpAny (model prog w) A (call (.builtin "object.__ne__") (.ref x :: [y])) (fun v s' => ∃ b, v = .bool b ∧ Q (some (.bool b)) s') E s := by
    refine wpAny_call (codeAny_call_builtin PySem.F.cmp_object.ne.plain PySem.F.cmpEntry_ne ?_)
    refine PySem.W.check_slot PySem.F.cmpKind_ne PySem.F.cmpSplit_ne ?_ (PySem.F.cmpArgs_ne _ _) ?_
    · exact I.type.andThen (PySem.W.looks_mroIn X hb)
    · refine objNeV (A := A.in1) X I hs hf hu (wpAny_mono hc (fun v s' hv => ?_) fun _ _ e => e)
      obtain ⟨b, rfl, hq⟩ := hv
      exact ⟨b, rfl, ⟨_, rfl, hq⟩⟩
  refine wpAny_bind ?_
  simp only [callSpecialIfBound?, bindSpecialIfBound?]
  refine wpAny_holding (wpAny_bind (wpAny_bind (wpAny_bind (I.type.here ((looks_findIn X hn).here ?_)))))
  simp only [PySem.F.cmp_object.ne.bind]
  refine wpAny_bind (wpAny_askSetting (wpAny_ite ?_))
  have fin : wpAny (model prog w) A (call (.builtin "object.__ne__") ([.ref x] ++ [y]) >>= fun v => pure (some v)) (fun r s' => ∃ b, r = some (.bool b) ∧ Q (some (.bool b)) s') E s :=
    wpAny_bind (wpAny_mono hcall (fun v s' ⟨b, e, q⟩ => wpAny_pure ⟨b, by rw [e], q⟩) fun _ _ h' => h')
  have fin2 : wpAny (model prog w) A (call (.builtin "object.__ne__") ([.ref x] ++ [y]) >>= fun v => pure (some v)) (fun a s' => wpAny (model prog w) A (match a with | some Value.notImplemented => pure none | none => pure none | some r => pure (some r)) Q E s') E s :=
    wpAny_mono fin (fun r s' ⟨b, e, q⟩ => by rw [e]; exact wpAny_pure q) fun _ _ h' => h'
  split
  · exact wpAny_bind (wpAny_pure (wpAny_pure fin2))
  · exact wpAny_tryCatch (wpAny_bind (wpAny_pure (wpAny_pure fin2)))
theorem neq_other {T : String} (X : K.In s.heap) (I : InstAt s.heap x ox C od) (J : PySem.W.Looks (model prog w) s.heap (typeOf y) (.type T)) (nf : PySem.W.subIn K (.type T) (.ref C) = some false) (hn : findIn K (.ref C) "__ne__" = some (some (.builtin "object.__ne__"))) (hs : findIn K (.ref C) "__eq__" = some (some (.ref f))) (hf : isFn K (.ref f) = true)
    (hb : PySem.W.mroIn K C (.type "object") = some true) (hu : A.units + 1 < cLine) {Q : Value → Shared → Prop}
    (hc : wpAny (model prog w) A.in1 (call (.ref f) [.ref x, y]) (fun v s' => ∃ b, v = .bool b ∧ Q (.bool (!b)) s') E s) :
    wpAny (model prog w) A (compareOp .NotEq (.ref x) y) Q E s := by
  unfold compareOp richCompare
  simp only [oneThing_ref]
  refine wpAny_holding ?_
  refine wpAny_bind (wpAny_cRoomFor (Nat.lt_of_succ_lt hu) ?_)
  rw [cmpInfo_NotEq]
  dsimp only
  refine wpAny_bind (I.type.here (wpAny_bind (J.here ?_)))
  rw [show (Value.ref C != Value.type T) = true from by simp]
  simp only [if_true]
  refine wpAny_bind ((PySem.W.looks_subIn X nf).here ?_)
  simp only [Bool.false_eq_true, if_false]
  refine wpAny_bind (tryNeV X I hn hs hf hb hu (wpAny_mono hc (fun v s' hv => ?_) fun _ _ e => e))
  obtain ⟨b, rfl, hq⟩ := hv
  exact ⟨b, rfl, wpAny_pure hq⟩
end
end Ow
namespace Ow
open PySem PySem.Spec PyProof.Rows L2
section
variable {X : Cx} {CX : CXT} {C f : Addr} {n : Nat} {fd : FuncData} {ps : List Str} {sp : Sp} {E : XK}
/-- x == y, y of a built-in class -/
def rBinX (K : PySem.W.Frag) (C : Addr) (sp : Sp) (E : XK) : R2 := fun x y H Q => ∃ a dx fs T, x = .ref a ∧ H a = some (.ins C dx fs) ∧ TyX K H y (.type T) ∧ PySem.W.subIn K (.type T) (.ref C) = some false ∧ sp [.ref a, y] H Q E
theorem nf_of {K : PySem.W.Frag} {T : String} (h : PySem.W.subIn K (.type T) (.ref C) = some false) : PySem.W.notFirst K C (.type T) = true := by
  unfold PySem.W.notFirst
  rw [h]
  simp
theorem op_eqX (om : OM X.K C "__eq__" f) (F : FnOk X.prog X.w X.K X.mg X.base CX n f fd ps sp) (hr : Room n X.A) (hb : Binds X.K fd ps []) (hx : Passes CX X E) : OpR X (compareOp .Eq) (rBinX X.K C sp E) := by
  intro pins s σ H x y v u Q I rx ry h
  obtain ⟨a, dx, fs, T, rfl, ha, ty, nf, q⟩ := h
  cases rx
  obtain ⟨mA, J, _⟩ := ins_get I.hok ha
  obtain ⟨od, J, _⟩ := J.look
  obtain ⟨m, hF⟩ := I.fr
  obtain ⟨Pu, Z, pu, _⟩ := kit_of I ry ty
  show wpAny _ _ (richCompare .Eq _ _) _ _ _
  refine PySem.W.cmp_K (op := .Eq) (tb := .type T) hr.units0 hF I.ok.mod.kin J (Z.ty _ _ I.kIn pu) (nf_of nf) om.at_ om.fn ?_
  refine wpAny_mono (run_in (us := [.ref a, u]) (ws := [.ref a, y]) F hr I.env0 hb hx I (.cons rfl (.cons ry .nil)) q) (fun w s' ⟨z, H', I', rz, qz⟩ => cback rz ⟨z, H', I', rz, qz⟩) fun _ _ e => e
def rBinNX (K : PySem.W.Frag) (C : Addr) (sp : Sp) (E : XK) : R2 := fun x y H Q => ∃ a dx fs T, x = .ref a ∧ H a = some (.ins C dx fs) ∧ TyX K H y (.type T) ∧ PySem.W.subIn K (.type T) (.ref C) = some false ∧ sp [.ref a, y] H (fun z H' => ∃ k, z = .bl k ∧ Q (.bl (!k)) H') E
theorem op_neX (oc : OCls X.K C) (om : OM X.K C "__eq__" f) (F : FnOk X.prog X.w X.K X.mg X.base CX n f fd ps sp) (hr : Room (n + 1) X.A) (hb : Binds X.K fd ps []) (hx : Passes CX X E) : OpR X (compareOp .NotEq) (rBinNX X.K C sp E) := by
  intro pins s σ H x y v u Q I rx ry h
  obtain ⟨a, dx, fs, T, rfl, ha, ty, nf, q⟩ := h
  cases rx
  obtain ⟨mA, J, _⟩ := ins_get I.hok ha
  obtain ⟨od, J, _⟩ := J.look
  obtain ⟨Pu, Z, pu, _⟩ := kit_of I ry ty
  refine neq_other I.kIn J (Z.ty _ _ I.kIn pu) nf oc.ne om.at_ om.fn oc.ob (hu_of hr) ?_
  refine wpAny_mono (run_in (us := [.ref a, u]) (ws := [.ref a, y]) F hr.in1 I.env0.in1 hb hx I (.cons rfl (.cons ry .nil)) q) (fun w s' ⟨z, H', I', rz, k, ez, qz⟩ => ?_) fun _ _ e => e
  subst ez
  exact ⟨k, rz, .bl (!k), H', I', rfl, qz⟩
end
end Ow

/-! enumerate of a tuple -/
namespace Ow
open PySem PySem.Spec PyProof.Rows L2
set_option maxHeartbeats 8000000 in
theorem enum1_new {v : Value} {o : Obj} {Hy : Heap → Prop} (B : Begins v o Hy) : Meets (Builtin.«enumerate.__new__» ⟨[.type "enumerate", v], []⟩) (fun _ R s => Hy s.heap ∧
    R (.ok (.ret (.ref (s.heap.push o).objs.size))) { s with heap := (s.heap.push o).push { cls := .type "enumerate", data := .fields #[.none, .bool false, .ref s.heap.objs.size, rawInt 0, .none, .none] } }) := .of_wp fun prog w A R s h => by
  obtain ⟨hp, g, d, tk, os⟩ := s
  obtain ⟨h1, h⟩ := h
  have sb := sub_enumerate
  have q1 {A' : Around} {E Q : Value → Shared → Prop} (q : Q (.ref hp.objs.size) ⟨hp.push o, g, d, tk, os⟩) : wpAny (model prog w) A' (pyIter v) Q E ⟨hp, g, d, tk, os⟩ := B.iter prog w _ _ ⟨hp, g, d, tk, os⟩ _ h1 q
  wp_walk using q1
  apply wpAny_stack_any; intro st; apply wpAny_pure
  split
  · rename_i c _ _ _ _ _; cases (c == Value.type "enumerate") <;> (wp_walk using q1; exact ⟨_, rfl, h⟩)
  · wp_walk using q1; exact ⟨_, rfl, h⟩
section
variable {prog : Program} {w : World} {A : Around} {E : Value → Shared → Prop} {s : Shared}
theorem enum1_call {v : Value} {o : Obj} {Hy : Heap → Prop} {Q : Value → Shared → Prop} (B : Begins v o Hy) (h1 : Hy s.heap)
    (h : ∀ h', IsEnum h' (s.heap.objs.size + 1) s.heap.objs.size 0 .none → h'.get? s.heap.objs.size = some o → (∀ b u, s.heap.get? b = some u → h'.get? b = some u) → Q (.ref (s.heap.objs.size + 1)) { s with heap := h' }) :
    wpAny (model prog w) A (call (.type "enumerate") [v]) Q E s := by
  refine callType_new F.called_enumerate (by decide) (F.typeCall_enumerate_1 _) (F.newCall_enumerate_1 _) (fun ob => F.args_object_init_2 ob _) F.entry_enumerate_new (enum1_new B) ⟨h1, ?_⟩
  have z1 : (s.heap.push o).objs.size = s.heap.objs.size + 1 := Heap.size_push ..
  have he : IsEnum ((s.heap.push o).push { cls := .type "enumerate", data := .fields #[.none, .bool false, .ref s.heap.objs.size, rawInt 0, .none, .none] }) (s.heap.objs.size + 1) s.heap.objs.size 0 .none := by
    have q := Heap.get?_push_size (s.heap.push o) (o := { cls := .type "enumerate", data := .fields #[.none, .bool false, .ref s.heap.objs.size, rawInt 0, .none, .none] }) rfl
    rwa [z1] at q
  show _ ∧ _
  rw [z1]
  exact ⟨⟨_, he, rfl⟩, h _ he (Heap.get?_push_of_some _ (Heap.get?_push_size _ B.free)) fun b u x => Heap.get?_push_of_some _ (Heap.get?_push_of_some _ x)⟩
end
/-- the tuple at a, each item in a new pair with its place -/
def IteT (K : PySem.W.Frag) (a : Addr) : It where
  go i H := ∃ (xs : List V) (x : V), SqT K H a xs ∧ xs[i]? = some x
  yld i H v H' := ∃ T x, v = .ref T ∧ H T = none ∧ H' = upd H T (.tup [.int (i : Nat), x]) ∧ ∀ xs, SqT K H a xs → xs[i]? = some x
  stop i H := ∃ xs : List V, SqT K H a xs ∧ xs.length ≤ i
theorem turn_enumT {P : Program} {w : World} {K : PySem.W.Frag} {elts : List Expr} {kk : Nat} {tpos : Pos} (a e it : Addr) :
    Turn P w K (.Tuple elts kk tpos) (IteT K a) [e, it] e (fun i h => (∃ old, IsEnum h e it ((i : Nat) : Int) old) ∧ h.IsTupleIter it a i ∧ e ≠ it ∧ a ≠ it ∧ a ≠ e) where
  mem := by simp
  obj := fun i h st b hb => by
    obtain ⟨⟨old, he⟩, ⟨o, ho, hc, hd⟩, _⟩ := st
    rcases (show b = e ∨ b = it by simpa using hb) with rfl | rfl
    · exact ⟨_, he, fun v q => nomatch q⟩
    · exact ⟨o, ho, fun v q => by rw [hd] at q; cases q⟩
  keep := fun i h h' st k => by
    obtain ⟨⟨old, he⟩, hi, ne⟩ := st
    exact ⟨⟨old, k e (by simp) _ he⟩, hi.at fun o q => k it (by simp) o q, ne⟩
  item := by
    intro X hP hw hK hc i pins s σ H E I hf st hg
    subst hP hw hK
    obtain ⟨⟨old, he⟩, hit, hne, nai, nae⟩ := st
    obtain ⟨xs, x, hq, hx⟩ := hg
    obtain ⟨its, rv, p, hz⟩ := I.tuple hq
    obtain ⟨u, hu, ru⟩ := rv.get hx
    have hel := Heap.lt_size he
    have hil : it < s.heap.objs.size := by
      obtain ⟨_, q, _⟩ := hit
      exact Heap.lt_size q
    have pt : s.heap.IsTuple a its.toArray := p
    have ilt : i < its.toArray.size := by
      have := (List.getElem?_eq_some_iff.mp hu).1
      simpa using this
    refine wpAny_pyNext_enum_itemD (Draws.tuple (A := X.A.in1) (show X.A.in1.handled = none from I.ok.hd hc) it a nai its.toArray) he ⟨hit, pt⟩ ilt hne (by simp [hne, Ne.symm nae]) fun y h' tk hy ho st' hT hsz hk => ?_
    obtain rfl : u = y := by
      have : its.toArray[i]? = some y := hy
      rw [show its.toArray[i]? = some u by simpa using hu] at this
      exact Option.some.inj this
    refine ⟨_, rfl, wpAny_letOwnedTupleGo_enum (s := { s with heap := h', toks := tk + 1 }) ho fun h2 he' sb => ?_⟩
    have hT2 : h2.get? s.heap.objs.size = some { cls := .type "tuple", data := .seq #[.int i tk, u] } := (sb.2 _ (Nat.ne_of_gt hel)).trans hT
    have ok : ObjOk X.prog X.w (upd H s.heap.objs.size (.tup [.int (i : Nat), x])) h2 s.heap.objs.size (.tup [.int (i : Nat), x]) := ⟨show 2 ≤ sizeLine by decide, [.int i tk, u], .cons ⟨_, rfl⟩ (.cons ru .nil), ⟨_, hT2, rfl, _, rfl⟩⟩
    have I1 : Inv X pins σ (upd H s.heap.objs.size (.tup [.int (i : Nat), x])) { s with heap := h2, toks := tk + 1 } :=
      I.turnedNew (ch := [e, it]) (fun b ob hb q => (sb.2 b fun z => hb (by simp [z])).trans (hk b ob (fun z => hb (by simp [z])) (fun z => hb (by simp [z])) q)) hf (Nat.le_refl _) ok
    refine ⟨.ref s.heap.objs.size, _, I1, rfl, ⟨_, x, rfl, I.hok.fresh (Nat.le_refl _), rfl, fun ys hy => I.tuple_inj hq hy ▸ hx⟩, ⟨⟨u, ?_⟩, st'.1.at fun o q => (sb.2 it (Ne.symm hne)).trans q, hne, nai, nae⟩, fun b hb => ?_⟩
    · rw [show ((i + 1 : Nat) : Int) = (i : Int) + 1 by omega]
      exact he'
    · have hb' : b < s.heap.objs.size := by rcases (show b = e ∨ b = it by simpa using hb) with rfl | rfl <;> assumption
      rw [upd_ne (Nat.ne_of_lt hb')]
      exact (hf b hb).1
  done := by
    intro X hP hw hK hc i pins s σ H E I hf st hg
    subst hP hw hK
    obtain ⟨⟨old, he⟩, hit, hne, nai, nae⟩ := st
    obtain ⟨xs, hq, hx⟩ := hg
    obtain ⟨its, rv, p, hz⟩ := I.tuple hq
    have fi := hf it (by simp)
    obtain ⟨f0, f1, f2, f3, f4, f5⟩ := fi
    have pt : s.heap.IsTuple a its.toArray := p
    have hl := rv.length
    have D : Draws X.prog X.w X.A.in1 it [it, a] i (fun _ _ => False) (fun j h => j = i ∧ h.IsTupleIter it a i ∧ h.IsTuple a its.toArray) :=
      { live := fun _ _ st => let ⟨o, ho, _⟩ := st.2.1; ⟨o, ho⟩
        frame := fun _ _ _ st hk => ⟨st.1, st.2.1.at fun o e => hk it (by simp) o e, st.2.2.at fun o e => hk a (by simp) o e⟩
        item := fun j s Q E hj st _ => absurd st.1 (Nat.ne_of_lt hj)
        done := fun s Q E st hE => wpAny_nextOf_tuple_end (show X.A.in1.handled = none from I.ok.hd hc) st.2.1 st.2.2 (by simp; omega) hE }
    exact wpAny_pyNext_enum_endD D he ⟨rfl, hit, pt⟩ fun h' eb => ⟨rfl, I.turned (t' := s.toks) (fun b o hb q => eb b o hb q) f0 f1 f3 f4 f5⟩
  self := fun _ _ _ _ _ st h => by
    obtain ⟨⟨_, he⟩, _⟩ := st
    exact wpAny_pyIter_enum he h
def iEnumT (K : PySem.W.Frag) (ta : TA) : TI := fun σ H R => ta σ H fun vs H1 => ∃ a xs, vs = [.ref a] ∧ SqT K H1 a xs ∧ R (IteT K a) H1
theorem pi_enumT {X : Cx} {e : Expr} {ta : TA} {p pos tpos : Pos} {elts : List Expr} {kk : Nat} (hg : Gl X "enumerate") (hm : X.mg "enumerate" = none) (ha : PA X [e] ta) (hs : starEach [e] X.env = [(false, eval e X.env)] := by rfl) :
    PI X (.Tuple elts kk tpos) (.Call (.Name "enumerate" p) [e] [] pos) (iEnumT X.K ta) := by
  refine ⟨fun pins s σ H R I h => Call_ (ld_blt I hg hm boot_enumerate (PyProof.Rows.callWith_type1 (thn (ha.run pos pins s σ H _ I h) fun us s1 ⟨vs, H1, I1, r1, a, xs, ex, hq, q⟩ => ?_) hs rfl))⟩
  subst ex
  obtain ⟨u, rfl, ru⟩ := r1.one
  cases ru
  obtain ⟨its, rv, p', hz⟩ := I1.tuple hq
  have pt : s1.heap.IsTuple a its.toArray := p'
  have al : a < s1.heap.objs.size := by
    obtain ⟨o, ho, _⟩ := pt
    exact Heap.lt_size ho
  refine enum1_call (begins_tuple a its.toArray) pt fun h' he hit hk => wpAny_pyIter_enum he ?_
  have J2 : Inv X pins σ H1 { s1 with heap := h' } := I1.kept (t' := s1.toks) hk
  refine ⟨s1.heap.objs.size + 1, [s1.heap.objs.size + 1, s1.heap.objs.size], _, _, H1, rfl, J2, turn_enumT a (s1.heap.objs.size + 1) s1.heap.objs.size, ⟨⟨.none, he⟩, ⟨_, hit, rfl, rfl⟩, Nat.succ_ne_self _, Nat.ne_of_lt al, Nat.ne_of_lt (Nat.lt_succ_of_lt al)⟩, fun b hb => ?_, q⟩
  have hle : s1.heap.objs.size ≤ b := by rcases (show b = s1.heap.objs.size + 1 ∨ b = s1.heap.objs.size by simpa using hb) with rfl | rfl <;> omega
  exact I1.fpOk hle (I1.hok.fresh hle)
end Ow

/-! t[::-1], t a tuple -/
namespace Ow
open PySem PySem.Spec PyProof.Rows L2
theorem rev_adj (n : Nat) : Builtin.Slice.sliceAdjust none none (-1) (n : Int) = ((n : Int) - 1, -1) := rfl
theorem rev_places (n : Nat) : Builtin.Slice.slicePlaces ((n : Int) - 1) (-1) (-1) = n := by
  unfold Builtin.Slice.slicePlaces
  rw [if_neg (by decide)]
  split
  · rw [show (- -1 : Int) = 1 by decide, Int.ediv_one]
    omega
  · omega
theorem rev_pick (xs : Array Value) : ((List.range xs.size).filterMap fun (k : Nat) => xs[((xs.size : Int) - 1 + (k : Int) * -1).toNat]?).toArray = xs.toList.reverse.toArray := by
  have e : ((List.range xs.size).filterMap fun (k : Nat) => xs[((xs.size : Int) - 1 + (k : Int) * -1).toNat]?) = ((List.range xs.size).map fun k => xs.size - 1 - k).filterMap (xs[·]?) := by
    rw [List.filterMap_map]
    have : ∀ l : List Nat, (∀ k ∈ l, k < xs.size) → (l.filterMap fun (k : Nat) => xs[((xs.size : Int) - 1 + (k : Int) * -1).toNat]?) = l.filterMap ((xs[·]?) ∘ fun k => xs.size - 1 - k) := by
      intro l
      induction l with
      | nil => intro _; rfl
      | cons k l ih =>
        intro h
        have hk := h k List.mem_cons_self
        rw [List.filterMap_cons, List.filterMap_cons, ih fun j m => h j (List.mem_cons_of_mem _ m)]
        have : ((xs.size : Int) - 1 + (k : Int) * -1).toNat = xs.size - 1 - k := by omega
        rw [this]
        rfl
    exact this _ fun k m => List.mem_range.mp m
  rw [e, PySem.W.krv_range, List.filterMap_reverse, PySem.W.krv_all]
section
variable {prog : Program} {w : World} {A : Around} {E : Value → Shared → Prop} {s : Shared}
theorem rev_applied {sl : Addr} {vs : Value} {n : Nat} {Q : Int × Int × Nat → Shared → Prop} (hs : s.heap.IsSliceOf sl .none .none vs) (ps : IsPart vs (some (-1))) (h : Q ((n : Int) - 1, -1, n) s) : wpAny (model prog w) A (Builtin.Slice.sliceApplied (.ref sl) (pure (n : Int))) Q E s := by
  obtain ⟨os, hos, _, hds⟩ := id hs
  unfold Builtin.Slice.sliceApplied Builtin.Slice.sliceFields
  have f0 {Q' : Value → Shared → Prop} (q : Q' .none s) : wpAny (model prog w) A (field (.ref sl) 0) Q' E s := wpAny_field hos hds (x := .none) rfl q
  have f1 {Q' : Value → Shared → Prop} (q : Q' .none s) : wpAny (model prog w) A (field (.ref sl) 1) Q' E s := wpAny_field hos hds (x := .none) rfl q
  have f2 {Q' : Value → Shared → Prop} (q : Q' vs s) : wpAny (model prog w) A (field (.ref sl) 2) Q' E s := wpAny_field hos hds (x := vs) rfl q
  refine wpAny_bind (wpAny_bind (f0 (wpAny_bind (f1 (wpAny_bind (f2 (wpAny_pure ?_)))))))
  refine wpAny_bind (HT.slicePart_ ps ?_)
  show wpAny _ _ (if ((-1 : Int) == 0) = true then _ else _) _ _ s
  rw [if_neg (show ¬ ((-1 : Int) == 0) = true by decide)]
  refine wpAny_bind (slicePart_none (wpAny_bind (slicePart_none (wpAny_bind (wpAny_pure ?_)))))
  show wpAny _ _ (match Builtin.Slice.sliceAdjust none none (-1) (n : Int) with | (lo, hi) => pure (lo, (-1 : Int), Builtin.Slice.slicePlaces lo hi (-1))) _ _ s
  rw [rev_adj]
  show wpAny _ _ (pure ((n : Int) - 1, (-1 : Int), Builtin.Slice.slicePlaces ((n : Int) - 1) (-1) (-1))) _ _ s
  rw [rev_places]
  exact wpAny_pure h
theorem get_rev {t sl : Addr} {items : Array Value} {vs : Value} {Q : Value → Shared → Prop} (ht : IsTup s.heap t items) (hs : s.heap.IsSliceOf sl .none .none vs) (ps : IsPart vs (some (-1)))
    (h : Q (.ref s.heap.objs.size) { s with heap := s.heap.push { cls := .type "tuple", data := .seq items.toList.reverse.toArray } }) (hsz : items.size ≤ sizeLine) : wpAny (model prog w) A (getItem (.ref t) (.ref sl)) Q E s := by
  have fit : sizeOk (.seq items.toList.reverse.toArray) := show items.toList.reverse.toArray.size ≤ sizeLine by simpa using hsz
  have ty : s.TypeIs (.ref sl) "slice" := hs.elim fun os q => ⟨os, q.1, q.2.1⟩
  unfold getItem
  try with_reducible refine wpAny_holding ?_
  first | refine wpAny_bind (wpAny_pure ?_) | skip
  refine wpAny_bind (wpAny_sequenceKey ht.typeIs (by decide) (wpAny_bind (wpAny_callSpecial?_slot (name := Str.ofString "__getitem__") ht.typeIs PyProof.Rows.slot_tuple_getitem (wpAny_call_entry PyProof.Rows.slot_tuple_getitem ht.typeIs entry_tuple_getitem ?_ (args_tuple_getitem _ _)))))
  show wpAny _ _ (Builtin.Tuple.tupleItemsOf (.ref t) >>= _) _ _ s
  refine wpAny_bind (tupleItemsOf_ ht (wpAny_bind (wpAny_typeOf ty ?_)))
  rw [if_pos (show (Value.type "slice" == Value.type "slice") = true by decide)]
  refine wpAny_bind (rev_applied hs ps ?_)
  have no : ¬ ((((items.size : Int) - 1) == 0 && (-1 : Int) == 1 && items.size == items.size) = true) := by
    rw [show ((-1 : Int) == 1) = false by decide, Bool.and_false, Bool.false_and]
    exact Bool.false_ne_true
  show wpAny _ _ (if ((((items.size : Int) - 1) == 0 && (-1 : Int) == 1 && items.size == items.size) = true) then _ else _) _ _ s
  rw [if_neg no, rev_pick]
  first
    | exact wpAny_bind (m := Builtin.Tuple.tupleExact _) (wpAny_newObj_type (wpAny_pure ⟨_, rfl, wpAny_pure h⟩) fit)
    | exact wpAny_bind (m := Builtin.Tuple.tupleExact _) (wpAny_newObj_type (wpAny_bind (wpAny_pure (wpAny_pure ⟨_, rfl, wpAny_pure h⟩))) fit)
end
def tRevT (K : PySem.W.Frag) (te : TE) : TE := fun σ H Q => te σ H fun x H1 => ∃ a xs, x = .ref a ∧ SqT K H1 a xs ∧ ∀ p, H1 p = none → Q (.ref p) (upd H1 p (.tup xs.reverse))
theorem pe_revT {X : Cx} {e : Expr} {te : TE} {k : Nat} {p1 p2 p3 pos : Pos} (he : PE X e te) : PE X (.Subscript e (.Slice none none (some (.UnaryOp .USub (.Constant (.int 1) k p1) p2)) p3) pos) (tRevT X.K te) := by
  refine ⟨fun pins s σ H Q I h => Subscript_ (thn (he.run pins s σ H _ I h) fun v s1 ⟨x, H1, I1, r1, a, xs, ex, hx, q⟩ => ?_)⟩
  subst ex
  cases r1
  have st : PO X (some (.UnaryOp .USub (.Constant (.int 1) k p1) p2)) (tPart (tUn (rU fun i => .int (-i)) (tC (.int 1)))) := po_some (pe_un un_neg pe_int)
  refine wpAny_Slice (thn (po_none.run pins s1 σ H1 (fun o H2 => o = none ∧ H2 = H1) I1 ⟨rfl, rfl⟩) fun vl s2 ⟨l, H2, I2, pl, z1, z2⟩ => ?_)
  subst z1 z2
  refine thn (po_none.run pins s2 σ H2 (fun o H3 => o = none ∧ H3 = H2) I2 ⟨rfl, rfl⟩) fun vu s3 ⟨u, H3, I3, pu, z3, z4⟩ => ?_
  subst z3 z4
  refine thn (st.run pins s3 σ H3 (fun o H4 => o = some (-1) ∧ H4 = H3) I3 ⟨1, rfl, -1, rfl, rfl, rfl⟩) fun vs s4 ⟨o, H4, I4, ps, z5, z6⟩ => ?_
  subst z5 z6
  have nl : vl = .none := by cases pl; rfl
  have nu : vu = .none := by cases pu; rfl
  subst nl nu
  have I5 : Inv X pins σ H4 { s4 with heap := s4.heap.push { cls := .type "slice", data := .fields #[.none, .none, vs] } } := I4.kept (t' := s4.toks) fun b ob q => Heap.get?_push_of_some _ q
  obtain ⟨its, r, ht, hz⟩ := I5.tuple hx
  have hlen := r.length
  show wpAny _ _ (subscriptTail e (.Slice none none (some (.UnaryOp .USub (.Constant (.int 1) k p1) p2)) p3) (.ref a) (.ref s4.heap.objs.size)) _ _ _
  refine tail_any (ops := [.ref a, .ref s4.heap.objs.size]) ht.typeIs (PyProof.Rows.slot_tuple_getitem.lookup) ?_ (by with_unfolding_all rfl)
  refine get_rev ht (Heap.IsSliceOf.new _ .none .none vs) ps ?_ (by rw [List.size_toArray]; omega)
  refine ⟨.ref _, _, I5.laid (t' := s4.toks) (o := .tup xs.reverse) (fun b ob q => Heap.get?_push_of_some _ q) (Nat.le_refl _) ?_, rfl, q _ (I5.hok.fresh (Nat.le_refl _))⟩
  exact ⟨by rw [List.length_reverse]; exact hz, its.reverse, r.reverse, IsTup.new _ _⟩
end Ow

namespace Ow
open PySem PySem.Spec PyProof.Rows L2
section
variable {X : Cx} {CX : CXT} {C f : Addr} {n : Nat} {fd : FuncData} {ps : List Str} {sp : Sp} {E : XK}
/-- the truth of an instance, by its own __bool__ -/
def rTruO (C : Addr) (sp : Sp) (E : XK) : V → Hp → (Bool → Hp → Prop) → Prop := fun x H Q => ∃ a dx fs, x = .ref a ∧ H a = some (.ins C dx fs) ∧ sp [.ref a] H (fun z H' => ∃ k, z = .bl k ∧ Q k H') E
theorem tru_own (om : OM X.K C "__bool__" f) (F : FnOk X.prog X.w X.K X.mg X.base CX n f fd ps sp) (hr : Room n X.A) (hb : Binds X.K fd ps []) (hx : Passes CX X E) : TruR X (rTruO C sp E) := by
  intro pins s σ H x v Q I r h
  obtain ⟨a, dx, fs, rfl, ha, q⟩ := h
  cases r
  obtain ⟨mA, J, _⟩ := ins_get I.hok ha
  obtain ⟨od, J, _⟩ := J.look
  obtain ⟨m, hF⟩ := I.fr
  refine PySem.W.truthy_K hF I.ok.mod.kin J om.at_ om.fn (wpAny_mono (run_in (us := [.ref a]) (ws := [.ref a]) F hr I.env0 hb hx I (.cons rfl .nil) q) (fun w s' ⟨z, H', I', rz, k, ez, qz⟩ => ?_) fun _ _ e => e)
  subst ez
  obtain rfl : w = .bool k := rz
  exact ⟨H', I', qz⟩
/-- len(x) by an own __len__ -/
def rLenO (C : Addr) (sp : Sp) (E : XK) : List V → Hp → VK → Prop := fun xs H Q => ∃ a dx fs, xs = [.ref a] ∧ H a = some (.ins C dx fs) ∧ sp [.ref a] H (fun z H' => ∃ k : Int, z = .int k ∧ 0 ≤ k ∧ k < 2 ^ 63 ∧ Q (.int k) H') E
theorem call_lenO (om : OM X.K C "__len__" f) (F : FnOk X.prog X.w X.K X.mg X.base CX n f fd ps sp) (hr : Room (n + 1) X.A) (hb : Binds X.K fd ps []) (hx : Passes CX X E) : CallR X (.builtin "len") (rLenO C sp E) := by
  intro pins s σ H xs us Q I r h
  obtain ⟨a, dx, fs, rfl, ha, q⟩ := h
  obtain ⟨u, rfl, ru⟩ := vals1 r
  cases ru
  obtain ⟨mA, J, _⟩ := ins_get I.hok ha
  obtain ⟨od, J, _⟩ := J.look
  obtain ⟨m, hF⟩ := I.fr
  refine PySem.W.len_K hF I.ok.mod.kin J om.at_ om.fn (wpAny_mono (run_in (us := [.ref a]) (ws := [.ref a]) F hr.in1 I.env0.in1 hb hx I (.cons rfl .nil) q) (fun w s' ⟨z, H', I', rz, k, ez, k0, k1, qz⟩ => ?_) fun _ _ e => e)
  subst ez
  obtain ⟨t, rfl⟩ := rz
  exact ⟨⟨k0, k1⟩, .int k, H', I'.tok _, ⟨_, rfl⟩, qz⟩
end
/-- enumerate of a tuple as a walk -/
theorem walk_enumT {K : PySem.W.Frag} {a : Addr} {xs : List V} : Walk (IteT K a) xs.length (fun H => SqT K H a xs) (YPair (fun i => some (.int (i : Nat))) (fun i => xs[i]?)) :=
  ⟨fun i _ hi q => ⟨xs, xs[i], q, by simp [hi]⟩, fun _ q => ⟨xs, q, Nat.le_refl _⟩, fun i _ _ _ _ q ⟨T, x, e1, e2, e3, e4⟩ => ⟨T, _, x, e1, e2, e3, rfl, e4 xs q⟩⟩
end Ow
namespace Ow
open PySem PySem.Spec PyProof.Rows L2
/-- o.f as one of several targets -/
def gFld (K : PySem.W.Frag) (to : TE) (f : Str) : TG := fun y σ H Q => to σ H fun x H1 => ∃ a C dx fs, x = .ref a ∧ H1 a = some (.ins C dx fs) ∧ Cls K C ∧ NoAttr K C f ∧ fs.length < 1000 ∧ Q σ (upd H1 a (.ins C dx (putF f y fs)))
theorem pg_fld {X : Cx} {o : Expr} {to : TE} {f : Str} {pos : Pos} (ho : PE X o to) : PG X (.Attribute o f pos) (gFld X.K to f) := by
  refine ⟨fun pins s σ H v u Q I ru h => ?_⟩
  rw [assign_Attribute]
  refine wpAny_bind (wpAny_holding (thn (ho.run pins s σ H _ I h) fun w s1 ⟨x, H1, I1, rx, a, C, dx, fs, ex, ea, c, nn, l, q⟩ => ?_))
  subst ex
  obtain rfl : w = Value.ref a := rx
  refine wpAny_bind (wpAny_standAt (wpAny_bind (wpAny_holding (setattr_ok I1 ea c nn l ru fun s3 I3 => ?_))))
  exact wpAny_release ⟨σ, _, I3, q⟩
end Ow
namespace Ow
open PySem L2
/-- the truth of the i-th slot's value, by a name -/
def tTru (K : PySem.W.Frag) (i : Nat) : TT := fun σ H Q => tVar i σ H fun x H1 => ∃ k, TruV K x H1 k ∧ Q k H1
end Ow
namespace Ow
open PySem PySem.Spec PyProof.Rows L2
/-- bool(a tuple) -/
theorem boolT_new (l : Addr) (its : Array Value) (hz : (its.size : Int) < 2 ^ 63) : Meets (Builtin.«bool.__new__» ⟨[.type "bool", .ref l], []⟩) (fun _ R s => IsTup s.heap l its ∧ R (.ok (.ret (.bool (!its.isEmpty)))) { s with toks := s.toks + 1 + 1 }) := .of_wp fun prog w A R s hs => by
  obtain ⟨ht, hs⟩ := hs
  obtain ⟨hp, g, d, tk, os⟩ := s
  have sb := PySem.F.conv_sub_bool
  repeat (any_goals (first | assumption | with_reducible refine truthy_tuple ht hz ?_ | wp_step))
  all_goals first | exact ⟨_, rfl, hs⟩ | exact hs
theorem call_boolT {X : Cx} : CallR X (.type "bool") (fun xs H Q => ∃ (a : Addr) (zs : List V), xs = [.ref a] ∧ SqT X.K H a zs ∧ Q (.bl (!zs.isEmpty)) H) := by
  intro pins s σ H xs us Q I r h
  obtain ⟨a, zs, rfl, hq, q⟩ := h
  obtain ⟨u, rfl, ru⟩ := vals1 r
  cases ru
  obtain ⟨its, rv, pt, hz⟩ := I.tuple hq
  have hl := rv.length
  have h63 := line63
  refine call_bool_1 (boolT_new a its.toArray (by simp only [List.size_toArray]; omega)) ⟨pt, rfl, .bl (!zs.isEmpty), H, I.tok _, ?_, q⟩
  rw [isEmpty_of rv]
  rfl
end Ow

namespace Rk
open PySem L2 Ow
def top (i : Nat) : Stmt := PySem.Challenge.pw_underwords_k66_whole_patterns_in_rows.main.body.getD i (.Pass ⟨0, 0, 0, 0⟩)
abbrev s_is_within : Stmt := top 1
theorem sc_is_within : FnScope ["value", "least", "most"] ["value", "least", "most"] (defScope s_is_within) := ⟨rfl, rfl, rfl, by decide +kernel, rfl, by decide +kernel, by decide +kernel⟩
abbrev s_pattern_places : Stmt := top 7
theorem sc_pattern_places : FnScope ["row", "pattern", "begun", "many", "longer", "places", "at"] ["row", "pattern"] (defScope s_pattern_places) := ⟨rfl, rfl, rfl, by decide +kernel, rfl, by decide +kernel, by decide +kernel⟩
abbrev s_is_pattern_places : Stmt := top 8
theorem sc_is_pattern_places : FnScope ["row", "pattern", "value", "at", "behind"] ["row", "pattern", "value"] (defScope s_is_pattern_places) := ⟨rfl, rfl, rfl, by decide +kernel, rfl, by decide +kernel, by decide +kernel⟩
abbrev s_is_row : Stmt := top 9
theorem sc_is_row : FnScope ["value"] ["value"] (defScope s_is_row) := ⟨rfl, rfl, rfl, by decide +kernel, rfl, by decide +kernel, by decide +kernel⟩
abbrev s_are_entries : Stmt := top 10
theorem sc_are_entries : FnScope ["value", "least", "many", "entry"] ["value", "least"] (defScope s_are_entries) := ⟨rfl, rfl, rfl, by decide +kernel, rfl, by decide +kernel, by decide +kernel⟩
abbrev s_check_row : Stmt := top 11
theorem sc_check_row : FnScope ["row"] ["row"] (defScope s_check_row) := ⟨rfl, rfl, rfl, by decide +kernel, rfl, by decide +kernel, by decide +kernel⟩
abbrev s_has_pattern : Stmt := top 12
theorem sc_has_pattern : FnScope ["row", "pattern", "places", "told", "at", "entry", "here", "low", "there", "high"] ["row", "pattern", "places"] (defScope s_has_pattern) := ⟨rfl, rfl, rfl, by decide +kernel, rfl, by decide +kernel, by decide +kernel⟩
abbrev s_l_vat : Stmt := top 14
theorem sc_l_vat : FnScope ["_law_script", "_law_spot", "_law_cell", "_law_great", "_law_mixed"] ["_law_script", "_law_spot"] (defScope s_l_vat) := ⟨rfl, rfl, rfl, by decide +kernel, rfl, by decide +kernel, by decide +kernel⟩
abbrev s_l_sip : Stmt := top 15
theorem sc_l_sip : FnScope ["_law_vat_here", "_law_total", "_law_found", "_law_one", "_law_two"] ["_law_vat_here", "_law_total"] (defScope s_l_sip) := ⟨rfl, rfl, rfl, by decide +kernel, rfl, by decide +kernel, by decide +kernel⟩
abbrev s_l_taste : Stmt := top 16
theorem sc_l_taste : FnScope ["_law_vat_here", "_law_items"] ["_law_vat_here", "_law_items"] (defScope s_l_taste) := ⟨rfl, rfl, rfl, by decide +kernel, rfl, by decide +kernel, by decide +kernel⟩
abbrev s_l_some_row : Stmt := top 17
theorem sc_l_some_row : FnScope ["_law_vat_here", "_law_places", "_law_left", "_law_found"] ["_law_vat_here", "_law_places"] (defScope s_l_some_row) := ⟨rfl, rfl, rfl, by decide +kernel, rfl, by decide +kernel, by decide +kernel⟩
abbrev s_l_is_alike : Stmt := top 18
theorem sc_l_is_alike : FnScope ["_law_entries", "_law_pattern", "_law_at", "_law_to"] ["_law_entries", "_law_pattern"] (defScope s_l_is_alike) := ⟨rfl, rfl, rfl, by decide +kernel, rfl, by decide +kernel, by decide +kernel⟩
abbrev s_l_every_place : Stmt := top 19
theorem sc_l_every_place : FnScope ["_law_row", "_law_pattern", "_law_some", "_law_at", "_law_places"] ["_law_row", "_law_pattern"] (defScope s_l_every_place) := ⟨rfl, rfl, rfl, by decide +kernel, rfl, by decide +kernel, by decide +kernel⟩
abbrev s_l_undone : Stmt := top 20
theorem sc_l_undone : FnScope ["_law_row", "_law_entry"] ["_law_row"] (defScope s_l_undone) := ⟨rfl, rfl, rfl, by decide +kernel, rfl, by decide +kernel, by decide +kernel⟩
abbrev s_l_is_places : Stmt := top 21
theorem sc_l_is_places : FnScope ["_law_row", "_law_pattern", "_law_value", "_law_at"] ["_law_row", "_law_pattern", "_law_value"] (defScope s_l_is_places) := ⟨rfl, rfl, rfl, by decide +kernel, rfl, by decide +kernel, by decide +kernel⟩
abbrev s_l_right : Stmt := top 22
theorem sc_l_right : FnScope ["_law_vat_here", "_law_row", "_law_pattern", "_law_every", "_law_told", "_law_size", "_law_some", "_law_at", "_law_turn", "_law_near", "_law_place"] ["_law_vat_here"] (defScope s_l_right) := ⟨rfl, rfl, rfl, by decide +kernel, rfl, by decide +kernel, by decide +kernel⟩
abbrev s_law : Stmt := top 23
theorem sc_law : FnScope ["_law_script", "_law_spot", "_law_vat_here", "_law_turn", "_law_told"] ["_law_script"] (defScope s_law) := ⟨rfl, rfl, rfl, by decide +kernel, rfl, by decide +kernel, by decide +kernel⟩
def MDef (K : PySem.W.Frag) (mg : Str → Option Value) (x : Str) (st : Stmt) : Prop := ∃ f fd, Fun K x x st f fd ∧ mg x = some (.ref f)
structure Txt (K : PySem.W.Frag) (mg : Str → Option Value) : Prop where
  gMP : ∃ u, mg "MOST_PLACES" = some u ∧ RelV (.int 5) u
  d_is_within : MDef K mg "is_within" s_is_within
  d_pattern_places : MDef K mg "pattern_places" s_pattern_places
  d_is_pattern_places : MDef K mg "is_pattern_places" s_is_pattern_places
  d_is_row : MDef K mg "is_row" s_is_row
  d_are_entries : MDef K mg "are_entries" s_are_entries
  d_check_row : MDef K mg "check_row" s_check_row
  d_has_pattern : MDef K mg "has_pattern" s_has_pattern
  d_l_vat : MDef K mg "_law_vat" s_l_vat
  d_l_sip : MDef K mg "_law_sip" s_l_sip
  d_l_taste : MDef K mg "_law_taste" s_l_taste
  d_l_some_row : MDef K mg "_law_some_row" s_l_some_row
  d_l_is_alike : MDef K mg "_law_is_alike" s_l_is_alike
  d_l_every_place : MDef K mg "_law_every_place" s_l_every_place
  d_l_undone : MDef K mg "_law_undone" s_l_undone
  d_l_is_places : MDef K mg "_law_is_places" s_l_is_places
  d_l_right : MDef K mg "_law_right" s_l_right
  b_list : mg "list" = none
  b_sorted : mg "sorted" = none
  b_isinstance : mg "isinstance" = none
  b_int : mg "int" = none
  b_bool : mg "bool" = none
  b_tuple : mg "tuple" = none
  b_len : mg "len" = none
  b_abs : mg "abs" = none
  b_max : mg "max" = none
  b_min : mg "min" = none
  b_all : mg "all" = none
  b_zip : mg "zip" = none
  b_range : mg "range" = none
theorem MDef.cal {P : Program} {w : World} {K : PySem.W.Frag} {mg : Str → Option Value} {base : Heap} {x : Str} {st : Stmt} {k : Nat} {ps : List Str} {sp : Sp} (D : MDef K mg x st)
    (F : ∀ f fd, Fun K x x st f fd → FnOk P w K mg base CX0 k f fd ps sp)
    (h : ∀ (kV doc pm : Value) (an : Option Addr) (cdv ct : Value) (us : List Value), us.length = ps.length → bindArgs (PySem.W.fnOf x x (defArgs st) (defBody st) (defScope st) .none kV doc pm an cdv ct) ⟨us, []⟩ = pure (ps.zip us)) : Cal P w K mg base x k sp := by
  obtain ⟨f, fd, D, m⟩ := D
  exact ⟨⟨f, fd, ps, F f fd D, m, D.kp, D.binds h⟩⟩
theorem same_new {H : Hp} {p : Addr} {o : HO} (n : H p = none) : Same H (upd H p o) := fun q u e => by rw [upd_ne (ne_of_none e n)]; exact e
theorem sqT_same {K : PySem.W.Frag} {H H' : Hp} {a : Addr} {xs : List V} (s : Same H H') (h : SqT K H a xs) : SqT K H' a xs := SqT.ext h s
/-- a tuple of ints -/
def TI (K : PySem.W.Frag) (H : Hp) (v : V) (ns : List Int) : Prop := ∃ a, v = .ref a ∧ SqT K H a (ns.map V.int)
theorem TI.same {K : PySem.W.Frag} {H H' : Hp} {v : V} {ns : List Int} (h : TI K H v ns) (s : Same H H') : TI K H' v ns := h.elim fun a ⟨e, q⟩ => ⟨a, e, sqT_same s q⟩
theorem iteNT' {A B : Prop} {c : Bool} (e : c = true) (h : B) : if (!c) = true then A else B := by rw [e]; exact iteF h
theorem tup_ty {K : PySem.W.Frag} {H : Hp} {a : Addr} {xs : List V} (h : SqT K H a xs) : TyX K H (.ref a) (.type "tuple") := by
  rcases h with (h | ⟨o, h⟩) | ⟨o, its, n, hk, hc, _⟩
  · exact .base (.tup h)
  · exact .fTuple h
  · exact .kTuple hk hc
theorem szl {n : Nat} (h : n ≤ 1000) : n ≤ sizeLine := Nat.le_trans h (by decide)
def B (n : Nat) (i : Int) : Prop := i.natAbs < 2 ^ n
theorem B.ok {n m : Nat} {i j : Int} (h : B n i) (k : B m j) (hn : 0 < n := by decide) (hm : 0 < m := by decide) (hs : n + m ≤ 1000000 := by decide) : CMulW i j := wide_mul h k hn hm hs
/-- the draws' list -/
def VatAt (H : Hp) (p : Addr) : Prop := ∃ b0 b1 b2 : Int, H p = some (.lst [.int b0, .int b1, .int b2])
/-- all but p as it was -/
def But (p : Addr) (H H' : Hp) : Prop := ∀ q o, q ≠ p → H q = some o → H' q = some o
theorem But.refl {p : Addr} {H : Hp} : But p H H := fun _ _ _ h => h
theorem But.trans {p : Addr} {H H1 H2 : Hp} (a : But p H H1) (b : But p H1 H2) : But p H H2 := fun q o n h => b q o n (a q o n h)
theorem But.of_same {p : Addr} {H H1 : Hp} (a : Same H H1) : But p H H1 := fun q o _ h => a q o h
theorem But.sqT {K : PySem.W.Frag} {p a : Addr} {H H' : Hp} {xs acc : List V} (o : But p H H') (hp : H p = some (.lst acc)) (h : SqT K H a xs) : SqT K H' a xs := by
  have ne : ∀ u, H a = some u → u ≠ .lst acc → a ≠ p := fun u e d z => d (by rw [z, hp] at e; exact (Option.some.inj e).symm)
  rcases h with (h | ⟨u, h⟩) | h
  · exact .inl (.inl (o a _ (ne _ h (fun z => nomatch z)) h))
  · exact .inl (.inr ⟨u, o a _ (ne _ h (fun z => nomatch z)) h⟩)
  · exact .inr h
theorem TI.but {K : PySem.W.Frag} {H H' : Hp} {v : V} {ns : List Int} {p : Addr} (h : TI K H v ns) (o : But p H H') (b : VatAt H p) : TI K H' v ns := h.elim fun a ⟨e, q⟩ => ⟨a, e, by
  obtain ⟨_, _, _, hp⟩ := b
  exact o.sqT hp q⟩
theorem VatAt.same {H H' : Hp} {p : Addr} (b : VatAt H p) (s : Same H H') : VatAt H' p := b.elim fun b0 ⟨b1, b2, e⟩ => ⟨b0, b1, b2, s _ _ e⟩
theorem vat_ne {H : Hp} {p q : Addr} (b : VatAt H p) (n : H q = none) : q ≠ p := fun e => by
  obtain ⟨_, _, _, h⟩ := b
  rw [e, h] at n
  cases n
theorem VatAt.but {H H' : Hp} {p D : Addr} (b : VatAt H p) (o : But D H H') (n : p ≠ D) : VatAt H' p := b.elim fun b0 ⟨b1, b2, e⟩ => ⟨b0, b1, b2, o _ _ n e⟩
theorem fm {i n : Int} (h : 0 < n) : 0 ≤ i.fmod n ∧ i.fmod n < n := by
  rw [Int.fmod_eq_emod_of_nonneg i (Int.le_of_lt h)]
  exact ⟨Int.emod_nonneg i (by omega), Int.emod_lt_of_pos i h⟩
theorem em {i n : Int} (h : 0 < n) : 0 ≤ i % n ∧ i % n < n := ⟨Int.emod_nonneg i (by omega), Int.emod_lt_of_pos i h⟩
/-- promises -/
def spWithin : Sp := fun vs H Q _ => ∃ i lo hi : Int, vs = [.int i, .int lo, .int hi] ∧ Q (.bl (decide (lo ≤ i) && decide (i ≤ hi))) H
def spWithinB : Sp := fun vs H Q _ => ∃ (x : V) (lo hi : Int), vs = [x, .int lo, .int hi] ∧ ((∃ i, x = .int i ∧ Q (.bl (decide (lo ≤ i) && decide (i ≤ hi))) H) ∨ (∃ b, x = .bl b ∧ Q (.bl false) H))
def spVat (K : PySem.W.Frag) : Sp := fun vs H Q _ => ∃ (sa : Addr) (at_ : Int) (ns : List Int), vs = [.ref sa, .int at_] ∧ SqL K H sa (ns.map V.int) ∧ 0 ≤ at_ ∧
  ∀ (p : Addr) (H' : Hp), Same H H' → H p = none → VatAt H' p → Q (.ref p) H'
def spSip : Sp := fun vs H Q _ => ∃ (p : Addr) (n : Int), vs = [.ref p, .int n] ∧ 0 < n ∧ B 8000 n ∧ VatAt H p ∧ ∀ (r : Int) (H' : Hp), 0 ≤ r → r < n → But p H H' → VatAt H' p → Q (.int r) H'
def spTaste : Sp := fun vs H Q _ => ∃ (p l : Addr) (xs : List V), vs = [.ref p, .ref l] ∧ VatAt H p ∧ H l = some (.lst xs) ∧ l ≠ p ∧ 0 < xs.length ∧ xs.length ≤ 1000 ∧
  ∀ (v : V) (H' : Hp), v ∈ xs → But p H H' → VatAt H' p → Q v H'
section
variable {P : Program} {w : World} {K : PySem.W.Frag} {mg : Str → Option Value} {base : Heap}
theorem cal_is_within (T : Txt K mg) : Cal P w K mg base "is_within" 1 spWithinB := by
  refine T.d_is_within.cal (ps := ["value", "least", "most"]) (fun f fd D => ?_) (fun _ _ _ _ _ _ us hl => match us, hl with | [_, _, _], _ => rfl)
  refine D.ok sc_is_within (fun vs H Q E h => ?_) (fun cdv A outer s H vs Q E hr h => ?_)
  · obtain ⟨i, lo, hi, rfl, _⟩ := h
    rfl
  · obtain ⟨x, lo, hi, rfl, q⟩ := h
    refine ⟨_, (pss_one (ps_ret (pe_and (pe_callB call_isi (by rfl) T.b_isinstance (by decide +kernel) (pa_cons (pv 0) (pa_cons (pe_bltn (v := .ty "int") (by rfl) T.b_int (by decide +kernel) rfl) pa_nil))) (pe_and (pe_not (pe_callB call_isi (by rfl) T.b_isinstance (by decide +kernel) (pa_cons (pv 0) (pa_cons (pe_bltn (v := .ty "bool") (by rfl) T.b_bool (by decide +kernel) rfl) pa_nil)))) (pe_one (pe_chain op_le op_le (pv 1) (pv 0) (pv 2))))))), ?_⟩
    rcases q with ⟨i, rfl, q⟩ | ⟨b, rfl, q⟩
    · refine ⟨_, rfl, _, _, _, _, true, rfl, .ty "int", .base (.int i), kit_ty (by decide +kernel), _, rfl, iteT ?_⟩
      refine ⟨_, rfl, _, _, _, _, false, rfl, .ty "bool", .base (.int i), kit_ty (by decide +kernel), _, rfl, _, rfl, iteT ?_⟩
      refine ⟨_, rfl, _, rfl, _, _, rfl, rfl, _, rfl, ?_⟩
      by_cases h1 : lo ≤ i
      · rw [decide_eq_true h1] at *
        refine iteT ?_
        exact ⟨_, rfl, _, _, rfl, rfl, q⟩
      · rw [decide_eq_false h1] at *
        exact iteF q
    · refine ⟨_, rfl, _, _, _, _, true, rfl, .ty "int", .base (.bl b), kit_ty (by decide +kernel), _, rfl, iteT ?_⟩
      exact ⟨_, rfl, _, _, _, _, true, rfl, .ty "bool", .base (.bl b), kit_ty (by decide +kernel), _, rfl, _, rfl, iteF q⟩
theorem cal_l_sip (T : Txt K mg) : Cal P w K mg base "_law_sip" 1 spSip := by
  refine T.d_l_sip.cal (ps := ["_law_vat_here", "_law_total"]) (fun f fd D => ?_) (fun _ _ _ _ _ _ us hl => match us, hl with | [_, _], _ => rfl)
  refine D.ok sc_l_sip (fun vs H Q E h => ?_) (fun cdv A outer s H vs Q E hr h => ?_)
  · obtain ⟨p, n, rfl, _⟩ := h
    rfl
  · obtain ⟨p, n, rfl, hn, bn, ⟨b0, b1, b2, hp⟩, k⟩ := h
    refine ⟨_, (pss_cons (ps_if (pt_cmpR op_gt (pe_ix ix_list (pv 0) pe_int (fun _ _ => rfl)) pe_int (nomark _)) (pss_cons (ps_set (i := 2) sc_l_sip.nd rfl (Or.inl rfl) (pe_op op_modN (pe_callTy call_int1 (by rfl) T.b_int (by decide +kernel) (pa_cons (pe_ix ix_list (pv 0) pe_int (fun _ _ => rfl)) pa_nil)) (pv 1)))
      (pss_cons (ps_asg (pe_op op_fdivW (pe_ix ix_list (pv 0) pe_int (fun _ _ => rfl)) (pv 1)) (pg_sub (pv 0) pe_int set_list))
      (pss_one (ps_ret (pv 2))))) pss_nil)
      (pss_cons (ps_asg (pe_op op_add (pe_ix ix_list (pv 0) pe_int (fun _ _ => rfl)) pe_int) (pg_sub (pv 0) pe_int set_list))
      (pss_cons (ps_set (i := 3) sc_l_sip.nd rfl (Or.inl rfl) (pe_op op_mod (pe_op op_add (pe_op op_add (pe_op op_mul (pe_ix ix_list (pv 0) pe_int (fun _ _ => rfl)) pe_int) (pe_op op_mul pe_int (pe_ix ix_list (pv 0) pe_int (fun _ _ => rfl)))) pe_int) pe_int))
      (pss_cons (ps_set (i := 4) sc_l_sip.nd rfl (Or.inl rfl) (pe_op op_add (pe_op op_add (pe_op op_mul (pe_op op_mod (pe_op op_mulW (pv 3) (pv 3)) pe_int) pe_int) (pv 3)) (pe_op op_mul pe_int (pe_ix ix_list (pv 0) pe_int (fun _ _ => rfl)))))
      (pss_one (ps_ret (pe_callTy call_int1 (by rfl) T.b_int (by decide +kernel) (pa_cons (pe_op op_modN (pe_op op_mod (pe_op op_fdiv (pv 4) pe_int) pe_int) (pv 1)) pa_nil)))))))), ?_⟩
    refine ⟨_, rfl, _, _, _, _, rfl, rfl, .of hp, rfl, _, _, rfl, rfl, _, rfl, ite2 (fun hpos => ?_) (fun _ => ?_)⟩
    · refine ⟨_, rfl, _, _, _, _, rfl, rfl, .of hp, rfl, .inl ⟨_, rfl, _, rfl, _, _, rfl, rfl, (by omega), ?_⟩⟩
      refine ⟨_, rfl, _, _, _, _, rfl, rfl, .of hp, rfl, _, rfl, _, _, rfl, rfl, wide_div hn bn (by decide) (by decide), _, rfl, _, _, _, _, rfl, rfl, hp, rfl, ?_⟩
      refine ⟨_, rfl, k _ _ (fm hn).1 (fm hn).2 (fun q o hq e => ?_) ⟨_, _, _, upd_same⟩⟩
      rw [upd_ne hq]
      exact e
    · refine ⟨_, rfl, _, _, _, _, rfl, rfl, .of hp, rfl, _, _, rfl, rfl, _, rfl, _, _, _, _, rfl, rfl, hp, rfl, ?_⟩
      have hq : upd H p (.lst [.int b0, .int b1, .int (b2 + 1)]) p = some (.lst [.int b0, .int b1, .int (b2 + 1)]) := upd_same
      have b61 : ∀ i m : Int, 0 < m → m ≤ 2305843009213693951 → B 61 (i % m) := fun i m h0 h1 => by
        have := em (i := i) h0
        show (i % m).natAbs < 2 ^ 61
        omega
      refine ⟨_, rfl, _, _, _, _, rfl, rfl, .of hq, rfl, _, _, rfl, rfl, .inr ⟨by decide, by decide⟩, _, rfl, _, _, _, _, rfl, rfl, .of hq, rfl, _, _, rfl, rfl, .inl ⟨by decide, by decide⟩, _, _, rfl, rfl, _, _, rfl, rfl, _, _, rfl, rfl, show (0 : Int) < 2305843009213693951 by decide, ?_⟩
      refine ⟨_, rfl, _, rfl, _, _, rfl, rfl, (b61 _ _ (by decide) (by decide)).ok (b61 _ _ (by decide) (by decide)), _, _, rfl, rfl, show (0 : Int) < 2305843009213693921 by decide, _, _, rfl, rfl, .inr ⟨by decide, by decide⟩, _, rfl, _, _, rfl, rfl, _, rfl, _, _, _, _, rfl, rfl, .of hq, rfl, _, _, rfl, rfl, .inl ⟨by decide, by decide⟩, _, _, rfl, rfl, ?_⟩
      refine ⟨_, rfl, _, _, rfl, rfl, ⟨by decide, by decide⟩, _, _, rfl, rfl, show (0 : Int) < 4611686018427387847 by decide, _, rfl, _, _, rfl, rfl, (by omega), .inl ⟨_, rfl, ?_⟩⟩
      refine k _ _ (fm hn).1 (fm hn).2 (fun q o hq e => ?_) ⟨_, _, _, upd_same⟩
      rw [upd_ne hq]
      exact e
theorem cal_l_taste (T : Txt K mg) : Cal P w K mg base "_law_taste" 2 spTaste := by
  refine T.d_l_taste.cal (ps := ["_law_vat_here", "_law_items"]) (fun f fd D => ?_) (fun _ _ _ _ _ _ us hl => match us, hl with | [_, _], _ => rfl)
  refine D.ok sc_l_taste (fun vs H Q E h => ?_) (fun cdv A outer s H vs Q E hr h => ?_)
  · obtain ⟨p, l, xs, rfl, _⟩ := h
    rfl
  · obtain ⟨p, l, xs, rfl, hb, hl, ne, h0, h1, k⟩ := h
    refine ⟨_, (pss_one (ps_ret (pe_ix ix_list (pv 1) (pe_cal (cal_l_sip T) (hr.mono (by decide)) (by rfl) (pa_cons (pv 0) (pa_cons (pe_callB call_len_seq (by rfl) T.b_len (by decide +kernel) (pa_cons (pv 1) pa_nil)) pa_nil))) (fun _ _ => rfl)))), ?_⟩
    refine ⟨_, rfl, _, rfl, _, rfl, _, _, rfl, .inl (.of hl), p, _, rfl, by omega, ?_, hb, fun r H1 r0 r1 same b1 => ?_⟩
    · show ((xs.length : Int)).natAbs < 2 ^ 8000
      exact Nat.lt_of_le_of_lt (show ((xs.length : Int)).natAbs ≤ 1000 by omega) (by decide)
    · have hi : r.toNat < xs.length := by omega
      refine ⟨_, _, _, _, rfl, rfl, .of (same _ _ ne hl), at_of (j := r.toNat) (by omega) (List.getElem?_eq_getElem hi), k _ _ (List.getElem_mem hi) same b1⟩
theorem cal_l_vat (T : Txt K mg) : Cal P w K mg base "_law_vat" 1 (spVat K) := by
  refine T.d_l_vat.cal (ps := ["_law_script", "_law_spot"]) (fun f fd D => ?_) (fun _ _ _ _ _ _ us hl => match us, hl with | [_, _], _ => rfl)
  refine D.ok sc_l_vat (fun vs H Q E h => ?_) (fun cdv A outer s H vs Q E hr h => ?_)
  · obtain ⟨p, n, ns, rfl, _⟩ := h
    rfl
  · obtain ⟨sa, z, ns, rfl, hs, hz, k⟩ := h
    refine ⟨_, (pss_cons (ps_set (i := 2) sc_l_vat.nd rfl (Or.inl rfl) (pe_ifExp (pt_cmpR op_lt (pv 1) (pe_callB call_len_seq (by rfl) T.b_len (by decide +kernel) (pa_cons (pv 0) pa_nil)) (nomark _)) (pe_ix ix_list (pv 0) (pv 1) (fun _ _ => rfl)) (pe_op op_add (pe_op op_mul pe_int (pv 1)) pe_int)))
      (pss_cons (ps_set (i := 3) sc_l_vat.nd rfl (Or.inl rfl) (pe_op op_modN (pe_callTy call_int1 (by rfl) T.b_int (by decide +kernel) (pa_cons (pe_callB call_abs (by rfl) T.b_abs (by decide +kernel) (pa_cons (pv 2) pa_nil)) pa_nil)) (pe_op op_powW (pe_op op_pow pe_int pe_int) pe_int)))
      (pss_cons (ps_set (i := 4) sc_l_vat.nd rfl (Or.inl rfl) (pe_op op_add (pe_op op_add (pe_op op_add (pe_op op_mul (pe_op op_mod (pv 3) pe_int) pe_int) (pe_op op_mul pe_int (pv 1))) (pe_op op_mul pe_int (pe_callTy call_int1 (by rfl) T.b_int (by decide +kernel) (pa_cons (pe_cmpR op_lt (pv 2) pe_int (nomark _)) pa_nil)))) pe_int))
      (pss_one (ps_ret (pe_lst (pa_cons (pe_callB (call_max2 rfl) (by rfl) T.b_max (by decide +kernel) (pa_cons pe_int (pa_cons (pe_op op_sub (pv 3) (pe_op op_pow pe_int pe_int)) pa_nil))) (pa_cons (pe_op op_mod (pv 4) pe_int) (pa_cons pe_int pa_nil))))))))), ?_⟩
    have hP : CPowW ((10 : Int) ^ (58 : Int).toNat) 9 := ⟨by decide, by decide +kernel⟩
    have hQ : ((10 : Int) ^ (58 : Int).toNat) ^ (9 : Int).toNat ≠ 0 := by decide +kernel
    refine ⟨_, rfl, _, rfl, _, _, rfl, .inl hs, _, _, rfl, rfl, _, rfl, ite2 (fun h => ?_) (fun h => ?_)⟩
    · have hlt : z < ((ns.map V.int).length : Int) := of_decide_eq_true h
      rw [List.length_map] at hlt
      have hi : z.toNat < ns.length := by omega
      have hget : atI (ns.map V.int) z = some (.int ns[z.toNat]) := at_of (j := z.toNat) (by omega) (by rw [List.getElem?_map, List.getElem?_eq_getElem hi]; rfl)
      refine ⟨_, rfl, _, rfl, _, _, _, _, rfl, rfl, hs, hget, ?_⟩
      refine ⟨_, rfl, _, rfl, .inl ⟨_, rfl, _, _, rfl, rfl, ⟨by decide, by decide, by decide⟩, _, _, rfl, rfl, hP, _, _, rfl, rfl, hQ, ?_⟩⟩
      refine ⟨_, rfl, _, _, rfl, rfl, show (0 : Int) < 1152921504606846883 by decide, _, _, rfl, rfl, .inr ⟨by decide, by decide⟩, _, rfl, _, _, rfl, rfl, .inl ⟨by decide, by decide⟩, _, _, rfl, rfl, _, rfl, _, _, rfl, rfl, .inr ⟨_, rfl, _, _, rfl, rfl, .inl ⟨by decide, by decide⟩, _, _, rfl, rfl, _, _, rfl, rfl, ?_⟩⟩
      refine ⟨_, rfl, _, _, rfl, rfl, ⟨by decide, by decide, by decide⟩, _, _, rfl, rfl, _, _, rfl, _, rfl, _, _, rfl, rfl, show (0 : Int) < 2305843009213693921 by decide, show 3 ≤ sizeLine by decide, fun p np => ?_⟩
      exact k p _ (fun q o e => by rw [upd_ne (ne_of_none e np)]; exact e) np ⟨_, _, _, upd_same⟩
    · refine ⟨_, rfl, _, _, rfl, rfl, .inl ⟨by decide, by decide⟩, _, _, rfl, rfl, ?_⟩
      refine ⟨_, rfl, _, rfl, .inl ⟨_, rfl, _, _, rfl, rfl, ⟨by decide, by decide, by decide⟩, _, _, rfl, rfl, hP, _, _, rfl, rfl, hQ, ?_⟩⟩
      refine ⟨_, rfl, _, _, rfl, rfl, show (0 : Int) < 1152921504606846883 by decide, _, _, rfl, rfl, .inr ⟨by decide, by decide⟩, _, rfl, _, _, rfl, rfl, .inl ⟨by decide, by decide⟩, _, _, rfl, rfl, _, rfl, _, _, rfl, rfl, .inr ⟨_, rfl, _, _, rfl, rfl, .inl ⟨by decide, by decide⟩, _, _, rfl, rfl, _, _, rfl, rfl, ?_⟩⟩
      refine ⟨_, rfl, _, _, rfl, rfl, ⟨by decide, by decide, by decide⟩, _, _, rfl, rfl, _, _, rfl, _, rfl, _, _, rfl, rfl, show (0 : Int) < 2305843009213693921 by decide, show 3 ≤ sizeLine by decide, fun p np => ?_⟩
      exact k p _ (fun q o e => by rw [upd_ne (ne_of_none e np)]; exact e) np ⟨_, _, _, upd_same⟩
end
end Rk

namespace Rk
open PySem L2 Ow
def TIs (K : PySem.W.Frag) (H : Hp) : List V → List (List Int) → Prop
  | [], [] => True
  | x :: xs, n :: ns => TI K H x n ∧ TIs K H xs ns
  | _, _ => False
theorem TIs.same {K : PySem.W.Frag} {H H' : Hp} (s : Same H H') : ∀ {xs : List V} {ns : List (List Int)}, TIs K H xs ns → TIs K H' xs ns
  | [], [], _ => trivial
  | _ :: _, _ :: _, h => ⟨h.1.same s, TIs.same s h.2⟩
theorem TIs.len {K : PySem.W.Frag} {H : Hp} : ∀ {xs : List V} {ns : List (List Int)}, TIs K H xs ns → xs.length = ns.length
  | [], [], _ => rfl
  | _ :: _, _ :: _, h => congrArg Nat.succ (TIs.len h.2)
theorem TIs.get {K : PySem.W.Frag} {H : Hp} : ∀ {xs : List V} {ns : List (List Int)} {i : Nat} {x : V}, TIs K H xs ns → xs[i]? = some x → ∃ n, ns[i]? = some n ∧ TI K H x n
  | x :: xs, n :: ns, 0, y, h, e => ⟨n, rfl, (show x = y by simpa using e) ▸ h.1⟩
  | x :: xs, n :: ns, i + 1, y, h, e => (TIs.get (xs := xs) (ns := ns) (i := i) h.2 (by simpa using e)).elim fun m z => ⟨m, by simpa using z.1, z.2⟩
  | [], [], i, y, _, e => by simp at e
theorem TIs.snoc {K : PySem.W.Frag} {H : Hp} : ∀ {xs : List V} {ns : List (List Int)} {x : V} {n : List Int}, TIs K H xs ns → TI K H x n → TIs K H (xs ++ [x]) (ns ++ [n])
  | [], [], _, _, _, h => ⟨h, trivial⟩
  | _ :: _, _ :: _, _, _, h, k => ⟨h.1, TIs.snoc h.2 k⟩
def dT (ns : List Int) : PyData := .tuple (ns.map PyData.int)
theorem dInts {K : PySem.W.Frag} {H : Hp} : ∀ ns : List Int, DpAll K H (ns.map V.int) (ns.map PyData.int)
  | [] => .nil
  | n :: ns => .cons (.int n) (dInts ns)
theorem TI.dp {K : PySem.W.Frag} {H : Hp} {v : V} {ns : List Int} (h : TI K H v ns) : Dp K H v (dT ns) := by
  obtain ⟨a, rfl, q⟩ := h
  exact .tup q (dInts ns)
theorem TIs.dp {K : PySem.W.Frag} {H : Hp} : ∀ {xs : List V} {ns : List (List Int)}, TIs K H xs ns → DpAll K H xs (ns.map dT)
  | [], [], _ => .nil
  | _ :: _, _ :: _, h => .cons h.1.dp (TIs.dp h.2)
theorem lay_ints : ∀ ns : List Int, PyData.canLayAll0 (ns.map PyData.int) = true
  | [] => by simp [PyData.canLayAll0]
  | n :: ns => by simp [PyData.canLayAll0, PyData.canLay0, lay_ints ns]
theorem lay_dT (ns : List Int) : (dT ns).canLay0 = true := by simp [dT, PyData.canLay0, lay_ints]
theorem lay_dTs : ∀ bs : List (List Int), PyData.canLayAll0 (bs.map dT) = true
  | [] => by simp [PyData.canLayAll0]
  | n :: ns => by simp [PyData.canLayAll0, lay_dT, lay_dTs ns]
theorem dep_ints : ∀ ns : List Int, PyData.depthAll (ns.map PyData.int) ≤ 1
  | [] => by simp [PyData.depthAll]
  | n :: ns => by have := dep_ints ns; simp [PyData.depthAll, PyData.depth]; omega
theorem dep_dT (ns : List Int) : (dT ns).depth ≤ 2 := by have := dep_ints ns; simp [dT, PyData.depth]; omega
theorem dep_dTs : ∀ bs : List (List Int), PyData.depthAll (bs.map dT) ≤ 3
  | [] => by simp [PyData.depthAll]
  | n :: ns => by have := dep_dTs ns; have := dep_dT n; simp [PyData.depthAll]; omega
theorem sh_dT (ns : List Int) : SeqAt.shaped (dT ns) = true := by
  unfold SeqAt.shaped
  rw [lay_dT, decide_eq_true (Nat.le_trans (dep_dT ns) (by decide))]
  rfl
theorem sh_L (ns : List Int) : SeqAt.shaped (.list (ns.map PyData.int)) = true := by
  unfold SeqAt.shaped
  have h1 : (PyData.list (ns.map PyData.int)).canLay0 = true := by simp [PyData.canLay0, lay_ints]
  have h2 : (PyData.list (ns.map PyData.int)).depth ≤ 64 := by have := dep_ints ns; simp [PyData.depth]; omega
  rw [h1, decide_eq_true h2]
  rfl
theorem eqv_ints : ∀ a b : List Int, PyData.eqvAll (a.map PyData.int) (b.map PyData.int) = decide (a = b)
  | [], [] => by simp [PyData.eqvAll]
  | [], _ :: _ => by simp [PyData.eqvAll]
  | _ :: _, [] => by simp [PyData.eqvAll]
  | x :: a, y :: b => by
    have h := eqv_ints a b
    by_cases e : x = y
    · subst e
      simp [PyData.eqvAll, PyData.eqv, h]
    · simp [PyData.eqvAll, PyData.eqv, h, e]
theorem eqv_dT (a b : List Int) : PyData.eqv (dT a) (dT b) = decide (a = b) := by
  unfold dT
  rw [show PyData.eqv (.tuple (a.map PyData.int)) (.tuple (b.map PyData.int)) = PyData.eqvAll (a.map PyData.int) (b.map PyData.int) from by simp [PyData.eqv]]
  exact eqv_ints a b
theorem eqv_dTs : ∀ a b : List (List Int), PyData.eqvAll (a.map dT) (b.map dT) = decide (a = b)
  | [], [] => by simp [PyData.eqvAll]
  | [], _ :: _ => by simp [PyData.eqvAll]
  | _ :: _, [] => by simp [PyData.eqvAll]
  | x :: a, y :: b => by
    have h := eqv_dTs a b
    have h2 := eqv_dT x y
    by_cases e : x = y
    · subst e
      simp [PyData.eqvAll, h2, h]
    · simp [PyData.eqvAll, h2, h, e]
theorem eqv_L (a b : List Int) : PyData.eqv (.list (a.map PyData.int)) (.list (b.map PyData.int)) = decide (a = b) := by
  rw [show PyData.eqv (.list (a.map PyData.int)) (.list (b.map PyData.int)) = PyData.eqvAll (a.map PyData.int) (b.map PyData.int) from by simp [PyData.eqv]]
  exact eqv_ints a b
/-- a list of tuples of ints, as data -/
def dL (bs : List (List Int)) : PyData := .list (bs.map dT)
theorem sh_dL (bs : List (List Int)) : SeqAt.shaped (dL bs) = true := by
  unfold SeqAt.shaped
  have h1 : (dL bs).canLay0 = true := by simp [dL, PyData.canLay0, lay_dTs]
  have h2 : (dL bs).depth ≤ 64 := by have := dep_dTs bs; simp [dL, PyData.depth]; omega
  rw [h1, decide_eq_true h2]
  rfl
theorem eqv_dL (a b : List (List Int)) : PyData.eqv (dL a) (dL b) = decide (a = b) := by
  unfold dL
  rw [show PyData.eqv (.list (a.map dT)) (.list (b.map dT)) = PyData.eqvAll (a.map dT) (b.map dT) from by simp [PyData.eqv]]
  exact eqv_dTs a b
/-- a list of tuples of ints at l -/
def LT (K : PySem.W.Frag) (H : Hp) (l : Addr) (bs : List (List Int)) : Prop := ∃ xs, H l = some (.lst xs) ∧ TIs K H xs bs
theorem LT.same {K : PySem.W.Frag} {H H' : Hp} {l : Addr} {bs : List (List Int)} (h : LT K H l bs) (s : Same H H') : LT K H' l bs := h.elim fun xs ⟨e, t⟩ => ⟨xs, s _ _ e, t.same s⟩
theorem LT.dp {K : PySem.W.Frag} {H : Hp} {l : Addr} {bs : List (List Int)} (h : LT K H l bs) : Dp K H (.ref l) (dL bs) := h.elim fun xs ⟨e, t⟩ => .lst (.of e) t.dp
theorem any_dT (x : List Int) : ∀ bs : List (List Int), ((bs.map dT).any fun z => PyData.eqv z (dT x)) = decide (x ∈ bs)
  | [] => by simp
  | b :: r => by
    rw [List.map_cons, List.any_cons, any_dT x r, eqv_dT]
    by_cases e : b = x
    · subst e; simp
    · simp [e, Ne.symm e]
end Rk

namespace Rk
open PySem L2 Ow
/-- 1 to n -/
def up (n : Nat) : List Int := (List.range n).map fun i : Nat => (1 : Int) + (i : Nat)
/-- a row of two to five places -/
structure IsRow (r : List Int) : Prop where
  lo : 2 ≤ r.length
  hi : r.length ≤ 5
  pm : r.Perm (up r.length)
theorem up_length (n : Nat) : (up n).length = n := by unfold up; rw [List.length_map, List.length_range]
theorem mem_up {n : Nat} {x : Int} : x ∈ up n ↔ 1 ≤ x ∧ x ≤ n := by
  unfold up
  rw [List.mem_map]
  constructor
  · rintro ⟨i, hi, rfl⟩
    have := List.mem_range.mp hi
    omega
  · rintro ⟨h1, h2⟩
    exact ⟨(x - 1).toNat, List.mem_range.mpr (by omega), by omega⟩
theorem up_sorted (n : Nat) : (up n).Pairwise (· ≤ ·) := by
  unfold up
  rw [List.pairwise_map]
  exact (List.pairwise_lt_range (n := n)).imp fun h => by omega
theorem up_nodup (n : Nat) : (up n).Nodup := by
  unfold up List.Nodup
  rw [List.pairwise_map]
  exact (List.pairwise_lt_range (n := n)).imp fun h => by omega
theorem IsRow.mem {r : List Int} (h : IsRow r) {x : Int} : x ∈ r ↔ 1 ≤ x ∧ x ≤ r.length := h.pm.mem_iff.trans mem_up
theorem IsRow.nodup {r : List Int} (h : IsRow r) : r.Nodup := h.pm.nodup_iff.mpr (up_nodup _)
theorem rgV_up (n : Nat) : rgV 1 ((n : Int) + 1) = (up n).map V.int := by
  unfold rgV up
  rw [List.map_map, show ((n : Int) + 1 - 1).toNat = n by omega]
  rfl
theorem int_at {ns : List Int} {i : Nat} {x : V} (h : (ns.map V.int)[i]? = some x) : ∃ c, ns[i]? = some c ∧ x = .int c := by
  rw [List.getElem?_map] at h
  cases e : ns[i]? with
  | none => rw [e] at h; cases h
  | some c => rw [e] at h; exact ⟨c, rfl, (Option.some.inj h).symm⟩
theorem small1000 {n : Nat} (h : n ≤ 1000) : n < sizeLine := Nat.lt_of_le_of_lt h (by decide)
theorem take_snoc {α : Type} {xs : List α} {i : Nat} {c : α} (h : xs[i]? = some c) : xs.take (i + 1) = xs.take i ++ [c] := by
  rw [List.take_add_one, h]
  rfl
theorem off_upd {H : Hp} {D : Addr} {o : HO} : ∀ q u, q ≠ D → H q = some u → upd H D o q = some u := fun q u n e => by rw [upd_ne n]; exact e
theorem same_off {H H2 H3 : Hp} {D : Addr} (nD : H D = none) (s : Same H H2) (o : ∀ q u, q ≠ D → H2 q = some u → H3 q = some u) : Same H H3 := fun q u e => o q u (ne_of_none e nD) (s q u e)
def spEntries (K : PySem.W.Frag) : Sp := fun vs H Q _ => ∃ (v : V) (r : List Int), vs = [v, .int 1] ∧ TI K H v r ∧ IsRow r ∧ ∀ H', Same H H' → Q (.bl true) H'
def spRow (K : PySem.W.Frag) : Sp := fun vs H Q _ => ∃ (v : V) (r : List Int), vs = [v] ∧ TI K H v r ∧ IsRow r ∧ ∀ H', Same H H' → Q (.bl true) H'
def spCheck (K : PySem.W.Frag) : Sp := fun vs H Q _ => ∃ (v : V) (r : List Int), vs = [v] ∧ TI K H v r ∧ IsRow r ∧ ∀ H', Same H H' → Q .non H'
section
variable {P : Program} {w : World} {K : PySem.W.Frag} {mg : Str → Option Value} {base : Heap}
theorem cal_are_entries (T : Txt K mg) : Cal P w K mg base "are_entries" 2 (spEntries K) := by
  refine T.d_are_entries.cal (ps := ["value", "least"]) (fun f fd D => ?_) (fun _ _ _ _ _ _ us hl => match us, hl with | [_, _], _ => rfl)
  refine D.ok sc_are_entries (fun vs H Q E h => ?_) (fun cdv A outer s H vs Q E hr h => ?_)
  · obtain ⟨v, r, rfl, _⟩ := h
    rfl
  · obtain ⟨v, r, rfl, ⟨a, rfl, ha⟩, hR, k⟩ := h
    refine ⟨_, (pss_cons (ps_set (i := 2) sc_are_entries.nd rfl (Or.inr rfl) (pe_callB call_len_seq (by rfl) T.b_len (by decide +kernel) (pa_cons (pv 0) pa_nil)))
      (pss_cons (ps_if (pt_not (pt_val (pe_callB (cr_all rfl) (by rfl) T.b_all (by decide +kernel) (pa_cons (pe_lc (own := [("entry", 3)]) (g := gName 3) (tt := tYes) rfl sc_are_entries.nd (pi_tup (pv 0)) (blkOk_by (own := [("entry", 3)]) (N := ["value", "least", "many", "entry"]) (sc := defScope s_are_entries) (by decide +kernel)) (fun _ _ _ _ _ => (pg_name (i := 3) sc_are_entries.nd rfl (Or.inl rfl))) (fun _ _ _ _ _ => pts_nil) (fun _ _ _ _ _ => (pe_cal (cal_is_within T) (hr.mono (by decide)) (by rfl) (pa_cons (pv 3) (pa_cons (pv 1) (pa_cons (pv 2) pa_nil)))))) pa_nil)))) (pss_one (ps_ret pe_bl)) pss_nil)
      (pss_one (ps_ret (pe_cmpR (op_eqD hr.units) (pe_callB cr_sorted (by rfl) T.b_sorted (by decide +kernel) (pa_cons (pe_lc (own := [("entry", 3)]) (g := gName 3) (tt := tYes) rfl sc_are_entries.nd (pi_tup (pv 0)) (blkOk_by (own := [("entry", 3)]) (N := ["value", "least", "many", "entry"]) (sc := defScope s_are_entries) (by decide +kernel)) (fun _ _ _ _ _ => (pg_name (i := 3) sc_are_entries.nd rfl (Or.inl rfl))) (fun _ _ _ _ _ => pts_nil) (fun _ _ _ _ _ => (pe_callB call_abs (by rfl) T.b_abs (by decide +kernel) (pa_cons (pv 3) pa_nil)))) pa_nil)) (pe_listRg rfl (by rfl) T.b_list (prg_2 (by rfl) T.b_range pe_int (pe_op op_add (pv 2) pe_int))) (nomark _)))))), ?_⟩
    have hl5 := hR.hi
    refine ⟨_, rfl, _, _, rfl, .inr ha, ?_⟩
    refine ⟨_, rfl, a, rfl, ⟨_, ha⟩, fun D nD => lc_tup (K := K) (a := a) (xs := r.map V.int) (fun i H' => Same H H' ∧ H' D = some (.lst ((List.replicate i true).map V.bl))) ⟨same_new nD, upd_same⟩ (fun i H' _ h => sqT_same h.1 ha) ?_ ?_⟩
    · rintro i x H2 hm ⟨s2, hD⟩
      obtain ⟨c, hc, rfl⟩ := int_at hm
      have ilt := (List.getElem?_eq_some_iff.mp hc).1
      have b := hR.mem.mp (List.mem_of_getElem? hc)
      refine ⟨rfl, _, rfl, _, rfl, _, rfl, _, _, _, rfl, .inl ⟨c, rfl, ?_⟩⟩
      rw [decide_eq_true b.1, List.length_map, decide_eq_true b.2]
      refine ⟨_, hD, ?_, same_off nD s2 off_upd, ?_⟩
      · rw [List.length_map, List.length_replicate]
        exact small1000 (by omega)
      · rw [upd_same, List.replicate_succ', List.map_append]
        rfl
    · rintro H2 ⟨s2, hD⟩
      refine ⟨_, _, rfl, .of hD, ?_⟩
      rw [show ((List.replicate (r.map V.int).length true).all id) = true by simp]
      refine ⟨_, rfl, iteF ?_⟩
      refine ⟨_, rfl, a, rfl, ⟨_, sqT_same s2 ha⟩, fun D2 nD2 => lc_tup (K := K) (a := a) (xs := r.map V.int) (fun i H' => Same H2 H' ∧ H' D2 = some (.lst ((r.take i).map V.int))) ⟨same_new nD2, upd_same⟩ (fun i H' _ h => sqT_same (s2.trans h.1) ha) ?_ ?_⟩
      · rintro i x H3 hm ⟨s3, hD3⟩
        obtain ⟨c, hc, rfl⟩ := int_at hm
        have ilt := (List.getElem?_eq_some_iff.mp hc).1
        have b := hR.mem.mp (List.mem_of_getElem? hc)
        refine ⟨rfl, _, rfl, c, rfl, ?_⟩
        rw [if_neg (show ¬ c < 0 by omega)]
        refine ⟨_, hD3, ?_, same_off nD2 s3 off_upd, ?_⟩
        · rw [List.length_map, List.length_take]
          exact small1000 (by omega)
        · rw [upd_same, take_snoc hc, List.map_append]
          rfl
      · rintro H3 ⟨s3, hD3⟩
        rw [List.length_map, List.take_length] at hD3
        refine ⟨_, r, rfl, .of hD3, Nat.lt_of_le_of_lt hl5 (by decide), fun ns' p hp hs np => ?_⟩
        have e : ns' = up r.length := (hp.trans hR.pm).eq_of_pairwise (fun a b _ _ h h2 => Int.le_antisymm h h2) hs (up_sorted _)
        subst e
        refine ⟨_, rfl, _, _, rfl, rfl, _, _, rfl, rfl, .of_le (by decide) (by rw [List.length_map]; omega) (by decide) (by omega), fun q nq => ?_⟩
        have s4 := same_new (o := .lst ((up r.length).map V.int)) np
        refine ⟨.list ((up r.length).map PyData.int), .list ((up r.length).map PyData.int), .lst (.of (same_new nq _ _ upd_same)) (dInts _), .lst (.of (by rw [List.length_map, rgV_up]; exact upd_same)) (dInts _), sh_L _, sh_L _, ?_⟩
        rw [eqv_L, decide_eq_true rfl]
        exact k _ ((s2.trans s3).trans (s4.trans (same_new nq)))
theorem cal_is_row (T : Txt K mg) : Cal P w K mg base "is_row" 3 (spRow K) := by
  refine T.d_is_row.cal (ps := ["value"]) (fun f fd D => ?_) (fun _ _ _ _ _ _ us hl => match us, hl with | [_], _ => rfl)
  refine D.ok sc_is_row (fun vs H Q E h => ?_) (fun cdv A outer s H vs Q E hr h => ?_)
  · obtain ⟨v, r, rfl, _⟩ := h
    rfl
  · obtain ⟨v, r, rfl, ⟨a, rfl, ha⟩, hR, k⟩ := h
    refine ⟨_, (pss_one (ps_ret (pe_and (pe_callB call_isi (by rfl) T.b_isinstance (by decide +kernel) (pa_cons (pv 0) (pa_cons (pe_bltn (v := .ty "tuple") (by rfl) T.b_tuple (by decide +kernel) rfl) pa_nil))) (pe_and (pe_chain op_le op_le pe_int (pe_callB call_len_seq (by rfl) T.b_len (by decide +kernel) (pa_cons (pv 0) pa_nil)) (C8.pe_gc (v := .int 5) (by rfl) T.gMP)) (pe_one (pe_cal (cal_are_entries T) (hr.mono (by decide)) (by rfl) (pa_cons (pv 0) (pa_cons pe_int pa_nil)))))))), ?_⟩
    refine ⟨_, rfl, _, _, .type "tuple", _, true, rfl, .ty "tuple", tup_ty ha, kit_ty (by decide +kernel), _, rfl, iteT ?_⟩
    have l2 := hR.lo
    have l5 := hR.hi
    refine ⟨_, rfl, _, _, rfl, .inr ha, _, _, rfl, rfl, _, rfl, ?_⟩
    rw [decide_eq_true (show (2 : Int) ≤ ((r.map V.int).length : Nat) by rw [List.length_map]; omega)]
    refine iteT ⟨_, _, rfl, rfl, _, rfl, ?_⟩
    rw [decide_eq_true (show (((r.map V.int).length : Nat) : Int) ≤ 5 by rw [List.length_map]; omega)]
    exact iteT ⟨_, rfl, _, r, rfl, ⟨a, rfl, ha⟩, hR, k⟩
theorem cal_check_row (T : Txt K mg) : Cal P w K mg base "check_row" 4 (spCheck K) := by
  refine T.d_check_row.cal (ps := ["row"]) (fun f fd D => ?_) (fun _ _ _ _ _ _ us hl => match us, hl with | [_], _ => rfl)
  refine D.ok sc_check_row (fun vs H Q E h => ?_) (fun cdv A outer s H vs Q E hr h => ?_)
  · obtain ⟨v, r, rfl, _⟩ := h
    rfl
  · obtain ⟨v, r, rfl, ha, hR, k⟩ := h
    refine ⟨_, (pss_one (ps_if (pt_not (pt_val (pe_cal (cal_is_row T) (hr.mono (by decide)) (by rfl) (pa_cons (pv 0) pa_nil)))) (pss_one ps_never) pss_nil)), ?_⟩
    refine ⟨_, rfl, v, r, rfl, ha, hR, fun H' s' => ⟨_, rfl, iteF (k H' s')⟩⟩
end
end Rk

namespace Rk
open PySem L2 Ow
def rLenQ (K : PySem.W.Frag) : List V → Hp → VK → Prop := fun xs H Q => ∃ p ys, xs = [.ref p] ∧ (SqL K H p ys ∨ SqT K H p ys) ∧ Q (.int ys.length) H
theorem walk_zipT {K : PySem.W.Frag} {a b : Addr} {xs ys : List V} {n : Nat} (hn : n = min xs.length ys.length) : Walk (RZ.ItzT K a b) n (fun H => SqT K H a xs ∧ SqT K H b ys) (YPair (fun i => xs[i]?) (fun i => ys[i]?)) := by
  subst hn
  refine ⟨fun i _ hi q => ?_, fun _ q => ⟨xs, ys, q.1, q.2, by omega⟩, fun i H v H' _ q y => ?_⟩
  · have h1 : i < xs.length := by omega
    have h2 : i < ys.length := by omega
    exact ⟨xs, ys, xs[i], ys[i], q.1, q.2, by simp [h1], by simp [h2]⟩
  · obtain ⟨T, x, z, h1, h2, h3, h4, h5⟩ := y
    exact ⟨T, x, z, h1, h2, h3, h4 xs q.1, h5 ys q.2⟩
/-- the inner walk of two -/
theorem lc2_in {J : It} {n : Nat} {G : Hp → Prop} {Y : Nat → Hp → V → Hp → Prop} (w : Walk J n G Y) {g : TG} {tt : TT} {te : TE} {vs : List Nat} {σ : L2.St} {H1 : Hp} {D : Addr} {Nx : Hp → Prop} (Pv : Nat → Hp → Prop) (h0 : Pv 0 H1) (hG : ∀ i H, i ≤ n → Pv i H → G H)
    (hs : ∀ i x H H', i < n → Pv i H → Y i H x H' → g x (wipe σ vs) H' fun σ2 H2 => wipe σ2 vs = wipe σ vs ∧ tt σ2 H2 fun b H3 =>
      if b = true then te σ2 H3 fun y H4 => ∃ acc, H4 D = some (.lst acc) ∧ acc.length < sizeLine ∧ Pv (i + 1) (upd H4 D (.lst (acc ++ [y]))) else Pv (i + 1) H3) (hd : ∀ H, Pv n H → Nx H) :
    ∃ W : Nat → Nat → Hp → Prop, (∃ m, W 0 m H1) ∧ ∀ i m H, W i m H →
      (J.stop i H ∧ Nx H) ∨ (J.go i H ∧ ∃ Nx1 : Hp → Prop, (∀ H', Nx1 H' → ∃ m', m' < m ∧ W (i + 1) m' H') ∧ ∀ x H', J.yld i H x H' → g x (wipe σ vs) H' fun σ2 H2 => wipe σ2 vs = wipe σ vs ∧ tt σ2 H2 fun b H3 =>
        if b = true then te σ2 H3 fun y H4 => ∃ acc, H4 D = some (.lst acc) ∧ acc.length < sizeLine ∧ Nx1 (upd H4 D (.lst (acc ++ [y]))) else Nx1 H3) := by
  refine ⟨fun i m H => m = n - i ∧ i ≤ n ∧ Pv i H, ⟨n, by simp, Nat.zero_le _, h0⟩, ?_⟩
  rintro i m H ⟨rfl, hi, p⟩
  have q := hG i H hi p
  by_cases hlt : i < n
  · refine .inr ⟨w.goes i H hlt q, Pv (i + 1), fun H' p' => ⟨n - (i + 1), by omega, rfl, hlt, p'⟩, fun x H' y => hs i x H H' hlt p (w.yields i H x H' hlt q y)⟩
  · have e : i = n := by omega
    subst e
    exact .inl ⟨w.stops H q, hd H p⟩
/-- the outer walk of two -/
theorem lc2_out {J : It} {n : Nat} {G : Hp → Prop} {Y : Nat → Hp → V → Hp → Prop} (w : Walk J n G Y) {g : TG} {tt : TT} {R : L2.St → Hp → (Hp → Prop) → Prop} {vs : List Nat} {σ : L2.St} {H1 : Hp} {Qd : Hp → Prop} (Pv : Nat → Hp → Prop) (h0 : Pv 0 H1) (hG : ∀ i H, i ≤ n → Pv i H → G H)
    (hs : ∀ i x H H', i < n → Pv i H → Y i H x H' → g x (wipe σ vs) H' fun σ2 H2 => wipe σ2 vs = wipe σ vs ∧ tt σ2 H2 fun b H3 => if b = true then R σ2 H3 (Pv (i + 1)) else Pv (i + 1) H3) (hd : ∀ H, Pv n H → Qd H) :
    ∃ W : Nat → Nat → Hp → Prop, (∃ m, W 0 m H1) ∧ ∀ i m H, W i m H →
      (J.stop i H ∧ Qd H) ∨ (J.go i H ∧ ∃ Nx : Hp → Prop, (∀ H', Nx H' → ∃ m', m' < m ∧ W (i + 1) m' H') ∧ ∀ x H', J.yld i H x H' → g x (wipe σ vs) H' fun σ2 H2 => wipe σ2 vs = wipe σ vs ∧ tt σ2 H2 fun b H3 =>
        if b = true then R σ2 H3 Nx else Nx H3) := by
  refine ⟨fun i m H => m = n - i ∧ i ≤ n ∧ Pv i H, ⟨n, by simp, Nat.zero_le _, h0⟩, ?_⟩
  rintro i m H ⟨rfl, hi, p⟩
  have q := hG i H hi p
  by_cases hlt : i < n
  · refine .inr ⟨w.goes i H hlt q, Pv (i + 1), fun H' p' => ⟨n - (i + 1), by omega, rfl, hlt, p'⟩, fun x H' y => hs i x H H' hlt p (w.yields i H x H' hlt q y)⟩
  · have e : i = n := by omega
    subst e
    exact .inl ⟨w.stops H q, hd H p⟩
/-- the entries at places -/
def sel (r ps : List Int) : List Int := ps.map fun p => r.getD p.toNat 0
def prs (es qs : List Int) : List (List Int) := (es.zip qs).map fun x => [x.1, x.2]
def cmpB (a b : Int × Int) : Bool := decide (a.1 < b.1) == decide (a.2 < b.2)
/-- entries lie to one another as those of a pattern -/
def hpB (es qs : List Int) : Bool := (es.zip qs).all fun a => (es.zip qs).all fun b => cmpB a b
theorem TIs.but {K : PySem.W.Frag} {H H' : Hp} {p : Addr} {acc : List V} (o : But p H H') (hp : H p = some (.lst acc)) : ∀ {xs : List V} {ns : List (List Int)}, TIs K H xs ns → TIs K H' xs ns
  | [], [], _ => trivial
  | _ :: _, _ :: _, h => ⟨h.1.elim fun a ⟨e, q⟩ => ⟨a, e, o.sqT hp q⟩, TIs.but o hp h.2⟩
theorem but_upd {p : Addr} {H : Hp} {o : HO} : But p H (upd H p o) := fun q u n e => by rw [upd_ne n]; exact e
theorem prs_get {es qs : List Int} {i : Nat} {e c : Int} (h : es[i]? = some e) (k : qs[i]? = some c) : (prs es qs)[i]? = some [e, c] := by
  unfold prs
  rw [List.getElem?_map, List.getElem?_zip_eq_some (z := (e, c)) |>.mpr ⟨h, k⟩]
  rfl
theorem sel_get {r ps : List Int} {i : Nat} {p : Int} (h : ps[i]? = some p) : (sel r ps)[i]? = some (r.getD p.toNat 0) := by
  unfold sel
  rw [List.getElem?_map, h]
  rfl
theorem ix_row {r : List Int} {p : Int} (h0 : 0 ≤ p) (h1 : p < r.length) : atI (r.map V.int) p = some (.int (r.getD p.toNat 0)) := by
  have hi : p.toNat < r.length := by omega
  refine at_of (j := p.toNat) (by omega) ?_
  rw [List.getElem?_map, List.getElem?_eq_getElem hi, List.getD_eq_getElem?_getD, List.getElem?_eq_getElem hi]
  rfl
theorem flat_len {f : Int × Int → Int × Int → Bool} (L : List (Int × Int)) : ∀ M : List (Int × Int), (M.flatMap fun a => L.map (f a)).length = M.length * L.length
  | [] => by simp
  | a :: M => by rw [List.flatMap_cons, List.length_append, flat_len L M, List.length_map, List.length_cons, Nat.succ_mul]; omega
def spHas (K : PySem.W.Frag) : Sp := fun vs H Q _ => ∃ (rv qv pv : V) (r q ps : List Int), vs = [rv, qv, pv] ∧ TI K H rv r ∧ TI K H qv q ∧ TI K H pv ps ∧ q.length = ps.length ∧ ps.length ≤ 5 ∧ (∀ p ∈ ps, 0 ≤ p ∧ p < r.length) ∧
  ∀ H', Same H H' → Q (.bl (hpB (sel r ps) q)) H'
section
variable {P : Program} {w : World} {K : PySem.W.Frag} {mg : Str → Option Value} {base : Heap}
theorem cal_has_pattern (T : Txt K mg) : Cal P w K mg base "has_pattern" 1 (spHas K) := by
  refine T.d_has_pattern.cal (ps := ["row", "pattern", "places"]) (fun f fd D => ?_) (fun _ _ _ _ _ _ us hl => match us, hl with | [_, _, _], _ => rfl)
  refine D.ok sc_has_pattern (fun vs H Q E h => ?_) (fun cdv A outer s H vs Q E hr h => ?_)
  · obtain ⟨_, _, _, _, _, _, rfl, _⟩ := h
    rfl
  · obtain ⟨_, _, _, r, q, ps, rfl, ⟨ra, rfl, hra⟩, ⟨qa, rfl, hqa⟩, ⟨pa, rfl, hpa⟩, hl, l5, bd, k⟩ := h
    refine ⟨_, (pss_cons (ps_set (i := 3) sc_has_pattern.nd rfl (Or.inr rfl) (pe_lc (own := [("at", 4), ("entry", 5)]) (g := gTup K 2 (gCons (gName 4) (gCons (gName 5) (gNil)))) (tt := tYes) rfl sc_has_pattern.nd (RZ.pi_zipA (by rfl) T.b_zip (pa_cons (pv 2) (pa_cons (pv 1) pa_nil))) (blkOk_by (own := [("at", 4), ("entry", 5)]) (N := ["row", "pattern", "places", "told", "at", "entry", "here", "low", "there", "high"]) (sc := defScope s_has_pattern) (by decide +kernel)) (fun _ _ _ _ _ => (pg_tup (by rfl) (pgs_cons (pg_name (i := 4) sc_has_pattern.nd rfl (Or.inl rfl)) (pgs_cons (pg_name (i := 5) sc_has_pattern.nd rfl (Or.inl rfl)) pgs_nil)))) (fun _ _ _ _ _ => pts_nil) (fun _ _ _ _ _ => (pe_tup (pa_cons (pe_ix (show IxR _ (rIxT K) from ix_tup) (pv 0) (pv 4) (fun _ _ => rfl)) (pa_cons (pv 5) pa_nil))))))
      (pss_one (ps_ret (pe_callB (cr_all rfl) (by rfl) T.b_all (by decide +kernel) (pa_cons (pe_lc2 (own := [("here", 6), ("low", 7), ("there", 8), ("high", 9)]) (vs1 := [8, 9]) (g := gTup K 2 (gCons (gName 6) (gCons (gName 7) (gNil)))) (g1 := gTup K 2 (gCons (gName 8) (gCons (gName 9) (gNil)))) (tt := tYes) (tt1 := tYes) rfl sc_has_pattern.nd (pi_list (pv 3)) (blkOk_by (own := [("here", 6), ("low", 7), ("there", 8), ("high", 9)]) (N := ["row", "pattern", "places", "told", "at", "entry", "here", "low", "there", "high"]) (sc := defScope s_has_pattern) (by decide +kernel)) (by decide) (fun _ _ _ _ _ => (pg_tup (by rfl) (pgs_cons (pg_name (i := 6) sc_has_pattern.nd rfl (Or.inl rfl)) (pgs_cons (pg_name (i := 7) sc_has_pattern.nd rfl (Or.inl rfl)) pgs_nil)))) (fun _ _ _ _ _ => pts_nil) (fun _ _ _ _ _ => (show PI _ _ _ (iList K (tVar 3)) from (pi_list (pv 3)))) (fun _ _ _ _ _ => (pg_tup (by rfl) (pgs_cons (pg_name (i := 8) sc_has_pattern.nd rfl (Or.inl rfl)) (pgs_cons (pg_name (i := 9) sc_has_pattern.nd rfl (Or.inl rfl)) pgs_nil)))) (fun _ _ _ _ _ => pts_nil) (fun _ _ _ _ _ => (pe_cmpR op_eq (pe_cmpR op_lt (pv 6) (pv 8) (nomark _)) (pe_cmpR op_lt (pv 7) (pv 9) (nomark _)) (nomark _)))) pa_nil))))), ?_⟩
    refine ⟨_, rfl, _, rfl, pa, qa, _, _, rfl, .inr ⟨hpa, hqa, fun D nD => lc_it (walk_zipT (K := K) (a := pa) (b := qa) (xs := ps.map V.int) (ys := q.map V.int) (n := ps.length) (by simp [hl])) (fun i H' => Same H H' ∧ LT K H' D ((prs (sel r ps) q).take i)) ⟨same_new nD, [], upd_same, trivial⟩ (fun i H' _ h => ⟨sqT_same h.1 hpa, sqT_same h.1 hqa⟩) ?_ ?_⟩⟩
    · rintro i x H2 H3 hi ⟨s2, acc, hD, ht⟩ ⟨T0, x0, y0, rfl, nT, rfl, hx, hy⟩
      obtain ⟨p, hp, rfl⟩ := int_at hx
      obtain ⟨c, hc, rfl⟩ := int_at hy
      have bp := bd p (List.mem_of_getElem? hp)
      have s5 : Same H (upd H2 T0 (.tup [.int p, .int c])) := s2.trans (same_new nT)
      refine ⟨_, _, rfl, .of upd_same, rfl, _, _, rfl, _, _, rfl, rfl, rfl, _, rfl, _, rfl, _, _, _, _, rfl, rfl, sqT_same s5 hra, ix_row bp.1 bp.2, _, rfl, show 2 ≤ sizeLine by decide, fun t nt => ?_⟩
      have hD3 := same_new (o := .tup [.int p, .int c]) nT _ _ hD
      have hD4 := same_new (o := .tup [.int (r.getD p.toNat 0), .int c]) nt _ _ hD3
      refine ⟨acc, hD4, ?_, same_off nD (s5.trans (same_new nt)) off_upd, acc ++ [.ref t], upd_same, TIs.but but_upd hD4 ?_⟩
      · rw [ht.len, List.length_take]
        exact small1000 (by omega)
      · rw [take_snoc (prs_get (sel_get hp) hc)]
        exact TIs.snoc (ht.same ((same_new nT).trans (same_new nt))) ⟨t, rfl, .of upd_same⟩
    · rintro H2 ⟨s2, xs, hD, ht⟩
      have lsel : (sel r ps).length = ps.length := by unfold sel; rw [List.length_map]
      have lz : ((sel r ps).zip q).length = ps.length := by rw [List.length_zip, lsel]; omega
      have lp : (prs (sel r ps) q).length = ps.length := by unfold prs; rw [List.length_map, lz]
      rw [List.take_of_length_le (by omega)] at ht
      have lx : xs.length = ps.length := ht.len.trans lp
      have pg : ∀ {i : Nat} {x : V}, xs[i]? = some x → ∃ a, ((sel r ps).zip q)[i]? = some a ∧ TI K H2 x [a.1, a.2] := fun {i x} hx => by
        obtain ⟨n, hn, t⟩ := ht.get hx
        unfold prs at hn
        rw [List.getElem?_map] at hn
        cases e : ((sel r ps).zip q)[i]? with
        | none => rw [e] at hn; cases hn
        | some a => rw [e] at hn; cases Option.some.inj hn; exact ⟨a, rfl, t⟩
      have fin : ∀ H', Same H2 H' → Q (.bl (((sel r ps).zip q).all fun a => ((sel r ps).zip q).all fun b => cmpB a b)) H' := fun H' s => k H' (s2.trans s)
      generalize (sel r ps).zip q = L at lz pg fin
      refine ⟨_, rfl, D, rfl, ⟨_, .of hD⟩, fun D2 nD2 => lc2_out (walk_list (K := K) (a := D) (xs := xs)) (fun i H' => Same H2 H' ∧ H' D2 = some (.lst (((L.take i).flatMap fun a => L.map (cmpB a)).map V.bl))) ⟨same_new nD2, upd_same⟩ (fun i H' _ h => .of (h.1 _ _ hD)) ?_ ?_⟩
      · rintro i x H3 _ hi ⟨s3, hD3⟩ ⟨rfl, hx⟩
        obtain ⟨u, hu, tx⟩ := pg hx
        obtain ⟨xa, rfl, hxa⟩ := tx.same s3
        refine ⟨_, _, rfl, hxa, rfl, _, _, rfl, _, _, rfl, rfl, rfl, ?_⟩
        refine ⟨_, rfl, D, rfl, ⟨_, .of (s3 _ _ hD)⟩, lc2_in (walk_list (K := K) (a := D) (xs := xs)) (fun j H' => Same H2 H' ∧ H' D2 = some (.lst (((L.take i).flatMap fun a => L.map (cmpB a)).map V.bl ++ ((L.take j).map (cmpB u)).map V.bl))) ⟨s3, by rw [hD3]; simp⟩ (fun i H' _ h => .of (h.1 _ _ hD)) ?_ ?_⟩
        · rintro j y H4 _ hj ⟨s4, hD4⟩ ⟨rfl, hy⟩
          obtain ⟨v, hv, ty⟩ := pg hy
          obtain ⟨ya, rfl, hya⟩ := ty.same s4
          refine ⟨_, _, rfl, hya, rfl, _, _, rfl, _, _, rfl, rfl, rfl, ?_⟩
          refine ⟨_, rfl, _, rfl, _, _, rfl, rfl, _, rfl, _, rfl, _, _, rfl, rfl, ?_⟩
          refine ⟨rfl, ?_⟩
          have hc : decide (V.bl (decide (u.1 < v.1)) = V.bl (decide (u.2 < v.2))) = cmpB u v := by
            unfold cmpB
            cases decide (u.1 < v.1) <;> cases decide (u.2 < v.2) <;> decide
          rw [hc]
          refine ⟨_, hD4, ?_, same_off nD2 s4 off_upd, ?_⟩
          · have l1 := flat_len (f := cmpB) L (L.take i)
            rw [List.length_append, List.length_map, List.length_map, List.length_map, l1, List.length_take, List.length_take]
            have : min i L.length * L.length ≤ 5 * 5 := Nat.mul_le_mul (by omega) (by omega)
            exact small1000 (by omega)
          · rw [upd_same, take_snoc hv, List.append_assoc, List.map_append, List.map_append]
            rfl
        · rintro H4 ⟨s4, hD4⟩
          refine ⟨s4, ?_⟩
          rw [lx, ← lz, List.take_length] at hD4
          rw [hD4, take_snoc hu, List.flatMap_append, List.map_append]
          simp
      · rintro H3 ⟨s3, hD3⟩
        rw [lx, ← lz, List.take_length] at hD3
        refine ⟨_, _, rfl, .of hD3, ?_⟩
        rw [show (L.flatMap fun a => L.map (cmpB a)).all id = L.all fun a => L.all fun b => cmpB a b by simp [List.all_flatMap, List.all_map, Function.comp_def]]
        exact fin _ s3
end
end Rk

namespace Rk
/-- ascending places of a row of n entries -/
structure Asc (n : Nat) (ps : List Int) : Prop where
  up : ps.Pairwise (· < ·)
  bd : ∀ p ∈ ps, 0 ≤ p ∧ p < n
/-- the first place that may come behind -/
def lo (ps : List Int) : Int := if ps.isEmpty then 0 else ps.getLastD 0 + 1
def rg (a b : Int) : List Int := (List.range (b - a).toNat).map fun i : Nat => a + (i : Nat)
theorem mem_rg {a b x : Int} : x ∈ rg a b ↔ a ≤ x ∧ x < b := by
  unfold rg
  rw [List.mem_map]
  constructor
  · rintro ⟨i, hi, rfl⟩
    have := List.mem_range.mp hi
    omega
  · rintro ⟨h1, h2⟩
    exact ⟨(x - a).toNat, List.mem_range.mpr (by omega), by omega⟩
theorem rg_length (a b : Int) : (rg a b).length = (b - a).toNat := by unfold rg; rw [List.length_map, List.length_range]
def nxt (n : Nat) (ps : List Int) : List (List Int) := (rg (lo ps) n).map fun at_ => ps ++ [at_]
theorem lo_nonneg {n : Nat} {ps : List Int} (h : Asc n ps) : 0 ≤ lo ps ∧ lo ps ≤ n := by
  unfold lo
  cases ps with
  | nil => simp
  | cons a r =>
    have hm : (a :: r).getLastD 0 ∈ a :: r := by
      rw [List.getLastD_eq_getLast?, List.getLast?_eq_some_getLast (List.cons_ne_nil a r)]
      exact List.getLast_mem _
    have := h.bd _ hm
    simp only [List.isEmpty_cons, Bool.false_eq_true, if_false]
    omega
theorem le_last : ∀ {ps : List Int} {p : Int}, ps.Pairwise (· < ·) → p ∈ ps → p ≤ ps.getLastD 0
  | [], _, _, h => nomatch h
  | [a], p, _, h => by simp at h; subst h; simp
  | a :: b :: r, p, hp, h => by
    rw [List.pairwise_cons] at hp
    have e : (a :: b :: r).getLastD 0 = (b :: r).getLastD 0 := rfl
    rw [e]
    rcases List.mem_cons.mp h with rfl | h
    · have := hp.1 b (by simp)
      have := le_last hp.2 (p := b) (by simp)
      omega
    · exact le_last hp.2 h
theorem asc_snoc {n : Nat} {ps : List Int} {x : Int} : Asc n (ps ++ [x]) ↔ Asc n ps ∧ lo ps ≤ x ∧ x < n := by
  constructor
  · rintro ⟨hu, hb⟩
    rw [List.pairwise_append] at hu
    have h1 : Asc n ps := ⟨hu.1, fun p hp => hb p (List.mem_append_left _ hp)⟩
    have hx := hb x (by simp)
    refine ⟨h1, ?_, hx.2⟩
    unfold lo
    cases ps with
    | nil => simpa using hx.1
    | cons a r =>
      have hm : (a :: r).getLastD 0 ∈ a :: r := by
        rw [List.getLastD_eq_getLast?, List.getLast?_eq_some_getLast (List.cons_ne_nil a r)]
        exact List.getLast_mem _
      have := hu.2.2 _ hm x (by simp)
      simp only [List.isEmpty_cons, Bool.false_eq_true, if_false]
      omega
  · rintro ⟨⟨hu, hb⟩, h1, h2⟩
    have h0 := lo_nonneg ⟨hu, hb⟩
    refine ⟨?_, fun p hp => ?_⟩
    · rw [List.pairwise_append]
      refine ⟨hu, by simp, fun p hp y hy => ?_⟩
      simp at hy
      subst hy
      have := le_last hu hp
      unfold lo at h1
      cases ps with
      | nil => cases hp
      | cons a r =>
        simp only [List.isEmpty_cons, Bool.false_eq_true, if_false] at h1
        omega
    · rcases List.mem_append.mp hp with hp | hp
      · exact hb p hp
      · simp at hp
        subst hp
        omega
/-- places at which a row has the first k entries of a pattern -/
structure PlK (r q : List Int) (k : Nat) (ps : List Int) : Prop where
  asc : Asc r.length ps
  len : ps.length = k
  hp : hpB (sel r ps) (q.take k) = true
theorem sel_append (r a b : List Int) : sel r (a ++ b) = sel r a ++ sel r b := by unfold sel; rw [List.map_append]
theorem sel_length (r a : List Int) : (sel r a).length = a.length := by unfold sel; rw [List.length_map]
theorem all_sub {α : Type} {f : α → α → Bool} {l m : List α} (h : (l.all fun a => l.all fun b => f a b) = true) (s : ∀ x ∈ m, x ∈ l) : (m.all fun a => m.all fun b => f a b) = true := by
  rw [List.all_eq_true] at h ⊢
  intro a ha
  have := h a (s a ha)
  rw [List.all_eq_true] at this ⊢
  exact fun b hb => this b (s b hb)
theorem PlK.pre {r q ps : List Int} {x : Int} {k : Nat} (h : PlK r q (k + 1) (ps ++ [x])) : PlK r q k ps := by
  have hl : ps.length = k := by have := h.len; rw [List.length_append] at this; simpa using this
  refine ⟨(asc_snoc.mp h.asc).1, hl, ?_⟩
  have z := h.hp
  unfold hpB at z ⊢
  refine all_sub z fun y hy => ?_
  obtain ⟨i, hi⟩ := List.mem_iff_getElem?.mp hy
  have hz := List.getElem?_zip_eq_some.mp hi
  have l1 : i < (sel r ps).length := (List.getElem?_eq_some_iff.mp hz.1).1
  have l2 : i < k := by rw [sel_length] at l1; omega
  refine List.mem_iff_getElem?.mpr ⟨i, List.getElem?_zip_eq_some.mpr ⟨?_, ?_⟩⟩
  · rw [sel_append, List.getElem?_append_left l1]
    exact hz.1
  · have h2 := hz.2
    rw [List.getElem?_take] at h2 ⊢
    rw [if_pos l2] at h2
    rw [if_pos (by omega)]
    exact h2
theorem plK_zero {r q ps : List Int} : PlK r q 0 ps ↔ ps = [] := by
  constructor
  · exact fun h => List.eq_nil_of_length_eq_zero h.len
  · rintro rfl
    exact ⟨⟨.nil, by simp⟩, rfl, by simp [hpB, sel]⟩
theorem snoc_of {k : Nat} {ps : List Int} (h : ps.length = k + 1) : ∃ a x, ps = a ++ [x] := by
  have hn : ps ≠ [] := by intro e; rw [e] at h; cases h
  exact ⟨ps.dropLast, ps.getLast hn, (List.dropLast_concat_getLast hn).symm⟩
/-- one step of the search -/
theorem step_mem {r q : List Int} {k : Nat} {bs : List (List Int)} (h : ∀ ps, ps ∈ bs ↔ PlK r q k ps) (ps : List Int) :
    ps ∈ (bs.flatMap (nxt r.length)).filter (fun ps => hpB (sel r ps) (q.take (k + 1))) ↔ PlK r q (k + 1) ps := by
  rw [List.mem_filter, List.mem_flatMap]
  constructor
  · rintro ⟨⟨a, ha, hx⟩, hp⟩
    unfold nxt at hx
    obtain ⟨x, hx2, rfl⟩ := List.mem_map.mp hx
    have pa := (h a).mp ha
    have := mem_rg.mp hx2
    exact ⟨asc_snoc.mpr ⟨pa.asc, this.1, this.2⟩, by rw [List.length_append, pa.len]; rfl, hp⟩
  · intro hk
    obtain ⟨a, x, rfl⟩ := snoc_of hk.len
    have := asc_snoc.mp hk.asc
    exact ⟨⟨a, (h a).mpr hk.pre, List.mem_map.mpr ⟨x, mem_rg.mpr this.2, rfl⟩⟩, hk.hp⟩
theorem nxt_length {n : Nat} {ps : List Int} (h : 0 ≤ lo ps) : (nxt n ps).length ≤ n := by
  unfold nxt
  rw [List.length_map, rg_length]
  omega
theorem flat_nxt {n : Nat} : ∀ {bs : List (List Int)}, (∀ ps ∈ bs, 0 ≤ lo ps) → (bs.flatMap (nxt n)).length ≤ n * bs.length
  | [], _ => by simp
  | a :: r, h => by
    rw [List.flatMap_cons, List.length_append, List.length_cons, Nat.mul_succ]
    have h1 := nxt_length (n := n) (h a (by simp))
    have h2 := flat_nxt (n := n) fun ps hp => h ps (List.mem_cons_of_mem _ hp)
    omega
end Rk

namespace Rk
open PySem L2 Ow
def spPlaces (K : PySem.W.Frag) : Sp := fun vs H Q _ => ∃ (rv qv : V) (r q : List Int), vs = [rv, qv] ∧ TI K H rv r ∧ TI K H qv q ∧ IsRow r ∧ IsRow q ∧
  (∀ H', Same H H' → (∀ ps, ¬ PlK r q q.length ps) → Q .non H') ∧ (∀ v ps H', Same H H' → TI K H' v ps → PlK r q q.length ps → Q v H')
theorem LT.but {K : PySem.W.Frag} {H H' : Hp} {l p : Addr} {acc : List V} {bs : List (List Int)} (h : LT K H l bs) (o : But p H H') (hp : H p = some (.lst acc)) (n : l ≠ p) : LT K H' l bs := h.elim fun xs ⟨e, t⟩ => ⟨xs, o _ _ n e, t.but o hp⟩
theorem tru_tup {K : PySem.W.Frag} {H : Hp} {p : Addr} {a : List Int} (h : SqT K H p (a.map V.int)) : TruV K (.ref p) H (!a.isEmpty) := .inr (.inl ⟨_, h, by cases a <;> rfl⟩)
theorem last_at {ps : List Int} (h : ps ≠ []) : atI (ps.map V.int) (-1) = some (.int (ps.getLastD 0)) := by
  have hl : 0 < ps.length := List.length_pos_iff.mpr h
  have e : ixN (ps.map V.int).length (-1) = some (ps.length - 1) := by
    unfold ixN
    rw [List.length_map, if_neg (by omega)]
    simp
    omega
  unfold atI
  rw [e]
  show (ps.map V.int)[ps.length - 1]? = _
  rw [List.getElem?_map, ← List.getLast?_eq_getElem?, List.getLastD_eq_getLast?]
  rw [List.getLast?_eq_some_getLast h]
  rfl
theorem first_at {K : PySem.W.Frag} {σ : L2.St} {H : Hp} {Q : VK} {pa : Addr} {ps : List Int} (h5 : σ[5]? = some (some (.ref pa))) (hpa : SqT K H pa (ps.map V.int)) (q : Q (.int (lo ps)) H) :
    tIf (tTru K 5) (tOp (rI0 fun i j => V.int (i + j)) (tOp (rIxT K) (tVar 5) (tUn (rU fun i => V.int (-i)) (tC (V.int 1)))) (tC (V.int 1))) (tC (V.int 0)) σ H Q := by
  refine ⟨_, h5, _, tru_tup hpa, ?_⟩
  by_cases e : ps = []
  · subst e
    exact iteF q
  · have e2 : (!ps.isEmpty) = true := by cases ps with | nil => exact absurd rfl e | cons a r => rfl
    rw [e2]
    refine iteT ⟨_, h5, _, rfl, _, _, _, _, rfl, rfl, hpa, last_at e, _, _, rfl, rfl, ?_⟩
    have e3 : lo ps = ps.getLastD 0 + 1 := by
      unfold lo
      rw [if_neg (by cases ps with | nil => exact absurd rfl e | cons a r => simp)]
    show Q (.int (ps.getLastD 0 + 1)) H
    rw [← e3]
    exact q
theorem nxt_get {n : Nat} {ps : List Int} {j : Nat} (h : j < ((n : Int) - lo ps).toNat) : (nxt n ps)[j]? = some (ps ++ [lo ps + (j : Nat)]) := by
  unfold nxt rg
  rw [List.getElem?_map, List.getElem?_map, List.getElem?_range h]
  rfl
section
variable {P : Program} {w : World} {K : PySem.W.Frag} {mg : Str → Option Value} {base : Heap}
theorem cal_pattern_places (T : Txt K mg) : Cal P w K mg base "pattern_places" 5 (spPlaces K) := by
  refine T.d_pattern_places.cal (ps := ["row", "pattern"]) (fun f fd D => ?_) (fun _ _ _ _ _ _ us hl => match us, hl with | [_, _], _ => rfl)
  refine D.ok sc_pattern_places (fun vs H Q E h => ?_) (fun cdv A outer s H vs Q E hr h => ?_)
  · obtain ⟨_, _, _, _, rfl, _⟩ := h
    rfl
  · obtain ⟨_, _, r, q, rfl, ⟨ra, rfl, hra⟩, ⟨qa, rfl, hqa⟩, hR, hQ, k0, k1⟩ := h
    refine ⟨_, (pss_cons (ps_expr (pe_cal (cal_check_row T) (hr.mono (by decide)) (by rfl) (pa_cons (pv 0) pa_nil)))
      (pss_cons (ps_expr (pe_cal (cal_check_row T) (hr.mono (by decide)) (by rfl) (pa_cons (pv 1) pa_nil)))
      (pss_cons (ps_set (i := 2) sc_pattern_places.nd rfl (Or.inl rfl) (pe_lst (pa_cons (pe_tup pa_nil) pa_nil)))
      (pss_cons (ps_for PassesOwn.never rfl (pi_range2 (by rfl) T.b_range (pa_cons pe_int (pa_cons (pe_op op_add (pe_callB call_len_seq (by rfl) T.b_len (by decide +kernel) (pa_cons (pv 1) pa_nil)) pe_int) pa_nil))) (pg_name (i := 3) sc_pattern_places.nd rfl (Or.inr rfl)) (pss_cons (ps_setLc2 (i := 4) (own := [("places", 5), ("at", 6)]) (vs1 := [6]) (g := gName 5) (g1 := gName 6) (tt := tYes) (tt1 := tYes) rfl sc_pattern_places.nd rfl rfl (sw_true rfl rfl rfl (by decide +kernel)) (pi_list (pv 2)) (blkOk_by (own := [("places", 5), ("at", 6)]) (N := ["row", "pattern", "begun", "many", "longer", "places", "at"]) (sc := defScope s_pattern_places) (by decide +kernel)) (by decide) (fun _ _ _ _ _ => (pg_name (i := 5) sc_pattern_places.nd rfl (Or.inl rfl))) (fun _ _ _ _ _ => pts_nil) (fun _ _ _ _ _ => (pi_range2 (by rfl) T.b_range (pa_cons (pe_ifExp (show PT _ _ (tTru K 5) from pt_truth (pv 5) (by intro _; rfl)) (pe_op op_add (pe_ix (show IxR _ (rIxT K) from ix_tup) (pv 5) (pe_un un_neg pe_int) (fun _ _ => rfl)) pe_int) pe_int) (pa_cons (pe_callB (show CallR _ (.builtin "len") (rLenQ K) from call_len_seq) (by rfl) T.b_len (by decide +kernel) (pa_cons (pv 0) pa_nil)) pa_nil)))) (fun _ _ _ _ _ => (pg_name (i := 6) sc_pattern_places.nd rfl (Or.inl rfl))) (fun _ _ _ _ _ => pts_nil) (fun _ _ _ _ _ => (show PE _ _ (tTup (StX.tStar K (tVar 5) (tCons (tVar 6) tNil))) from (pe_tup (StX.pa_star (pv 5) (pa_cons (pv 6) pa_nil))))))
      (pss_one (ps_setLc (i := 2) (own := [("places", 5)]) (g := gName 5) rfl sc_pattern_places.nd rfl rfl (sw_true rfl rfl rfl (by decide +kernel)) (pi_list (pv 4)) (blkOk_by (own := [("places", 5)]) (N := ["row", "pattern", "begun", "many", "longer", "places", "at"]) (sc := defScope s_pattern_places) (by decide +kernel)) (fun _ _ _ _ _ => (pg_name (i := 5) sc_pattern_places.nd rfl (Or.inl rfl))) (fun _ _ _ _ _ => (pts_one (pt_val (pe_cal (cal_has_pattern T) (hr.mono (by decide)) (by rfl) (pa_cons (pv 0) (pa_cons (pe_slice (show SlR _ (rSlA K) from sl_tupA) (pv 1) po_none (po_some (pv 3))) (pa_cons (pv 5) pa_nil))))))) (fun _ _ _ _ _ => (pv 5))))))
      (pss_one (ps_ret (pe_ifExp (pt_truth (pv 2) (by intro _; rfl)) (pe_ix ix_list (pv 2) pe_int (fun _ _ => rfl)) pe_non))))))), ?_⟩
    refine ⟨_, rfl, _, r, rfl, ⟨ra, rfl, hra⟩, hR, fun H1 s1 => ?_⟩
    refine ⟨_, rfl, _, q, rfl, ⟨qa, rfl, sqT_same s1 hqa⟩, hQ, fun H2 s2 => ?_⟩
    refine ⟨Nat.zero_le _, fun e0 ne0 => ⟨show 1 ≤ sizeLine by decide, fun bl nbl => ?_⟩⟩
    have s3 : Same H (upd (upd H2 e0 (.tup [])) bl (.lst [.ref e0])) := (s1.trans s2).trans ((same_new ne0).trans (same_new nbl))
    have lr5 := hR.hi
    have lq5 := hQ.hi
    refine ⟨_, rfl, _, _, rfl, .inr (sqT_same (s1.trans s2 |>.trans ((same_new ne0).trans (same_new nbl))) hqa), _, _, rfl, rfl, _, _, rfl, ⟨by decide, by decide, by rw [List.length_map]; omega, by rw [List.length_map]; omega⟩, ?_⟩
    rw [show ((((q.map V.int).length : Nat) : Int) + 1 - 1).toNat = q.length by rw [List.length_map]; omega]
    refine for_range (lo := 1) (n := q.length) (fun i σ H' => ∃ (b : Addr) (bs : List (List Int)) (v3 v4 : Option V), σ = [some (.ref ra), some (.ref qa), some (.ref b), v3, v4, none, none] ∧ Same H H' ∧ LT K H' b bs ∧ (∀ ps, ps ∈ bs ↔ PlK r q i ps) ∧ bs.length ≤ 5 ^ i) ?_ ?_ ?_
    · refine ⟨bl, [[]], none, none, rfl, s3, ⟨_, upd_same, ⟨e0, rfl, .of (same_new nbl _ _ upd_same)⟩, trivial⟩, fun ps => ?_, by decide⟩
      rw [plK_zero]
      simp
    · rintro i _ H3 hi ⟨b, bs, v3, v4, rfl, s4, hb, hm, hlen⟩
      obtain ⟨xs, hxs, ht⟩ := hb
      have loOk : ∀ ps ∈ bs, 0 ≤ lo ps := fun ps hp => (lo_nonneg ((hm ps).mp hp).asc).1
      refine ⟨_, rfl, b, rfl, ⟨_, .of hxs⟩, fun D nD => lc2_out (walk_list (K := K) (a := b) (xs := xs)) (fun j H' => Same H3 H' ∧ LT K H' D ((bs.take j).flatMap (nxt r.length))) ⟨same_new nD, [], upd_same, trivial⟩ (fun i H' _ h => .of (h.1 _ _ hxs)) ?_ ?_⟩
      · rintro j x H4 _ hj ⟨s5, hD⟩ ⟨rfl, hx⟩
        obtain ⟨ps, hps, tx⟩ := ht.get hx
        obtain ⟨pa, rfl, hpa⟩ := tx.same s5
        have l0 := loOk ps (List.mem_of_getElem? hps)
        have lps : ps.length = i := ((hm ps).mp (List.mem_of_getElem? hps)).len
        refine ⟨rfl, first_at rfl hpa ?_⟩
        refine ⟨_, rfl, _, _, rfl, .inr (sqT_same (s4.trans s5) hra), _, _, rfl, ⟨by omega, ?_, by omega, by rw [List.length_map]; omega⟩, ?_⟩
        · have := (lo_nonneg ((hm ps).mp (List.mem_of_getElem? hps)).asc).2
          omega
        · refine lc2_in (walk_range (lo := lo ps) (n := ((((r.map V.int).length : Nat) : Int) - lo ps).toNat)) (fun k' H' => Same H3 H' ∧ LT K H' D ((bs.take j).flatMap (nxt r.length) ++ (nxt r.length ps).take k')) ⟨s5, by rw [List.take_zero, List.append_nil]; exact hD⟩ (fun _ _ _ _ => trivial) ?_ ?_
          · rintro k' y H5 _ hk ⟨s6, acc, hD5, ht5⟩ ⟨rfl, rfl⟩
            rw [List.length_map] at hk
            refine ⟨rfl, _, rfl, pa, _, rfl, .inl (sqT_same s6 (tx.elim fun _ z => (V.ref.inj z.1) ▸ z.2)), _, rfl, ?_, fun t nt => ?_⟩
            · rw [List.length_append, List.length_map, lps]
              exact Nat.le_of_lt (small1000 (by show i + 1 ≤ 1000; omega))
            · have hD6 := same_new (o := .tup (ps.map V.int ++ [.int (lo ps + (k' : Nat))])) nt _ _ hD5
              refine ⟨acc, hD6, ?_, same_off nD (s6.trans (same_new nt)) off_upd, acc ++ [.ref t], upd_same, TIs.but but_upd hD6 ?_⟩
              · rw [ht5.len, List.length_append, List.length_take]
                have h1 := flat_nxt (n := r.length) (bs := bs.take j) (fun ps hp => loOk ps (List.mem_of_mem_take hp))
                have h2 : (bs.take j).length ≤ 5 ^ i := Nat.le_trans (by rw [List.length_take]; omega) hlen
                have h3 : r.length * (bs.take j).length ≤ 5 * 5 ^ i := Nat.mul_le_mul lr5 h2
                have h4 : 5 ^ i ≤ 5 ^ 5 := Nat.pow_le_pow_right (by decide) (by omega)
                have : sizeLine = 16777216 := sizeLine_eq
                omega
              · rw [take_snoc (nxt_get hk), ← List.append_assoc]
                exact TIs.snoc (ht5.same (same_new nt)) ⟨t, rfl, .of (by rw [upd_same, List.map_append]; rfl)⟩
          · rintro H5 ⟨s6, h6⟩
            refine ⟨s6, ?_⟩
            rw [List.length_map, List.take_of_length_le (l := nxt r.length ps) (by unfold nxt; rw [List.length_map, rg_length]; exact Nat.le_refl _)] at h6
            rw [take_snoc hps, List.flatMap_append]
            simpa using h6
      · rintro H4 ⟨s5, hD⟩
        rw [show xs.length = bs.length from ht.len, List.take_length] at hD
        obtain ⟨ys, hys, hty⟩ := hD
        refine ⟨_, rfl, D, rfl, ⟨_, .of hys⟩, fun D2 nD2 => lc_list (K := K) (a := D) (xs := ys) (fun j H' => Same H4 H' ∧ LT K H' D2 (((bs.flatMap (nxt r.length)).take j).filter fun ps => hpB (sel r ps) (q.take (i + 1)))) ⟨same_new nD2, [], upd_same, trivial⟩ (fun i H' _ h => .of (h.1 _ _ hys)) ?_ ?_⟩
        · rintro j x H5 hx ⟨s6, hD2⟩
          obtain ⟨ps, hps, tx⟩ := hty.get hx
          obtain ⟨pa, rfl, hpa⟩ := tx.same s6
          have mps : ps ∈ bs.flatMap (nxt r.length) := List.mem_of_getElem? hps
          have aps : Asc r.length ps ∧ ps.length = i + 1 := by
            obtain ⟨a, ha, hx⟩ := List.mem_flatMap.mp mps
            unfold nxt at hx
            obtain ⟨x, hx2, rfl⟩ := List.mem_map.mp hx
            have pa := (hm a).mp ha
            have := mem_rg.mp hx2
            exact ⟨asc_snoc.mpr ⟨pa.asc, this.1, this.2⟩, by rw [List.length_append, pa.len]; rfl⟩
          have lt : (q.take (i + 1)).length = ps.length := by rw [List.length_take, aps.2]; omega
          have s04 : Same H H5 := (s4.trans s5).trans s6
          have e1 : HT.sIx (q.map V.int).length 0 none = 0 := rfl
          have e2 : HT.sIx (q.map V.int).length (q.map V.int).length (some (1 + (i : Int))) = i + 1 := by
            rw [show (1 + (i : Int)) = ((i + 1 : Nat) : Int) by omega, HT.sIx_nat, List.length_map]
            omega
          refine ⟨rfl, _, rfl, _, rfl, _, rfl, _, rfl, qa, _, rfl, sqT_same s04 hqa, fun hw => ?_, fun hw p np => ?_⟩
          · rw [e2, List.length_map] at hw
            refine ⟨_, rfl, _, _, _, r, q.take (i + 1), ps, rfl, ⟨ra, rfl, sqT_same s04 hra⟩, ⟨qa, rfl, by rw [List.take_of_length_le (by omega)]; exact sqT_same s04 hqa⟩, ⟨pa, rfl, hpa⟩, lt, by omega, aps.1.bd, fun H6 s7 => ⟨_, rfl, ?_⟩⟩
            obtain ⟨acc, hD5, ht5⟩ := hD2
            by_cases hbt : hpB (sel r ps) (q.take (i + 1)) = true
            · rw [hbt]
              have hD6 := s7 _ _ hD5
              refine iteT ⟨_, rfl, acc, hD6, ?_, same_off nD2 (s6.trans s7) off_upd, acc ++ [.ref pa], upd_same, TIs.but but_upd hD6 ?_⟩
              · rw [ht5.len]
                have h0 := List.length_filter_le (fun ps => hpB (sel r ps) (q.take (i + 1))) ((bs.flatMap (nxt r.length)).take j)
                rw [List.length_take] at h0
                have h1 := flat_nxt (n := r.length) (bs := bs) loOk
                have h3 : r.length * bs.length ≤ 5 * 5 ^ i := Nat.mul_le_mul lr5 hlen
                have h4 : 5 ^ i ≤ 5 ^ 5 := Nat.pow_le_pow_right (by decide) (by omega)
                have : sizeLine = 16777216 := sizeLine_eq
                omega
              · rw [take_snoc hps, List.filter_append, show List.filter (fun ps => hpB (sel r ps) (q.take (i + 1))) [ps] = [ps] by simp [hbt]]
                exact TIs.snoc (ht5.same s7) ⟨pa, rfl, sqT_same s7 hpa⟩
            · rw [Bool.eq_false_iff.mpr hbt]
              refine iteF ⟨s6.trans s7, acc, s7 _ _ hD5, ?_⟩
              rw [take_snoc hps, List.filter_append, show List.filter (fun ps => hpB (sel r ps) (q.take (i + 1))) [ps] = [] by simp [hbt], List.append_nil]
              exact ht5.same s7
          · have s8 := same_new (o := .tup (cutV (q.map V.int) none (some (1 + (i : Int))))) np
            refine ⟨_, rfl, _, _, _, r, q.take (i + 1), ps, rfl, ⟨ra, rfl, sqT_same (s04.trans s8) hra⟩, ⟨p, rfl, .of ?_⟩, ⟨pa, rfl, sqT_same s8 hpa⟩, lt, by omega, aps.1.bd, fun H6 s7' => ⟨_, rfl, ?_⟩⟩
            · rw [upd_same]
              unfold cutV
              rw [e1, e2, List.drop_zero, List.map_take]
              rfl
            have s7 := s8.trans s7'
            obtain ⟨acc, hD5, ht5⟩ := hD2
            by_cases hbt : hpB (sel r ps) (q.take (i + 1)) = true
            · rw [hbt]
              have hD6 := s7 _ _ hD5
              refine iteT ⟨_, rfl, acc, hD6, ?_, same_off nD2 (s6.trans s7) off_upd, acc ++ [.ref pa], upd_same, TIs.but but_upd hD6 ?_⟩
              · rw [ht5.len]
                have h0 := List.length_filter_le (fun ps => hpB (sel r ps) (q.take (i + 1))) ((bs.flatMap (nxt r.length)).take j)
                rw [List.length_take] at h0
                have h1 := flat_nxt (n := r.length) (bs := bs) loOk
                have h3 : r.length * bs.length ≤ 5 * 5 ^ i := Nat.mul_le_mul lr5 hlen
                have h4 : 5 ^ i ≤ 5 ^ 5 := Nat.pow_le_pow_right (by decide) (by omega)
                have : sizeLine = 16777216 := sizeLine_eq
                omega
              · rw [take_snoc hps, List.filter_append, show List.filter (fun ps => hpB (sel r ps) (q.take (i + 1))) [ps] = [ps] by simp [hbt]]
                exact TIs.snoc (ht5.same s7) ⟨pa, rfl, sqT_same s7 hpa⟩
            · rw [Bool.eq_false_iff.mpr hbt]
              refine iteF ⟨s6.trans s7, acc, s7 _ _ hD5, ?_⟩
              rw [take_snoc hps, List.filter_append, show List.filter (fun ps => hpB (sel r ps) (q.take (i + 1))) [ps] = [] by simp [hbt], List.append_nil]
              exact ht5.same s7
        · rintro H5 ⟨s6, hD2⟩
          rw [show ys.length = _ from hty.len, List.take_length] at hD2
          refine ⟨D2, _, _, _, rfl, (s4.trans s5).trans s6, hD2, step_mem hm, ?_⟩
          have h0 := List.length_filter_le (fun ps => hpB (sel r ps) (q.take (i + 1))) (bs.flatMap (nxt r.length))
          have h1 := flat_nxt (n := r.length) (bs := bs) loOk
          have h3 : r.length * bs.length ≤ 5 * 5 ^ i := Nat.mul_le_mul lr5 hlen
          rw [Nat.pow_succ]
          omega
    · rintro _ H3 ⟨b, bs, v3, v4, rfl, s4, ⟨xs, hxs, ht⟩, hm, hlen⟩
      refine ⟨_, rfl, _, .inl ⟨_, .of hxs, rfl⟩, ?_⟩
      cases xs with
      | nil =>
        have : bs = [] := List.eq_nil_of_length_eq_zero (ht.len.symm)
        subst this
        exact iteF (k0 _ s4 fun ps hp => by have := (hm ps).mpr hp; cases this)
      | cons x xs =>
        cases bs with
        | nil => exact absurd ht id
        | cons ps bs =>
          exact iteT ⟨_, rfl, _, _, _, _, rfl, rfl, .of hxs, at_of (j := 0) rfl rfl, k1 _ ps _ s4 ht.1 ((hm ps).mp (by simp))⟩
end
end Rk

namespace Rk
open PySem L2 Ow
/-- a whole number or a truth -/
def IB (x : V) : Prop := (∃ i, x = .int i) ∨ ∃ b, x = .bl b
/-- a value near places: of another kind, or a tuple of whole numbers and truths -/
inductive NearAt (K : PySem.W.Frag) (H : Hp) : V → Option (List V) → Prop
  | non : NearAt K H .non none
  | int (i : Int) : NearAt K H (.int i) none
  | str (x : Str) : NearAt K H (.str x) none
  | lst {a : Addr} {xs : List V} : H a = some (.lst xs) → xs.length ≠ 3 → NearAt K H (.ref a) none
  | dic {a : Addr} {kvs : List (Key × V)} : H a = some (.dK kvs) → NearAt K H (.ref a) none
  | tup {a : Addr} {xs : List V} : SqT K H a xs → (∀ x ∈ xs, IB x) → NearAt K H (.ref a) (some xs)
theorem NearAt.same {K : PySem.W.Frag} {H H' : Hp} {v : V} {o : Option (List V)} (h : NearAt K H v o) (s : Same H H') : NearAt K H' v o := by
  cases h with
  | non => exact .non
  | int i => exact .int i
  | str x => exact .str x
  | lst h n => exact .lst (s _ _ h) n
  | dic h => exact .dic (s _ _ h)
  | tup h b => exact .tup (sqT_same s h) b
theorem NearAt.but {K : PySem.W.Frag} {H H' : Hp} {v : V} {o : Option (List V)} {p : Addr} (h : NearAt K H v o) (s : But p H H') (b : VatAt H p) : NearAt K H' v o := by
  obtain ⟨b0, b1, b2, hp⟩ := b
  cases h with
  | non => exact .non
  | int i => exact .int i
  | str x => exact .str x
  | @lst a xs h n =>
    refine .lst (s _ _ (fun e => n ?_) h) n
    rw [e, hp] at h
    injection h with h
    injection h with h
    rw [← h]
    rfl
  | @dic a kvs h =>
    refine .dic (s _ _ (fun e => ?_) h)
    rw [e, hp] at h
    cases h
  | tup h z => exact .tup (s.sqT hp h) z
theorem NearAt.ty {K : PySem.W.Frag} {H : Hp} {v : V} (h : NearAt K H v none) : ∃ T, TyX K H v T ∧ PySem.W.kitOne K T (.type "tuple") = some false := by
  cases h with
  | non => exact ⟨_, .base .non, kit_ty (by decide +kernel)⟩
  | int i => exact ⟨_, .base (.int i), kit_ty (by decide +kernel)⟩
  | str x => exact ⟨_, .base (.str x), kit_ty (by decide +kernel)⟩
  | lst h n => exact ⟨_, .base (.lst h), kit_ty (by decide +kernel)⟩
  | dic h => exact ⟨_, .base (.dK h), kit_ty (by decide +kernel)⟩
/-- the value is right places -/
def isPl (r q : List Int) (o : Option (List V)) : Prop := ∃ ps : List Int, o = some (ps.map V.int) ∧ PlK r q q.length ps
def spIsPl (K : PySem.W.Frag) : Sp := fun vs H Q _ => ∃ (rv qv v : V) (r q : List Int) (o : Option (List V)), vs = [rv, qv, v] ∧ TI K H rv r ∧ TI K H qv q ∧ IsRow r ∧ IsRow q ∧ NearAt K H v o ∧
  ∀ (b : Bool) H', Same H H' → (b = true ↔ isPl r q o) → Q (.bl b) H'
def wb (n : Int) : V → Bool
  | .int p => decide (0 ≤ p) && decide (p ≤ n)
  | _ => false
theorem wb_all {n : Int} : ∀ {xs : List V}, xs.all (wb n) = true → ∃ ps : List Int, xs = ps.map V.int ∧ ∀ p ∈ ps, 0 ≤ p ∧ p ≤ n
  | [], _ => ⟨[], rfl, by simp⟩
  | x :: xs, h => by
    rw [List.all_cons, Bool.and_eq_true] at h
    obtain ⟨ps, rfl, hb⟩ := wb_all h.2
    cases x with
    | int p =>
      have h1 := h.1
      unfold wb at h1
      rw [Bool.and_eq_true, decide_eq_true_iff, decide_eq_true_iff] at h1
      refine ⟨p :: ps, rfl, fun y hy => ?_⟩
      rcases List.mem_cons.mp hy with rfl | hy
      · exact h1
      · exact hb y hy
    | _ => simp [wb] at h
theorem wb_ints {n : Int} {ps : List Int} (h : ∀ p ∈ ps, 0 ≤ p ∧ p ≤ n) : (ps.map V.int).all (wb n) = true := by
  rw [List.all_map, List.all_eq_true]
  intro p hp
  have := h p hp
  show (decide (0 ≤ p) && decide (p ≤ n)) = true
  rw [decide_eq_true this.1, decide_eq_true this.2]
  rfl
theorem map_int_inj : ∀ {a b : List Int}, a.map V.int = b.map V.int → a = b
  | [], [], _ => rfl
  | [], _ :: _, h => by simp at h
  | _ :: _, [], h => by simp at h
  | x :: a, y :: b, h => by
    rw [List.map_cons, List.map_cons, List.cons.injEq, V.int.injEq] at h
    rw [h.1, map_int_inj h.2]
def ltB (a : Int × Int) : Bool := decide (a.1 < a.2)
theorem adj {ps : List Int} : (ps.zip (ps.drop 1)).all ltB = true ↔ ps.Pairwise (· < ·) := by
  induction ps with
  | nil => simp
  | cons a r ih =>
    cases r with
    | nil => simp
    | cons b r =>
      rw [List.drop_succ_cons, List.drop_zero, List.zip_cons_cons, List.all_cons, Bool.and_eq_true]
      have e : (b :: r).zip r = (b :: r).zip ((b :: r).drop 1) := rfl
      rw [e, ih]
      unfold ltB
      rw [decide_eq_true_iff]
      constructor
      · rintro ⟨h1, h2⟩
        refine List.pairwise_cons.mpr ⟨fun y hy => ?_, h2⟩
        rcases List.mem_cons.mp hy with rfl | hy
        · exact h1
        · exact Int.lt_trans h1 ((List.pairwise_cons.mp h2).1 y hy)
      · intro h
        have h := List.pairwise_cons.mp h
        exact ⟨h.1 b (by simp), h.2⟩
section
variable {P : Program} {w : World} {K : PySem.W.Frag} {mg : Str → Option Value} {base : Heap}
theorem cal_is_pattern_places (T : Txt K mg) : Cal P w K mg base "is_pattern_places" 5 (spIsPl K) := by
  refine T.d_is_pattern_places.cal (ps := ["row", "pattern", "value"]) (fun f fd D => ?_) (fun _ _ _ _ _ _ us hl => match us, hl with | [_, _, _], _ => rfl)
  refine D.ok sc_is_pattern_places (fun vs H Q E h => ?_) (fun cdv A outer s H vs Q E hr h => ?_)
  · obtain ⟨_, _, _, _, _, _, rfl, _⟩ := h
    rfl
  · obtain ⟨_, _, v, r, q, o, rfl, ⟨ra, rfl, hra⟩, ⟨qa, rfl, hqa⟩, hR, hQ, hv, k⟩ := h
    refine ⟨_, (pss_cons (ps_expr (pe_cal (cal_check_row T) (hr.mono (by decide)) (by rfl) (pa_cons (pv 0) pa_nil)))
      (pss_cons (ps_expr (pe_cal (cal_check_row T) (hr.mono (by decide)) (by rfl) (pa_cons (pv 1) pa_nil)))
      (pss_cons (ps_if (PW.pt (pw_or (pt_not (pt_val (pe_callB call_isi (by rfl) T.b_isinstance (by decide +kernel) (pa_cons (pv 2) (pa_cons (pe_bltn (v := .ty "tuple") (by rfl) T.b_tuple (by decide +kernel) rfl) pa_nil))))) (pw_or1 (pt_cmpR op_ne (pe_callB call_len_seq (by rfl) T.b_len (by decide +kernel) (pa_cons (pv 2) pa_nil)) (pe_callB call_len_seq (by rfl) T.b_len (by decide +kernel) (pa_cons (pv 1) pa_nil)) (nomark _))))) (pss_one (ps_ret pe_bl)) pss_nil)
      (pss_cons (ps_if (pt_not (pt_val (pe_callB (cr_all rfl) (by rfl) T.b_all (by decide +kernel) (pa_cons (pe_lc (own := [("at", 3)]) (g := gName 3) (tt := tYes) rfl sc_is_pattern_places.nd (pi_tup (pv 2)) (blkOk_by (own := [("at", 3)]) (N := ["row", "pattern", "value", "at", "behind"]) (sc := defScope s_is_pattern_places) (by decide +kernel)) (fun _ _ _ _ _ => (pg_name (i := 3) sc_is_pattern_places.nd rfl (Or.inl rfl))) (fun _ _ _ _ _ => pts_nil) (fun _ _ _ _ _ => (pe_cal (cal_is_within T) (hr.mono (by decide)) (by rfl) (pa_cons (pv 3) (pa_cons pe_int (pa_cons (pe_op op_sub (pe_callB (show CallR _ (.builtin "len") (rLenQ K) from call_len_seq) (by rfl) T.b_len (by decide +kernel) (pa_cons (pv 0) pa_nil)) pe_int) pa_nil)))))) pa_nil)))) (pss_one (ps_ret pe_bl)) pss_nil)
      (pss_one (ps_ret (pe_and (pe_callB (cr_all rfl) (by rfl) T.b_all (by decide +kernel) (pa_cons (pe_lc (own := [("at", 3), ("behind", 4)]) (g := gTup K 2 (gCons (gName 3) (gCons (gName 4) (gNil)))) (tt := tYes) rfl sc_is_pattern_places.nd (RZ.pi_zipA (by rfl) T.b_zip (pa_cons (pv 2) (pa_cons (pe_slice sl_tup (pv 2) (po_some pe_int) po_none) pa_nil))) (blkOk_by (own := [("at", 3), ("behind", 4)]) (N := ["row", "pattern", "value", "at", "behind"]) (sc := defScope s_is_pattern_places) (by decide +kernel)) (fun _ _ _ _ _ => (pg_tup (by rfl) (pgs_cons (pg_name (i := 3) sc_is_pattern_places.nd rfl (Or.inl rfl)) (pgs_cons (pg_name (i := 4) sc_is_pattern_places.nd rfl (Or.inl rfl)) pgs_nil)))) (fun _ _ _ _ _ => pts_nil) (fun _ _ _ _ _ => (pe_cmpR op_lt (pv 3) (pv 4) (nomark _)))) pa_nil)) (pe_one (pe_cal (cal_has_pattern T) (hr.mono (by decide)) (by rfl) (pa_cons (pv 0) (pa_cons (pv 1) (pa_cons (pv 2) pa_nil)))))))))))), ?_⟩
    have lr5 := hR.hi
    have lq5 := hQ.hi
    have lq2 := hQ.lo
    refine ⟨_, rfl, _, r, rfl, ⟨ra, rfl, hra⟩, hR, fun H1 s1 => ?_⟩
    refine ⟨_, rfl, _, q, rfl, ⟨qa, rfl, sqT_same s1 hqa⟩, hQ, fun H2 s2 => ?_⟩
    have s12 := s1.trans s2
    cases o with
    | none =>
      obtain ⟨T0, ty, kt⟩ := (hv.same s12).ty
      refine ⟨_, rfl, _, _, T0, _, false, rfl, .ty "tuple", ty, kt, ?_⟩
      refine ⟨_, rfl, iteT ?_⟩
      exact k false H2 s12 ⟨(fun e => nomatch e), (fun ⟨ps, e, _⟩ => nomatch e)⟩
    | some xs =>
      obtain ⟨va, rfl, hva, hib⟩ : ∃ va, v = .ref va ∧ SqT K H va xs ∧ ∀ x ∈ xs, IB x := by cases hv with | tup h b => exact ⟨_, rfl, h, b⟩
      have hv2 := sqT_same s12 hva
      refine ⟨_, rfl, _, _, .type "tuple", _, true, rfl, .ty "tuple", tup_ty hv2, kit_ty (by decide +kernel), ?_⟩
      refine ⟨_, rfl, iteF ?_⟩
      refine ⟨_, rfl, _, _, rfl, .inr hv2, _, rfl, _, _, rfl, .inr (sqT_same s12 hqa), ?_⟩
      refine ⟨rfl, _, rfl, ?_⟩
      by_cases hl : xs.length = q.length
      · rw [show (!decide (V.int (xs.length : Nat) = V.int ((q.map V.int).length : Nat))) = false by rw [dec_int, List.length_map, hl]; simp]
        refine iteF ?_
        have wq : ∀ {i : Nat} {x : V}, xs[i]? = some x → i < 5 := fun {i x} h => by
          have := (List.getElem?_eq_some_iff.mp h).1
          omega
        refine ⟨_, rfl, va, rfl, ⟨_, hv2⟩, fun D nD => lc_tup (K := K) (a := va) (xs := xs) (fun i H' => Same H2 H' ∧ H' D = some (.lst (((xs.take i).map (wb ((r.length : Nat) - 1))).map V.bl))) ⟨same_new nD, upd_same⟩ (fun i H' _ h => sqT_same h.1 hv2) ?_ ?_⟩
        · rintro i x H3 hx ⟨s3, hD⟩
          have fin : ∃ acc, H3 D = some (.lst acc) ∧ acc.length < sizeLine ∧ Same H2 (upd H3 D (.lst (acc ++ [.bl (wb ((r.length : Nat) - 1) x)]))) ∧ upd H3 D (.lst (acc ++ [.bl (wb ((r.length : Nat) - 1) x)])) D = some (.lst (((xs.take (i + 1)).map (wb ((r.length : Nat) - 1))).map V.bl)) := by
            refine ⟨_, hD, ?_, same_off nD s3 off_upd, ?_⟩
            · rw [List.length_map, List.length_map, List.length_take]
              exact small1000 (by omega)
            · rw [upd_same, take_snoc hx, List.map_append, List.map_append]
              rfl
          refine ⟨rfl, _, rfl, _, rfl, _, _, rfl, .inr (sqT_same (s12.trans s3) hra), _, _, rfl, rfl, _, _, _, rfl, ?_⟩
          rw [List.length_map]
          rcases hib x (List.mem_of_getElem? hx) with ⟨c, rfl⟩ | ⟨c, rfl⟩
          · exact .inl ⟨c, rfl, fin⟩
          · exact .inr ⟨c, rfl, fin⟩
        · rintro H3 ⟨s3, hD⟩
          rw [List.take_length] at hD
          refine ⟨_, _, rfl, .of hD, ?_⟩
          rw [List.all_map]
          have hneg : ¬ xs.all (wb ((r.length : Nat) - 1)) = true → Q (.bl false) H3 := fun hn => k false H3 (s12.trans s3) ⟨(fun e => nomatch e), fun ⟨ps, e, hp⟩ => absurd (by
            have e := Option.some.inj e
            subst e
            exact wb_ints fun p hp2 => by have := hp.asc.bd p hp2; omega) hn⟩
          refine ⟨_, rfl, ?_⟩
          by_cases ha : xs.all (wb ((r.length : Nat) - 1)) = true
          · rw [show (xs.all (id ∘ wb ((r.length : Nat) - 1))) = true from ha]
            refine iteF ?_
            obtain ⟨ps, rfl, hb⟩ := wb_all ha
            rw [List.length_map] at hl
            have s13 := s12.trans s3
            have hv3 := sqT_same s13 hva
            have hlm : (ps.map V.int).length = ps.length := List.length_map _
            refine ⟨_, rfl, _, rfl, 1, rfl, va, _, rfl, hv3, ?_, fun p np => ?_⟩
            · rw [hlm]
              rintro ⟨h1, _⟩
              rw [show HT.sIx ps.length 0 (some 1) = min 1 ps.length from HT.sIx_nat _ _ 1] at h1
              omega
            have hcut : cutV (ps.map V.int) (some 1) none = (ps.drop 1).map V.int := by
              unfold cutV
              rw [show HT.sIx (ps.map V.int).length 0 (some 1) = min 1 (ps.map V.int).length from HT.sIx_nat _ _ 1, HT.sIx_none, hlm, Nat.min_eq_left (by omega), List.take_of_length_le (by rw [List.length_drop, hlm]; exact Nat.le_refl _), List.map_drop]
            rw [hcut]
            have s4 := s13.trans (same_new (o := .tup ((ps.drop 1).map V.int)) np)
            refine ⟨va, p, _, _, rfl, .inr ⟨sqT_same s4 hva, .of upd_same, fun D2 nD2 => lc_it (walk_zipT (K := K) (a := va) (b := p) (xs := ps.map V.int) (ys := (ps.drop 1).map V.int) (n := ps.length - 1) (by rw [List.length_map, List.length_map, List.length_drop]; omega)) (fun i H' => Same (upd H3 p (.tup ((ps.drop 1).map V.int))) H' ∧ H' D2 = some (.lst ((((ps.zip (ps.drop 1)).take i).map ltB).map V.bl))) ⟨same_new nD2, upd_same⟩ (fun i H' _ h => ⟨sqT_same (s4.trans h.1) hva, sqT_same h.1 (.of upd_same)⟩) ?_ ?_⟩⟩
            · rintro i x H5 H6 hi ⟨s5, hD5⟩ ⟨T0, x0, y0, rfl, nT, rfl, hx, hy⟩
              obtain ⟨c, hc, rfl⟩ := int_at hx
              obtain ⟨d, hd, rfl⟩ := int_at hy
              have hz : (ps.zip (ps.drop 1))[i]? = some (c, d) := List.getElem?_zip_eq_some.mpr ⟨hc, hd⟩
              have hD6 := same_new (o := .tup [.int c, .int d]) nT _ _ hD5
              refine ⟨_, _, rfl, .of upd_same, rfl, _, _, rfl, _, _, rfl, rfl, rfl, _, rfl, _, rfl, _, _, rfl, rfl, _, hD6, ?_, same_off nD2 (s5.trans (same_new nT)) off_upd, ?_⟩
              · rw [List.length_map, List.length_map, List.length_take]
                exact small1000 (by omega)
              · rw [upd_same, take_snoc hz, List.map_append, List.map_append]
                rfl
            · rintro H5 ⟨s5, hD5⟩
              rw [List.take_of_length_le (by rw [List.length_zip, List.length_drop]; omega)] at hD5
              refine ⟨_, _, rfl, .of hD5, ?_⟩
              rw [List.all_map]
              have s15 := s4.trans s5
              have bdP : ∀ p ∈ ps, 0 ≤ p ∧ p < (r.length : Nat) := fun p hp => by have := hb p hp; omega
              by_cases hs : (ps.zip (ps.drop 1)).all ltB = true
              · rw [show ((ps.zip (ps.drop 1)).all (id ∘ ltB)) = true from hs]
                refine ⟨_, rfl, iteT ?_⟩
                refine ⟨_, rfl, _, rfl, _, rfl, _, _, _, r, q, ps, rfl, ⟨ra, rfl, sqT_same s15 hra⟩, ⟨qa, rfl, sqT_same s15 hqa⟩, ⟨va, rfl, sqT_same s15 hva⟩, by omega, by omega, bdP, fun H6 s6 => k _ H6 (s15.trans s6) ⟨fun e => ⟨ps, rfl, ⟨adj.mp hs, bdP⟩, by omega, by rw [List.take_length]; exact e⟩, ?_⟩⟩
                rintro ⟨ps', e, hp⟩
                have e := map_int_inj (Option.some.inj e)
                subst e
                have := hp.hp
                rw [List.take_length] at this
                exact this
              · rw [show ((ps.zip (ps.drop 1)).all (id ∘ ltB)) = false from Bool.eq_false_iff.mpr hs]
                refine ⟨_, rfl, iteF (k false H5 s15 ⟨(fun e => nomatch e), ?_⟩)⟩
                rintro ⟨ps', e, hp⟩
                have e := map_int_inj (Option.some.inj e)
                subst e
                exact absurd (adj.mpr hp.asc.up) hs
          · rw [show (xs.all (id ∘ wb ((r.length : Nat) - 1))) = false from Bool.eq_false_iff.mpr ha]
            exact iteT (hneg ha)
      · rw [show (!decide (V.int (xs.length : Nat) = V.int ((q.map V.int).length : Nat))) = true by rw [dec_int, List.length_map]; simp; omega]
        refine iteT (k false H2 s12 ⟨(fun e => nomatch e), fun ⟨ps, e, h⟩ => absurd (by
          have e := Option.some.inj e
          rw [e, List.length_map]
          exact h.len) hl⟩)
end
end Rk

namespace Rk
open PySem PySem.Spec PyProof.Rows L2 Ow
section
variable {X : Cx}
def rIxI (K : PySem.W.Frag) : V → List V → Hp → VK → Prop := fun x xs H Q => ∃ (p : Addr) (ns : List Int) (c : Int), x = .ref p ∧ xs = [.int c] ∧ SqT K H p (ns.map V.int) ∧ c ∈ ns ∧ Q (.int (ns.idxOf c : Nat)) H
/-- where a whole number stands in a tuple of these -/
theorem ix_ints : MtR X "tuple.index" (rIxI X.K) := by
  intro pins s σ H x xs v us Q I rx rs h
  obtain ⟨p, ns, c, rfl, rfl, sq, mem, q⟩ := h
  cases rx
  obtain ⟨u, rfl, t, rfl⟩ := vals1 rs
  obtain ⟨its, rv, pl, _⟩ := I.tuple sq
  exact SeqAt.tuple_index_ints (vs := its) pl (Vals.ints rv) mem ⟨.int _, H, I.tok _, ⟨_, rfl⟩, q⟩
end
end Rk

namespace Rk
open PySem PySem.Spec PyProof.Rows L2 Ow
/-- a made tuple, of which it is known that it has no dict of its own -/
def FT (H : Hp) (a : Addr) (ys : List V) : Prop := ∃ o : Obj, H a = some (.frz o (.tup ys)) ∧ o.cls = .type "tuple" ∧ o.dict = none
theorem FT.sq {K : PySem.W.Frag} {H : Hp} {a : Addr} {ys : List V} (h : FT H a ys) : SqT K H a ys := h.elim fun o z => .inl (.inr ⟨o, z.1⟩)
theorem FT.same {H H' : Hp} {a : Addr} {ys : List V} (h : FT H a ys) (s : Same H H') : FT H' a ys := h.elim fun o z => ⟨o, s _ _ z.1, z.2⟩
section
variable {X : Cx}
/-- tuple(list), with what is known of the new object -/
def rTupF (K : PySem.W.Frag) : List V → Hp → VK → Prop := fun xs H Q => ∃ (p : Addr) (ys : List V), xs = [.ref p] ∧ SqL K H p ys ∧ ∀ (l : Addr) (H' : Hp), H l = none → (∀ q, q ≠ l → H' q = H q) → FT H' l ys → Q (.ref l) H'
theorem call_tupF : CallR X (.type "tuple") (rTupF X.K) := by
  intro pins s σ H xs us Q I rs h
  obtain ⟨p, ys, rfl, sq, q⟩ := h
  obtain ⟨v, rfl, rv⟩ := vals1 rs
  cases rv
  obtain ⟨its, vv, pl, few⟩ := I.list sq
  have ln := vv.length
  refine call_tuple_list pl.isList (fun g kp => ?_) (by simp only [List.size_toArray]; omega)
  have J : Inv X pins σ H { s with heap := g } := I.kept (t' := s.toks) kp
  have free := J.hok.fresh (Nat.le_refl g.objs.size)
  have J2 := J.laid (t' := s.toks) (o := .frz { cls := .type "tuple", data := .seq its.toArray } (.tup ys)) (h' := g.push { cls := .type "tuple", data := .seq its.toArray }) (fun b o e => Heap.get?_push_of_some _ e) (Nat.le_refl g.objs.size) ⟨Heap.get?_push_size _ rfl, few, its, vv, IsTup.new _ _⟩
  exact ⟨.ref g.objs.size, _, J2, rfl, q _ _ free (fun b hb => upd_ne hb) ⟨_, upd_same, rfl, rfl⟩⟩
variable {o e : Expr} {to : TE} {t : TA} {name : Str} {apos cpos : Pos} {id : String} {r : V → List V → Hp → VK → Prop}
/-- t.m(e), t such a tuple -/
def tTM (r : V → List V → Hp → VK → Prop) (to : TE) (t : TA) : TE := fun σ H Q => to σ H fun x H1 => (∃ a ys, x = .ref a ∧ FT H1 a ys) ∧ t σ H1 fun xs H2 => r x xs H2 Q
theorem pe_tm (slot : Slot "tuple" name id) (hty : typeOf (.builtin id) = pure (.type "method_descriptor")) (hm : MtR X id r) (ho : PE X o to) (ha : PA X [e] t)
    (h1 : attributeBase o name X.env (eval o X.env) = eval o X.env := by rfl)
    (h2 : ((backTo cpos (starEach [e] X.env)).all (fun x => !x.1) && (backToKw cpos (keywordEach [] X.env)).all (fun x => x.1.isSome) && decide (([e] : List Expr).length + ([] : List Keyword).length + (if ([] : List Keyword).isEmpty then 0 else 1) < 30)) = true := by rfl)
    (h3 : (apos.endLine == cpos.line) = true := by rfl) (h4 : starEach [e] X.env = (false, eval e X.env) :: starEach [] X.env := by rfl) (h5 : (backTo cpos (starEach [] X.env)).any (·.1) = false := by rfl) :
    PE X (.Call (.Attribute o name apos) [e] [] cpos) (tTM r to t) := by
  refine ⟨fun pins s σ H Q I h => ?_⟩
  refine wpAny_Call_method_late h1 h2 h3 rfl (thn (ho.run pins s σ H _ I h) fun v s1 ⟨x, H1, I1, r1, ⟨a, ys, ex, ob, hob, hcl, hdi⟩, q1⟩ => ?_)
  subst ex
  cases r1
  have live := (I1.hok a _ hob).1
  refine ⟨"tuple", id, PySem.F.plainAttrs_tuple, slot, hty, ⟨ob, live, hcl⟩, fun b eb => ?_, ?_⟩
  · cases eb
    exact ⟨ob, live, hdi⟩
  · have go := ha.run cpos pins s1 σ H1 _ I1 q1
    rw [h4] at go ⊢
    refine Calls.callWith_builtin (by show (false || (backTo cpos (starEach [] X.env)).any (·.1)) = false; rw [h5] <;> rfl) (Calls.evalArgs_plain ?_)
    exact thn go fun us s2 ⟨vs, H2, I2, r2, q2⟩ => hm pins s2 σ H2 (.ref a) vs (.ref a) us Q I2 rfl r2 q2
end
end Rk

namespace Rk
open PySem L2 Ow
def lenAt (H : Hp) (l : Addr) : Nat := match H l with
  | some (.lst xs) => xs.length
  | _ => 0
/-- a made tuple of whole numbers -/
def RT (H : Hp) (v : V) (r : List Int) : Prop := ∃ a, v = .ref a ∧ FT H a (r.map V.int)
theorem RT.ti {K : PySem.W.Frag} {H : Hp} {v : V} {r : List Int} (h : RT H v r) : TI K H v r := h.elim fun a z => ⟨a, z.1, z.2.sq⟩
theorem RT.same {H H' : Hp} {v : V} {r : List Int} (h : RT H v r) (s : Same H H') : RT H' v r := h.elim fun a z => ⟨a, z.1, z.2.same s⟩
theorem RT.but {H H' : Hp} {v : V} {r : List Int} {p : Addr} (h : RT H v r) (o : But p H H') (b : VatAt H p) : RT H' v r := by
  obtain ⟨a, rfl, ob, h1, h2⟩ := h
  obtain ⟨_, _, _, hp⟩ := b
  exact ⟨a, rfl, ob, o _ _ (fun e => by rw [e, hp] at h1; cases h1) h1, h2⟩
def spSome (K : PySem.W.Frag) : Sp := fun vs H Q _ => ∃ (p : Addr) (n : Int), vs = [.ref p, .int n] ∧ VatAt H p ∧ 2 ≤ n ∧ n ≤ 5 ∧ ∀ (v : V) (r : List Int) (H' : Hp), But p H H' → VatAt H' p → RT H' v r → IsRow r → Q v H'
theorem erase_map {α β : Type} {f : α → β} : ∀ (l : List α) (k : Nat), (l.map f).eraseIdx k = (l.eraseIdx k).map f
  | [], _ => rfl
  | _ :: _, 0 => rfl
  | a :: l, k + 1 => by
    rw [List.map_cons, List.eraseIdx_cons_succ, List.eraseIdx_cons_succ, List.map_cons, erase_map l k]
theorem erase_perm : ∀ {l : List Int} {i : Nat} (h : i < l.length), (l[i] :: l.eraseIdx i).Perm l
  | a :: l, 0, _ => .refl _
  | a :: l, i + 1, h => by
    rw [List.eraseIdx_cons_succ, List.getElem_cons_succ]
    exact (List.Perm.swap a _ _).trans ((erase_perm (l := l) (i := i) (by simpa using h)).cons a)
section
variable {P : Program} {w : World} {K : PySem.W.Frag} {mg : Str → Option Value} {base : Heap}
theorem cal_l_some_row (T : Txt K mg) : Cal P w K mg base "_law_some_row" 2 (spSome K) := by
  refine T.d_l_some_row.cal (ps := ["_law_vat_here", "_law_places"]) (fun f fd D => ?_) (fun _ _ _ _ _ _ us hl => match us, hl with | [_, _], _ => rfl)
  refine D.ok sc_l_some_row (fun vs H Q E h => ?_) (fun cdv A outer s H vs Q E hr h => ?_)
  · obtain ⟨_, _, rfl, _⟩ := h
    rfl
  · obtain ⟨p, n, rfl, hb, n2, n5, k⟩ := h
    refine ⟨_, (pss_cons (ps_par (i := 2) (j := 3) rfl sc_l_some_row.nd rfl rfl (by decide) rfl rfl (pa_cons (pe_listRg rfl (by rfl) T.b_list (prg_2 (by rfl) T.b_range pe_int (pe_op op_add (pv 1) pe_int))) (pa_cons (pe_lst pa_nil) pa_nil)) rfl)
      (pss_cons (ps_while PassesOwn.never (pt_cmpR (op_neD hr.units) (pv 2) (pe_lst pa_nil) (nomark _)) (pss_one (ps_expr (pe_bm PySem.F.plainAttrs_list PySem.F.slot_list_append PySem.F.type_list_append mt_append (pv 3) (pa_cons (pe_bm PySem.F.plainAttrs_list PySem.F.slot_list_pop PySem.F.type_list_pop mt_popAt (pv 2) (pa_cons (pe_cal (cal_l_sip T) (hr.mono (by decide)) (by rfl) (pa_cons (pv 0) (pa_cons (pe_callB call_len_seq (by rfl) T.b_len (by decide +kernel) (pa_cons (pv 2) pa_nil)) pa_nil))) pa_nil)) pa_nil)))))
      (pss_one (ps_ret (pe_callTy call_tupF (by rfl) T.b_tuple (by decide +kernel) (pa_cons (pv 3) pa_nil)))))), ?_⟩
    refine ⟨_, rfl, _, _, rfl, rfl, _, _, rfl, rfl, .of_le (by decide) (by omega) (by decide) (by omega), fun l nl => ⟨Nat.zero_le _, fun g ng => ⟨_, _, rfl, ?_⟩⟩⟩
    have s1 := same_new (o := .lst (rgV 1 (n + 1))) nl
    have s2 := s1.trans (same_new (o := .lst []) ng)
    have nlp := vat_ne hb nl
    have ngp := vat_ne (hb.same s1) ng
    have ngl : g ≠ l := fun e => by rw [e, upd_same] at ng; cases ng
    have nH : H g = none := by
      rw [upd_ne ngl] at ng
      exact ng
    refine while_by (fun σ H' => σ = [some (.ref p), some (.int n), some (.ref l), some (.ref g)] ∧ But p H H' ∧ VatAt H' p ∧ ∃ ls fs : List Int, H' l = some (.lst (ls.map V.int)) ∧ H' g = some (.lst (fs.map V.int)) ∧ (fs ++ ls).Perm (up n.toNat)) (fun _ H' => lenAt H' l) ?_ ?_ ?_
    · refine ⟨rfl, .of_same s2, hb.same s2, up n.toNat, [], ?_, upd_same, .refl _⟩
      rw [upd_ne ngl.symm, upd_same]
      have := rgV_up n.toNat
      rw [show ((n.toNat : Nat) : Int) = n by omega] at this
      rw [this]
    · rintro _ H3 ⟨rfl, b3, v3, ls, fs, hl, hf, hp⟩
      refine ⟨_, rfl, Nat.zero_le _, fun e ne => ⟨_, _, .lst (.of (same_new ne _ _ hl)) (dInts ls), .lst (.of upd_same) .nil, sh_L ls, sh_L [], ?_⟩⟩
      have hq : PyData.eqv (.list (ls.map PyData.int)) (.list []) = decide (ls = []) := eqv_L ls []
      rw [hq]
      refine ⟨_, rfl, ?_⟩
      have se := same_new (o := .lst []) ne
      by_cases hls : ls = []
      · subst hls
        refine iteF ⟨_, rfl, _, _, rfl, .of (se _ _ hf), fun t H6 nt ex ft => ?_⟩
        have s6 : Same (upd H3 e (.lst [])) H6 := fun u w z => by rw [ex u (ne_of_none z nt)]; exact z
        have hpm : fs.Perm (up n.toNat) := by simpa using hp
        have hlen : fs.length = n.toNat := by rw [hpm.length_eq, up_length]
        refine k _ fs _ ((b3.trans (.of_same se)).trans (.of_same s6)) ((v3.same se).same s6) ⟨t, rfl, ft⟩ ⟨by omega, by omega, by rw [hlen]; exact hpm⟩
      · rw [decide_eq_false hls]
        refine iteT ?_
        have hl4 := se _ _ hl
        have hf4 := se _ _ hf
        have hpos : 0 < ls.length := List.length_pos_iff.mpr hls
        have htot : fs.length + ls.length = n.toNat := by rw [← List.length_append, hp.length_eq, up_length]
        refine ⟨_, rfl, .inl ⟨rfl, _, .of hf4⟩, _, rfl, .inl ⟨rfl, _, .of hl4⟩, _, rfl, _, rfl, _, _, rfl, .inl (.of hl4), p, _, rfl, by rw [List.length_map]; omega, ?_, v3.same se, fun i H5 i0 i1 o5 v5 => ?_⟩
        · rw [List.length_map]
          exact Nat.lt_of_le_of_lt (show ((ls.length : Nat) : Int).natAbs ≤ 5 by omega) (by decide)
        · rw [List.length_map] at i1
          have hi : i.toNat < ls.length := by omega
          have hl5 := o5 _ _ nlp hl4
          have hf5 := o5 _ _ ngp hf4
          refine ⟨l, _, i, i.toNat, .int ls[i.toNat], rfl, rfl, hl5, by omega, by omega, (ixN_seq (by unfold ixN; rw [List.length_map, if_pos i0, if_pos i1])).1, by rw [List.getElem?_map, List.getElem?_eq_getElem hi]; rfl, ?_⟩
          refine ⟨g, _, _, rfl, rfl, by rw [upd_ne ngl]; exact hf5, by rw [List.length_map]; exact small1000 (by omega), ⟨rfl, ?_, ?_, ls.eraseIdx i.toNat, fs ++ [ls[i.toNat]], ?_, ?_, ?_⟩, ?_⟩
          · intro u w hu hw
            rw [upd_ne (fun e => by rw [e, nH] at hw; cases hw), upd_ne (fun e => by rw [e, nl] at hw; cases hw)]
            exact o5 _ _ hu (se _ _ (b3 _ _ hu hw))
          · obtain ⟨b0, b1, b2, hv⟩ := v5
            exact ⟨b0, b1, b2, by rw [upd_ne ngp.symm, upd_ne nlp.symm]; exact hv⟩
          · rw [upd_ne ngl.symm, upd_same, erase_map]
          · rw [upd_same, List.map_append]
            rfl
          · rw [List.append_assoc]
            exact (List.Perm.append_left fs (erase_perm hi)).trans hp
          · show lenAt (upd (upd H5 l _) g _) l < lenAt H3 l
            unfold lenAt
            rw [upd_ne ngl.symm, upd_same, hl]
            show (List.eraseIdx (ls.map V.int) i.toNat).length < (ls.map V.int).length
            rw [List.length_eraseIdx, if_pos (by rw [List.length_map]; exact hi), List.length_map]
            omega
    · rintro σ H Q Q' hq ⟨v, hv, h0, h⟩
      refine ⟨v, hv, h0, fun e ne => ?_⟩
      obtain ⟨d, e', h1, h2, h3, h4, c, h5, h6⟩ := h e ne
      exact ⟨d, e', h1, h2, h3, h4, c, h5, hq _ _ h6⟩
end
end Rk

namespace Rk
open PySem L2 Ow
/-- entries lie to one another as those of a pattern, each pair once -/
def Al (es qs : List Int) : Prop := ∀ a, a < qs.length → ∀ t, t < a → (es.getD t 0 < es.getD a 0 ↔ qs.getD t 0 < qs.getD a 0)
def spAlike (K : PySem.W.Frag) : Sp := fun vs H Q _ => ∃ (ea : Addr) (qv : V) (es q : List Int), vs = [.ref ea, qv] ∧ SqL K H ea (es.map V.int) ∧ TI K H qv q ∧ es.length = q.length ∧ q.length ≤ 5 ∧ ∀ b : Bool, (b = true ↔ Al es q) → Q (.bl b) H
theorem ixL {es : List Int} {i : Nat} (h : i < es.length) {z : Int} (e : z = (i : Int)) : atI (es.map V.int) z = some (.int (es.getD i 0)) := by
  refine at_of (j := i) e ?_
  rw [List.getElem?_map, List.getElem?_eq_getElem h, List.getD_eq_getElem?_getD, List.getElem?_eq_getElem h]
  rfl
section
variable {P : Program} {w : World} {K : PySem.W.Frag} {mg : Str → Option Value} {base : Heap}
theorem cal_l_is_alike (T : Txt K mg) : Cal P w K mg base "_law_is_alike" 1 (spAlike K) := by
  refine T.d_l_is_alike.cal (ps := ["_law_entries", "_law_pattern"]) (fun f fd D => ?_) (fun _ _ _ _ _ _ us hl => match us, hl with | [_, _], _ => rfl)
  refine D.ok sc_l_is_alike (fun vs H Q E h => ?_) (fun cdv A outer s H vs Q E hr h => ?_)
  · obtain ⟨_, _, _, _, rfl, _⟩ := h
    rfl
  · obtain ⟨ea, _, es, q, rfl, he, ⟨qa, rfl, hq⟩, hl, l5, k⟩ := h
    refine ⟨_, (pss_cons (ps_for PassesOwn.never rfl (pi_range1 (by rfl) T.b_range (pa_cons (pe_callB call_len_seq (by rfl) T.b_len (by decide +kernel) (pa_cons (pv 1) pa_nil)) pa_nil)) (pg_name (i := 2) sc_l_is_alike.nd rfl (Or.inl rfl)) (pss_one (ps_for PassesOwn.never rfl (pi_range1 (by rfl) T.b_range (pa_cons (pv 2) pa_nil)) (pg_name (i := 3) sc_l_is_alike.nd rfl (Or.inl rfl)) (pss_one (ps_if (pt_cmpR op_ne (pe_cmpR op_lt (pe_ix ix_list (pv 0) (pv 3) (fun _ _ => rfl)) (pe_ix ix_list (pv 0) (pv 2) (fun _ _ => rfl)) (nomark _)) (pe_cmpR op_lt (pe_ix ix_tup (pv 1) (pv 3) (fun _ _ => rfl)) (pe_ix ix_tup (pv 1) (pv 2) (fun _ _ => rfl)) (nomark _)) (nomark _)) (pss_one (ps_ret pe_bl)) pss_nil)))))
      (pss_one (ps_ret pe_bl))), ?_⟩
    refine ⟨_, rfl, _, _, rfl, .inr hq, _, rfl, by rw [List.length_map]; omega, by rw [List.length_map]; omega, ?_⟩
    rw [show (((q.map V.int).length : Nat) : Int).toNat = q.length by rw [List.length_map]; omega]
    refine for_range (lo := 0) (n := q.length) (fun i σ H' => H' = H ∧ (∃ v2 v3, σ = [some (.ref ea), some (.ref qa), v2, v3]) ∧ ∀ a, a < i → ∀ t, t < a → (es.getD t 0 < es.getD a 0 ↔ q.getD t 0 < q.getD a 0)) ⟨rfl, ⟨_, _, rfl⟩, fun a h => absurd h (Nat.not_lt_zero a)⟩ ?_ ?_
    · rintro i _ H' hi ⟨rfl, ⟨v2, v3, rfl⟩, hp⟩
      refine ⟨_, rfl, _, rfl, by omega, by omega, ?_⟩
      rw [show ((0 : Int) + (i : Nat)).toNat = i by omega]
      refine for_range (lo := 0) (n := i) (fun j σ H2 => H2 = H' ∧ (∃ v3, σ = [some (.ref ea), some (.ref qa), some (.int (0 + (i : Nat))), v3]) ∧ ∀ t, t < j → (es.getD t 0 < es.getD i 0 ↔ q.getD t 0 < q.getD i 0)) ⟨rfl, ⟨_, rfl⟩, fun a h => absurd h (Nat.not_lt_zero a)⟩ ?_ ?_
      · rintro j _ H2 hj ⟨rfl, ⟨v3, rfl⟩, hp2⟩
        refine ⟨_, rfl, _, rfl, _, _, _, _, rfl, rfl, he, ixL (i := j) (by omega) (by omega), _, rfl, _, rfl, _, _, _, _, rfl, rfl, he, ixL (i := i) (by omega) (by omega), _, _, rfl, rfl, ?_⟩
        refine ⟨_, rfl, _, rfl, _, _, _, _, rfl, rfl, hq, ixL (i := j) (by omega) (by omega), _, rfl, _, rfl, _, _, _, _, rfl, rfl, hq, ixL (i := i) (by omega) (by omega), _, _, rfl, rfl, rfl, _, rfl, ?_⟩
        by_cases hh : (es.getD j 0 < es.getD i 0 ↔ q.getD j 0 < q.getD i 0)
        · rw [show (!decide (V.bl (decide (es.getD j 0 < es.getD i 0)) = V.bl (decide (q.getD j 0 < q.getD i 0)))) = false by
            have e2 : decide (es.getD j 0 < es.getD i 0) = decide (q.getD j 0 < q.getD i 0) := decide_eq_decide.mpr hh
            rw [e2]
            simp]
          refine iteF ⟨rfl, ⟨_, rfl⟩, fun t ht => ?_⟩
          by_cases e : t = j
          · subst e
            exact hh
          · exact hp2 t (by omega)
        · rw [show (!decide (V.bl (decide (es.getD j 0 < es.getD i 0)) = V.bl (decide (q.getD j 0 < q.getD i 0)))) = true by
            rw [Bool.not_eq_true', decide_eq_false_iff_not]
            intro e
            exact hh (decide_eq_decide.mp (V.bl.inj e))]
          exact iteT (k false ⟨(fun e => nomatch e), fun z => absurd (z i hi j hj) hh⟩)
      · rintro _ H2 ⟨rfl, ⟨v3, rfl⟩, hp2⟩
        refine ⟨rfl, ⟨_, _, rfl⟩, fun a ha t ht => ?_⟩
        by_cases e : a = i
        · subst e
          exact hp2 t ht
        · exact hp a (by omega) t ht
    · rintro _ H' ⟨rfl, ⟨v2, v3, rfl⟩, hp⟩
      exact k true ⟨fun _ => hp, fun _ => rfl⟩
end
end Rk

namespace Rk
open PySem L2 Ow
abbrev scE : Scope := { kind := ScopeKind.function, names := [(".0", NameKind.local), ("_law_places", NameKind.local), ("_law_is_alike", NameKind.globalImplicit), ("_law_pattern", NameKind.cell), ("_law_row", NameKind.cell)], isGenerator := false, isCoroutine := false }
def spEvery (K : PySem.W.Frag) : Sp := fun vs H Q _ => ∃ (rv qv : V) (r q : List Int), vs = [rv, qv] ∧ TI K H rv r ∧ TI K H qv q ∧ IsRow r ∧ IsRow q ∧
  ∀ (l : Addr) (bs : List (List Int)) (H' : Hp), Same H H' → LT K H' l bs → (∀ ps, ps ∈ bs ↔ Asc r.length ps ∧ ps.length = q.length ∧ Al (sel r ps) q) → bs.length ≤ 32 → Q (.ref l) H'
theorem asc_mono {n m : Nat} {ps : List Int} (h : Asc n ps) (k : n ≤ m) : Asc m ps := ⟨h.up, fun p hp => ⟨(h.bd p hp).1, by have := (h.bd p hp).2; omega⟩⟩
theorem asc_zero {ps : List Int} : Asc 0 ps ↔ ps = [] := by
  constructor
  · intro h
    cases ps with
    | nil => rfl
    | cons a r => have := h.bd a (by simp); omega
  · rintro rfl
    exact ⟨.nil, by simp⟩
theorem asc_step {n : Nat} {bs : List (List Int)} (h : ∀ ps, ps ∈ bs ↔ Asc n ps) (ps : List Int) : ps ∈ bs ++ bs.map (fun a => a ++ [(n : Int)]) ↔ Asc (n + 1) ps := by
  rw [List.mem_append, List.mem_map]
  constructor
  · rintro (hp | ⟨a, ha, rfl⟩)
    · exact asc_mono ((h ps).mp hp) (Nat.le_succ n)
    · have h1 := (h a).mp ha
      refine asc_snoc.mpr ⟨asc_mono h1 (Nat.le_succ n), ?_, by omega⟩
      exact (lo_nonneg h1).2
  · intro hp
    by_cases e : ps = []
    · subst e
      exact .inl ((h []).mpr ⟨.nil, by simp⟩)
    · have e2 := (List.dropLast_concat_getLast e).symm
      rw [e2] at hp
      obtain ⟨h1, h2, h3⟩ := asc_snoc.mp hp
      have hu := List.pairwise_append.mp hp.up
      have hlt : ∀ p ∈ ps.dropLast, p < ps.getLast e := fun p hp => hu.2.2 p hp _ (by simp)
      have hd : Asc n ps.dropLast := ⟨h1.up, fun p hp => ⟨(h1.bd p hp).1, by have := hlt p hp; omega⟩⟩
      by_cases c : ps.getLast e = n
      · exact .inr ⟨ps.dropLast, (h _).mpr hd, by rw [← c]; exact List.dropLast_concat_getLast e⟩
      · refine .inl ((h ps).mpr ?_)
        rw [e2]
        exact asc_snoc.mpr ⟨hd, h2, by omega⟩
theorem asc_len : ∀ {n : Nat} {ps : List Int}, Asc n ps → ps.length ≤ n
  | 0, ps, h => by rw [asc_zero.mp h]; exact Nat.le_refl 0
  | n + 1, ps, hp => by
    by_cases e : ps = []
    · subst e
      exact Nat.zero_le _
    · have e2 := (List.dropLast_concat_getLast e).symm
      rw [e2] at hp
      have hu := List.pairwise_append.mp hp.up
      have h1 := (asc_snoc.mp hp)
      have hd : Asc n ps.dropLast := ⟨h1.1.up, fun p hp2 => ⟨(h1.1.bd p hp2).1, by have := hu.2.2 p hp2 (ps.getLast e) (by simp); have := h1.2.2; omega⟩⟩
      have := asc_len hd
      rw [List.length_dropLast] at this
      omega
theorem TIs.append {K : PySem.W.Frag} {H : Hp} : ∀ {xs ys : List V} {cs ds : List (List Int)}, TIs K H xs cs → TIs K H ys ds → TIs K H (xs ++ ys) (cs ++ ds)
  | [], _, [], _, _, k => k
  | _ :: _, _, _ :: _, _, h, k => ⟨h.1, TIs.append h.2 k⟩
theorem TIs.perm {K : PySem.W.Frag} {H : Hp} {ys xs : List V} (h : ys.Perm xs) : ∀ {cs : List (List Int)}, TIs K H xs cs → ∃ cs', TIs K H ys cs' ∧ cs'.Perm cs := by
  induction h with
  | nil => exact fun {cs} t => ⟨cs, t, .refl _⟩
  | cons x _ ih =>
    intro cs t
    cases cs with
    | nil => exact absurd t id
    | cons c cs =>
      obtain ⟨cs', t', p⟩ := ih t.2
      exact ⟨c :: cs', ⟨t.1, t'⟩, p.cons c⟩
  | swap x y l =>
    intro cs t
    cases cs with
    | nil => exact absurd t id
    | cons c cs =>
      cases cs with
      | nil => exact absurd t.2 id
      | cons d cs => exact ⟨d :: c :: cs, ⟨t.2.1, t.1, t.2.2⟩, .swap c d cs⟩
  | trans _ _ ih1 ih2 =>
    intro cs t
    obtain ⟨cs1, t1, p1⟩ := ih2 t
    obtain ⟨cs2, t2, p2⟩ := ih1 t1
    exact ⟨cs2, t2, p2.trans p1⟩
theorem TIs.mem {K : PySem.W.Frag} {H : Hp} {x : V} : ∀ {xs : List V} {cs : List (List Int)}, TIs K H xs cs → x ∈ xs → ∃ c, c ∈ cs ∧ TI K H x c
  | _ :: _, c :: _, t, h => by
    rcases List.mem_cons.mp h with rfl | h
    · exact ⟨c, by simp, t.1⟩
    · obtain ⟨d, hd, z⟩ := TIs.mem t.2 h
      exact ⟨d, List.mem_cons_of_mem _ hd, z⟩
section
variable {P : Program} {w : World} {K : PySem.W.Frag} {mg : Str → Option Value} {base : Heap}
theorem cal_l_every_place (T : Txt K mg) : Cal P w K mg base "_law_every_place" 2 (spEvery K) := by
  refine T.d_l_every_place.cal (ps := ["_law_row", "_law_pattern"]) (fun f fd D => ?_) (fun _ _ _ _ _ _ us hl => match us, hl with | [_, _], _ => rfl)
  refine D.ok sc_l_every_place (fun vs H Q E h => ?_) (fun cdv A outer s H vs Q E hr h => ?_)
  · obtain ⟨_, _, _, _, rfl, _⟩ := h
    rfl
  · obtain ⟨_, _, r, q, rfl, ⟨ra, rfl, hra⟩, ⟨qa, rfl, hqa⟩, hR, hQ, k⟩ := h
    have lr5 := hR.hi
    have lq5 := hQ.hi
    have lq2 := hQ.lo
    refine ⟨_, (pss_cons (ps_set (i := 2) sc_l_every_place.nd rfl (Or.inl rfl) (pe_lst (pa_cons (pe_tup pa_nil) pa_nil)))
      (pss_cons (ps_for PassesOwn.never rfl (pi_range1 (by rfl) T.b_range (pa_cons (pe_callB call_len_seq (by rfl) T.b_len (by decide +kernel) (pa_cons (pv 0) pa_nil)) pa_nil)) (pg_name (i := 3) sc_l_every_place.nd rfl (Or.inr rfl)) (pss_one (ps_set (i := 2) sc_l_every_place.nd rfl (Or.inl rfl) (pe_op op_cat (pv 2) (pe_lc (own := [("_law_places", 4)]) (g := gName 4) (tt := tYes) rfl sc_l_every_place.nd (pi_list (pv 2)) (blkOk_by (own := [("_law_places", 4)]) (N := ["_law_row", "_law_pattern", "_law_some", "_law_at", "_law_places"]) (sc := defScope s_l_every_place) (by decide +kernel)) (fun _ _ _ _ _ => (pg_name (i := 4) sc_l_every_place.nd rfl (Or.inl rfl))) (fun _ _ _ _ _ => pts_nil) (fun _ _ _ _ _ => (pe_op (show OpR _ _ (rCatA K) from op_catA) (pv 4) (pe_tup (pa_cons (pv 3) pa_nil)))))))))
      (pss_cons (ps_setLc (i := 2) (own := [("_law_places", 4)]) (g := gName 4) rfl sc_l_every_place.nd rfl rfl (sw_true rfl rfl rfl (by decide +kernel)) (pi_list (pv 2)) (blkOk_by (own := [("_law_places", 4)]) (N := ["_law_row", "_law_pattern", "_law_some", "_law_at", "_law_places"]) (sc := defScope s_l_every_place) (by decide +kernel)) (fun _ _ _ _ _ => (pg_name (i := 4) sc_l_every_place.nd rfl (Or.inl rfl))) (fun _ _ _ _ _ => (pts_one (pt_cmpR op_eq (pe_callB (show CallR _ (.builtin "len") (rLenQ K) from call_len_seq) (by rfl) T.b_len (by decide +kernel) (pa_cons (pv 4) pa_nil)) (pe_callB (show CallR _ (.builtin "len") (rLenQ K) from call_len_seq) (by rfl) T.b_len (by decide +kernel) (pa_cons (pv 1) pa_nil)) (nomark _)))) (fun _ _ _ _ _ => (pv 4)))
      (pss_one (ps_ret (pe_callB (cr_sortT (d := q.length) (B := 6) (by omega)) (by rfl) T.b_sorted (by decide +kernel) (pa_cons (pe_lc (own := [("_law_places", 4)]) (g := gName 4) rfl sc_l_every_place.nd (pi_list (pv 2)) (blkOk_by (own := [("_law_places", 4)]) (N := ["_law_row", "_law_pattern", "_law_some", "_law_at", "_law_places"]) (sc := defScope s_l_every_place) (by decide +kernel)) (fun _ _ _ _ _ => (pg_name (i := 4) sc_l_every_place.nd rfl (Or.inl rfl))) (fun _ _ _ _ _ => (pts_one (pt_val (pe_cal (cal_l_is_alike T) (hr.mono (by decide)) (by rfl) (pa_cons (pe_lc (own := [("_law_at", 3)]) (g := gName 3) (tt := tYes) rfl sc_l_every_place.nd (show PI _ _ _ (iTup K (tVar 4)) from (pi_tup (pv 4))) (blkOk_by (own := [("_law_at", 3)]) (N := ["_law_row", "_law_pattern", "_law_some", "_law_at", "_law_places"]) (sc := scE) (by decide +kernel)) (fun _ _ _ _ _ => (pg_name (i := 3) sc_l_every_place.nd rfl (Or.inl rfl))) (fun _ _ _ _ _ => pts_nil) (fun _ _ _ _ _ => (pe_ix (show IxR _ (rIxT K) from ix_tup) (pv 0) (pv 3) (fun _ _ => rfl)))) (pa_cons (pv 1) pa_nil)))))) (fun _ _ _ _ _ => (pv 4))) pa_nil))))))), ?_⟩
    refine ⟨Nat.zero_le _, fun e0 ne0 => ⟨show 1 ≤ sizeLine by decide, fun bl nbl => ?_⟩⟩
    have s1 : Same H (upd (upd H e0 (.tup [])) bl (.lst [.ref e0])) := (same_new ne0).trans (same_new nbl)
    refine ⟨_, rfl, _, _, rfl, .inr (sqT_same s1 hra), _, rfl, by rw [List.length_map]; omega, by rw [List.length_map]; omega, ?_⟩
    rw [show (((r.map V.int).length : Nat) : Int).toNat = r.length by rw [List.length_map]; omega]
    refine for_range (lo := 0) (n := r.length) (fun i σ H' => ∃ (b : Addr) (bs : List (List Int)) (v3 : Option V), σ = [some (.ref ra), some (.ref qa), some (.ref b), v3, none] ∧ Same H H' ∧ LT K H' b bs ∧ bs.length = 2 ^ i ∧ ∀ ps, ps ∈ bs ↔ Asc i ps) ?_ ?_ ?_
    · refine ⟨bl, [[]], none, rfl, s1, ⟨_, upd_same, ⟨e0, rfl, .of (same_new nbl _ _ upd_same)⟩, trivial⟩, rfl, fun ps => ?_⟩
      rw [asc_zero]
      simp
    · rintro i _ H2 hi ⟨b, bs, v3, rfl, s2, ⟨xs, hxs, ht⟩, hlen, hm⟩
      have h25 : 2 ^ i ≤ 2 ^ 5 := Nat.pow_le_pow_right (by decide) (by omega)
      refine ⟨_, rfl, _, rfl, b, rfl, ⟨_, .of hxs⟩, fun D nD => lc_list (K := K) (a := b) (xs := xs) (fun j H' => Same H2 H' ∧ LT K H' D ((bs.take j).map fun a => a ++ [(i : Int)])) ⟨same_new nD, [], upd_same, trivial⟩ (fun i H' _ h => .of (h.1 _ _ hxs)) ?_ ?_⟩
      · rintro j x H3 hx ⟨s3, acc, hD, ht3⟩
        obtain ⟨ps, hps, tx⟩ := ht.get hx
        obtain ⟨pa, rfl, hpa⟩ := tx.same s3
        have jlt := (List.getElem?_eq_some_iff.mp hps).1
        have fin : ∀ z H6, Same H3 H6 → TI K H6 z (ps ++ [(i : Int)]) → ∃ acc, H6 D = some (.lst acc) ∧ acc.length < sizeLine ∧ Same H2 (upd H6 D (.lst (acc ++ [z]))) ∧ LT K (upd H6 D (.lst (acc ++ [z]))) D ((bs.take (j + 1)).map fun a => a ++ [(i : Int)]) := fun z H6 s6 tz => by
          have hD6 := s6 _ _ hD
          refine ⟨acc, hD6, ?_, same_off nD (s3.trans s6) off_upd, acc ++ [z], upd_same, TIs.but but_upd hD6 ?_⟩
          · rw [ht3.len, List.length_map, List.length_take]
            exact small1000 (by omega)
          · rw [take_snoc hps, List.map_append]
            exact TIs.snoc (ht3.same s6) tz
        have ez : (0 : Int) + (i : Nat) = (i : Int) := Int.zero_add _
        refine ⟨rfl, _, rfl, _, rfl, show 1 ≤ sizeLine by decide, fun t nt => ⟨pa, t, _, _, rfl, rfl, sqT_same (same_new nt) hpa, .of upd_same, ?_, fun e => ?_, (fun _ e => nomatch e), fun _ _ p np => ?_⟩⟩
        · have hn := asc_len ((hm ps).mp (List.mem_of_getElem? hps))
          rw [List.length_map]
          exact szl (show ps.length + 1 ≤ 1000 by omega)
        · have e2 : ps = [] := by simpa using e
          subst e2
          exact fin _ _ (same_new nt) ⟨t, rfl, .of (by rw [upd_same, ez]; rfl)⟩
        · exact fin _ _ ((same_new nt).trans (same_new np)) ⟨p, rfl, .of (by rw [upd_same, ez, List.map_append]; rfl)⟩
      · rintro H3 ⟨s3, hD⟩
        rw [show xs.length = bs.length from ht.len, List.take_length] at hD
        obtain ⟨ys, hys, hty⟩ := hD
        refine ⟨b, D, xs, ys, rfl, rfl, s3 _ _ hxs, hys, ?_, fun p np => ?_⟩
        · rw [ht.len, hty.len, List.length_map]
          exact szl (by omega)
        · refine ⟨p, bs ++ bs.map (fun a => a ++ [(i : Int)]), _, rfl, (s2.trans s3).trans (same_new np), ⟨xs ++ ys, upd_same, ?_⟩, by rw [List.length_append, List.length_map, hlen, Nat.pow_succ]; omega, asc_step hm⟩
          exact TIs.append ((ht.same s3).same (same_new np)) (hty.same (same_new np))
    · rintro _ H2 ⟨b, bs, v3, rfl, s2, ⟨xs, hxs, ht⟩, hlen, hm⟩
      have h25 : 2 ^ r.length ≤ 2 ^ 5 := Nat.pow_le_pow_right (by decide) (by omega)
      have hb32 : bs.length ≤ 32 := by omega
      refine ⟨_, rfl, b, rfl, ⟨_, .of hxs⟩, fun D nD => lc_list (K := K) (a := b) (xs := xs) (fun j H' => Same H2 H' ∧ LT K H' D ((bs.take j).filter fun a => decide (a.length = q.length))) ⟨same_new nD, [], upd_same, trivial⟩ (fun i H' _ h => .of (h.1 _ _ hxs)) ?_ ?_⟩
      · rintro j x H3 hx ⟨s3, acc, hD, ht3⟩
        obtain ⟨ps, hps, tx⟩ := ht.get hx
        obtain ⟨pa, rfl, hpa⟩ := tx.same s3
        refine ⟨rfl, _, rfl, _, _, rfl, .inr hpa, _, rfl, _, _, rfl, .inr (sqT_same (s2.trans s3) hqa), rfl, _, rfl, ?_⟩
        have hz : decide (V.int (((ps.map V.int).length : Nat) : Int) = V.int (((q.map V.int).length : Nat) : Int)) = decide (ps.length = q.length) := by
          rw [dec_int, List.length_map, List.length_map]
          by_cases c : ps.length = q.length
          · rw [c]; simp
          · rw [decide_eq_false c, beq_eq_false_iff_ne]; omega
        rw [hz]
        by_cases c : ps.length = q.length
        · rw [decide_eq_true c]
          refine iteT ⟨_, rfl, acc, hD, ?_, same_off nD s3 off_upd, acc ++ [.ref pa], upd_same, TIs.but but_upd hD ?_⟩
          · rw [ht3.len]
            have h0 := List.length_filter_le (fun a : List Int => decide (a.length = q.length)) (bs.take j)
            rw [List.length_take] at h0
            exact small1000 (by omega)
          · rw [take_snoc hps, List.filter_append, show List.filter (fun a : List Int => decide (a.length = q.length)) [ps] = [ps] by simp [c]]
            exact TIs.snoc ht3 ⟨pa, rfl, hpa⟩
        · rw [decide_eq_false c]
          refine iteF ⟨s3, acc, hD, ?_⟩
          rw [take_snoc hps, List.filter_append, show List.filter (fun a : List Int => decide (a.length = q.length)) [ps] = [] by simp [c], List.append_nil]
          exact ht3
      · rintro H3 ⟨s3, hD⟩
        rw [show xs.length = bs.length from ht.len, List.take_length] at hD
        obtain ⟨ys, hys, hty⟩ := hD
        have hc : ∀ ps, ps ∈ bs.filter (fun a => decide (a.length = q.length)) ↔ Asc r.length ps ∧ ps.length = q.length := fun ps => by
          rw [List.mem_filter, hm, decide_eq_true_iff]
        have hcl : (bs.filter fun a => decide (a.length = q.length)).length ≤ 32 := Nat.le_trans (List.length_filter_le _ _) hb32
        generalize bs.filter (fun a => decide (a.length = q.length)) = cs at hty hc hcl
        refine ⟨_, rfl, D, rfl, ⟨_, .of hys⟩, fun D2 nD2 => lc_list (K := K) (a := D) (xs := ys) (fun j H' => Same H3 H' ∧ ∃ ds, LT K H' D2 ds ∧ (∀ ps, ps ∈ ds ↔ ps ∈ cs.take j ∧ Al (sel r ps) q) ∧ ds.length ≤ j) ⟨same_new nD2, [], ⟨[], upd_same, trivial⟩, by simp, Nat.le_refl 0⟩ (fun i H' _ h => .of (h.1 _ _ hys)) ?_ ?_⟩
        · rintro j x H4 hx ⟨s4, ds, ⟨acc, hD2, htd⟩, hmd, hdl⟩
          obtain ⟨ps, hps, tx⟩ := hty.get hx
          obtain ⟨pa, rfl, hpa⟩ := tx.same s4
          have aps := (hc ps).mp (List.mem_of_getElem? hps)
          have jlt := (List.getElem?_eq_some_iff.mp hps).1
          have s04 := (s2.trans s3).trans s4
          refine ⟨rfl, _, rfl, pa, rfl, ⟨_, hpa⟩, fun D3 nD3 => lc_tup (K := K) (a := pa) (xs := ps.map V.int) (fun i H' => Same H4 H' ∧ H' D3 = some (.lst (((sel r ps).take i).map V.int))) ⟨same_new nD3, upd_same⟩ (fun i H' _ h => sqT_same h.1 hpa) ?_ ?_⟩
          · rintro i x H5 hx5 ⟨s5, hD3⟩
            obtain ⟨p, hp, rfl⟩ := int_at hx5
            have bp := aps.1.bd p (List.mem_of_getElem? hp)
            have il := (List.getElem?_eq_some_iff.mp hp).1
            refine ⟨rfl, _, rfl, _, rfl, _, _, _, _, rfl, rfl, sqT_same (s04.trans s5) hra, ix_row bp.1 bp.2, _, hD3, ?_, same_off nD3 s5 off_upd, ?_⟩
            · rw [List.length_map, List.length_take]
              exact small1000 (by omega)
            · rw [upd_same, take_snoc (sel_get hp), List.map_append]
              rfl
          · rintro H5 ⟨s5, hD3⟩
            rw [List.length_map, List.take_of_length_le (by rw [sel_length]; exact Nat.le_refl _)] at hD3
            refine ⟨_, rfl, D3, _, sel r ps, q, rfl, .of hD3, ⟨qa, rfl, sqT_same (s04.trans s5) hqa⟩, by rw [sel_length]; exact aps.2, lq5, fun b hb => ⟨_, rfl, ?_⟩⟩
            have hD5 := s5 _ _ hD2
            have hin : ∀ es, es ∈ cs.take (j + 1) ↔ es ∈ cs.take j ∨ es = ps := fun es => by
              rw [take_snoc hps, List.mem_append, List.mem_singleton]
            cases b with
            | true =>
              refine iteT ⟨_, rfl, acc, hD5, ?_, same_off nD2 (s4.trans s5) off_upd, ds ++ [ps], ⟨acc ++ [.ref pa], upd_same, TIs.but but_upd hD5 (TIs.snoc (htd.same s5) ⟨pa, rfl, sqT_same s5 hpa⟩)⟩, fun es => ?_, by rw [List.length_append]; exact Nat.succ_le_succ hdl⟩
              · rw [htd.len]
                exact small1000 (by omega)
              · rw [List.mem_append, List.mem_singleton, hmd, hin]
                constructor
                · rintro (⟨h1, h2⟩ | rfl)
                  · exact ⟨.inl h1, h2⟩
                  · exact ⟨.inr rfl, hb.mp rfl⟩
                · rintro ⟨h1 | h1, h2⟩
                  · exact .inl ⟨h1, h2⟩
                  · exact .inr h1
            | false =>
              refine iteF ⟨s4.trans s5, ds, ⟨acc, hD5, htd.same s5⟩, fun es => ?_, Nat.le_succ_of_le hdl⟩
              rw [hmd, hin]
              constructor
              · rintro ⟨h1, h2⟩
                exact ⟨.inl h1, h2⟩
              · rintro ⟨h1 | h1, h2⟩
                · exact ⟨h1, h2⟩
                · rw [h1] at h2
                  have := hb.mpr h2
                  cases this
        · rintro H4 ⟨s4, ds, ⟨zs, hD2, htd⟩, hmd, hdl⟩
          rw [show ys.length = cs.length from hty.len] at hmd hdl
          rw [List.take_length] at hmd
          refine ⟨D2, zs, rfl, .of hD2, by rw [htd.len]; omega, fun x hx => ?_, fun ys2 p hp _ np => ?_⟩
          · obtain ⟨c, hcm, tc⟩ := htd.mem hx
            have ac := (hc c).mp ((hmd c).mp hcm).1
            exact ⟨c, tc, ac.2, fun m hm2 => ⟨(ac.1.bd m hm2).1, by have := (ac.1.bd m hm2).2; omega⟩⟩
          · obtain ⟨es, te, pe⟩ := TIs.perm hp htd
            refine k p es _ (((s2.trans s3).trans s4).trans (same_new np)) ⟨ys2, upd_same, te.same (same_new np)⟩ (fun ps => ?_) (by rw [pe.length_eq]; omega)
            rw [pe.mem_iff, hmd, hc, and_assoc]
end
end Rk

namespace Rk
open PySem L2 Ow
/-- right places, by the law's own look -/
def isPl2 (r q : List Int) (o : Option (List V)) : Prop := ∃ ps : List Int, o = some (ps.map V.int) ∧ Asc r.length ps ∧ ps.length = q.length ∧ Al (sel r ps) q
def spIsPl2 (K : PySem.W.Frag) : Sp := fun vs H Q _ => ∃ (rv qv v : V) (r q : List Int) (o : Option (List V)), vs = [rv, qv, v] ∧ TI K H rv r ∧ TI K H qv q ∧ IsRow r ∧ IsRow q ∧ NearAt K H v o ∧ (∀ xs, o = some xs → xs.length ≤ 1000) ∧
  ∀ (b : Bool) H', Same H H' → (b = true ↔ isPl2 r q o) → Q (.bl b) H'
def isB : V → Bool
  | .bl _ => true
  | _ => false
theorem noB {xs : List V} (hib : ∀ x ∈ xs, IB x) : xs.filter isB = [] ↔ ∃ ps : List Int, xs = ps.map V.int := by
  induction xs with
  | nil => exact ⟨fun _ => ⟨[], rfl⟩, fun _ => rfl⟩
  | cons x xs ih =>
    have ih := ih fun y hy => hib y (List.mem_cons_of_mem _ hy)
    rcases hib x (by simp) with ⟨i, rfl⟩ | ⟨b, rfl⟩
    · rw [List.filter_cons_of_neg (by simp [isB]), ih]
      constructor
      · rintro ⟨ps, rfl⟩
        exact ⟨i :: ps, rfl⟩
      · rintro ⟨ps, e⟩
        cases ps with
        | nil => cases e
        | cons p ps => exact ⟨ps, (List.cons.inj e).2⟩
    · rw [List.filter_cons_of_pos (by simp [isB])]
      constructor
      · intro h
        cases h
      · rintro ⟨ps, e⟩
        cases ps with
        | nil => cases e
        | cons p ps => cases (List.cons.inj e).1
def dB1 : V → PyData
  | .bl b => .bool b
  | _ => .none
theorem dBs {K : PySem.W.Frag} {H : Hp} : ∀ {xs : List V}, (∀ x ∈ xs, ∃ b, x = .bl b) → DpAll K H xs (xs.map dB1)
  | [], _ => .nil
  | x :: xs, h => by
    obtain ⟨b, rfl⟩ := h x (by simp)
    exact .cons (.bl b) (dBs fun y hy => h y (List.mem_cons_of_mem _ hy))
theorem lay_B : ∀ xs : List V, PyData.canLayAll0 (xs.map dB1) = true
  | [] => by simp [PyData.canLayAll0]
  | x :: xs => by cases x <;> simp [PyData.canLayAll0, PyData.canLay0, dB1, lay_B xs]
theorem dep_B : ∀ xs : List V, PyData.depthAll (xs.map dB1) ≤ 1
  | [] => by simp [PyData.depthAll]
  | x :: xs => by have := dep_B xs; cases x <;> simp [PyData.depthAll, PyData.depth, dB1] <;> omega
theorem sh_B (xs : List V) : SeqAt.shaped (.list (xs.map dB1)) = true := by
  unfold SeqAt.shaped
  have h1 : (PyData.list (xs.map dB1)).canLay0 = true := by simp [PyData.canLay0, lay_B]
  have h2 : (PyData.list (xs.map dB1)).depth ≤ 64 := by have := dep_B xs; simp [PyData.depth]; omega
  rw [h1, decide_eq_true h2]
  rfl
theorem eqv_B (xs : List V) : PyData.eqv (.list (xs.map dB1)) (.list []) = xs.isEmpty := by
  cases xs with
  | nil => simp [PyData.eqv, PyData.eqvAll]
  | cons x xs => simp [PyData.eqv, PyData.eqvAll]
section
variable {P : Program} {w : World} {K : PySem.W.Frag} {mg : Str → Option Value} {base : Heap}
theorem cal_l_is_places (T : Txt K mg) : Cal P w K mg base "_law_is_places" 3 (spIsPl2 K) := by
  refine T.d_l_is_places.cal (ps := ["_law_row", "_law_pattern", "_law_value"]) (fun f fd D => ?_) (fun _ _ _ _ _ _ us hl => match us, hl with | [_, _, _], _ => rfl)
  refine D.ok sc_l_is_places (fun vs H Q E h => ?_) (fun cdv A outer s H vs Q E hr h => ?_)
  · obtain ⟨_, _, _, _, _, _, rfl, _⟩ := h
    rfl
  · obtain ⟨_, _, v, r, q, o, rfl, ⟨ra, rfl, hra⟩, ⟨qa, rfl, hqa⟩, hR, hQ, hv, few, k⟩ := h
    refine ⟨_, (pss_cons (ps_if (PW.pt (pw_or (pt_not (pt_val (pe_callB call_isi (by rfl) T.b_isinstance (by decide +kernel) (pa_cons (pv 2) (pa_cons (pe_bltn (v := .ty "tuple") (by rfl) T.b_tuple (by decide +kernel) rfl) pa_nil))))) (pw_or1 (pt_cmpR (op_neD hr.units) (pe_lc (own := [("_law_at", 3)]) (g := gName 3) rfl sc_l_is_places.nd (pi_tup (pv 2)) (blkOk_by (own := [("_law_at", 3)]) (N := ["_law_row", "_law_pattern", "_law_value", "_law_at"]) (sc := defScope s_l_is_places) (by decide +kernel)) (fun _ _ _ _ _ => (pg_name (i := 3) sc_l_is_places.nd rfl (Or.inl rfl))) (fun _ _ _ _ _ => (pts_one (PW.pt (pw_or (pt_not (pt_val (pe_callB (show CallR _ (.builtin "isinstance") (rIsi K) from call_isi) (by rfl) T.b_isinstance (by decide +kernel) (pa_cons (pv 3) (pa_cons (pe_bltn (v := .ty "int") (by rfl) T.b_int (by decide +kernel) rfl) pa_nil))))) (pw_or1 (pt_val (pe_callB (show CallR _ (.builtin "isinstance") (rIsi K) from call_isi) (by rfl) T.b_isinstance (by decide +kernel) (pa_cons (pv 3) (pa_cons (pe_bltn (v := .ty "bool") (by rfl) T.b_bool (by decide +kernel) rfl) pa_nil))))))))) (fun _ _ _ _ _ => (pv 3))) (pe_lst pa_nil) (nomark _))))) (pss_one (ps_ret pe_bl)) pss_nil)
      (pss_one (ps_ret (pe_cmpR (op_inD (u65 hr)) (pv 2) (pe_cal (cal_l_every_place T) (hr.mono (by decide)) (by rfl) (pa_cons (pv 0) (pa_cons (pv 1) pa_nil))) (by rfl))))), ?_⟩
    cases o with
    | none =>
      obtain ⟨T0, ty, kt⟩ := hv.ty
      refine ⟨_, rfl, _, _, T0, _, false, rfl, .ty "tuple", ty, kt, ?_⟩
      refine ⟨_, rfl, iteT ?_⟩
      exact k false H (.refl H) ⟨(fun e => nomatch e), (fun ⟨ps, e, _⟩ => nomatch e)⟩
    | some xs =>
      obtain ⟨va, rfl, hva, hib⟩ : ∃ va, v = .ref va ∧ SqT K H va xs ∧ ∀ x ∈ xs, IB x := by cases hv with | tup h b => exact ⟨_, rfl, h, b⟩
      have hfew := few xs rfl
      refine ⟨_, rfl, _, _, .type "tuple", _, true, rfl, .ty "tuple", tup_ty hva, kit_ty (by decide +kernel), ?_⟩
      refine ⟨_, rfl, iteF ?_⟩
      refine ⟨_, rfl, va, rfl, ⟨_, hva⟩, fun D nD => lc_tup (K := K) (a := va) (xs := xs) (fun i H' => Same H H' ∧ H' D = some (.lst ((xs.take i).filter isB))) ⟨same_new nD, upd_same⟩ (fun i H' _ h => sqT_same h.1 hva) ?_ ?_⟩
      · rintro i x H3 hx ⟨s3, hD⟩
        have tail : ∀ b : Bool, isB x = b → if b = true then ∃ acc, H3 D = some (.lst acc) ∧ acc.length < sizeLine ∧ Same H (upd H3 D (.lst (acc ++ [x]))) ∧ upd H3 D (.lst (acc ++ [x])) D = some (.lst ((xs.take (i + 1)).filter isB)) else Same H H3 ∧ H3 D = some (.lst ((xs.take (i + 1)).filter isB)) := fun b e => by
          cases b with
          | true =>
            refine iteT ⟨_, hD, ?_, same_off nD s3 off_upd, ?_⟩
            · have h0 := List.length_filter_le isB (xs.take i)
              rw [List.length_take] at h0
              exact small1000 (by omega)
            · rw [upd_same, take_snoc hx, List.filter_append, List.filter_cons_of_pos e]
              rfl
          | false =>
            refine iteF ⟨s3, ?_⟩
            rw [hD, take_snoc hx, List.filter_append, List.filter_cons_of_neg (by rw [e]; decide)]
            simp
        rcases hib x (List.mem_of_getElem? hx) with ⟨c, rfl⟩ | ⟨c, rfl⟩
        · refine ⟨rfl, _, rfl, _, _, _, _, true, rfl, .ty "int", .base (.int c), kit_ty (by decide +kernel), _, rfl, iteF ?_⟩
          refine ⟨_, rfl, _, _, _, _, false, rfl, .ty "bool", .base (.int c), kit_ty (by decide +kernel), _, rfl, ?_⟩
          exact tail false rfl
        · refine ⟨rfl, _, rfl, _, _, _, _, true, rfl, .ty "int", .base (.bl c), kit_ty (by decide +kernel), _, rfl, iteF ?_⟩
          refine ⟨_, rfl, _, _, _, _, true, rfl, .ty "bool", .base (.bl c), kit_ty (by decide +kernel), _, rfl, ?_⟩
          exact ⟨_, rfl, tail true rfl⟩
      · rintro H3 ⟨s3, hD⟩
        rw [List.take_length] at hD
        have hall : ∀ x ∈ xs.filter isB, ∃ b, x = .bl b := fun x hx => by
          rw [List.mem_filter] at hx
          rcases hib x hx.1 with ⟨c, rfl⟩ | ⟨c, rfl⟩
          · exact absurd hx.2 (by simp [isB])
          · exact ⟨c, rfl⟩
        refine ⟨Nat.zero_le _, fun e ne => ⟨_, _, .lst (.of (same_new ne _ _ hD)) (dBs hall), .lst (.of upd_same) .nil, sh_B _, sh_L [], ?_⟩⟩
        rw [eqv_B]
        have s4 := s3.trans (same_new (o := .lst []) ne)
        refine ⟨_, rfl, ?_⟩
        by_cases hb : xs.filter isB = []
        · rw [hb]
          refine iteF ?_
          obtain ⟨ps, rfl⟩ := (noB hib).mp hb
          refine ⟨_, rfl, _, rfl, _, rfl, _, _, r, q, rfl, ⟨ra, rfl, sqT_same s4 hra⟩, ⟨qa, rfl, sqT_same s4 hqa⟩, hR, hQ, fun l bs H5 s5 hl hm _ => ?_⟩
          have s45 := s4.trans s5
          refine ⟨dT ps, bs.map dT, TI.dp ⟨va, rfl, sqT_same s45 hva⟩, hl.dp, sh_dT ps, sh_dL bs, ?_⟩
          rw [any_dT]
          refine k _ H5 s45 ?_
          rw [decide_eq_true_iff, hm]
          constructor
          · intro h
            exact ⟨ps, rfl, h⟩
          · rintro ⟨ps', e, h⟩
            have e := map_int_inj (Option.some.inj e)
            subst e
            exact h
        · rw [show (xs.filter isB).isEmpty = false by cases h : xs.filter isB with | nil => exact absurd h hb | cons a b => rfl]
          refine iteT (k false _ s4 ⟨(fun e => nomatch e), ?_⟩)
          rintro ⟨ps, e, _⟩
          exact absurd ((noB hib).mpr ⟨ps, Option.some.inj e⟩) hb
end
end Rk

namespace Rk
open PySem L2 Ow
/-- the row that undoes a row -/
def inv (r : List Int) : List Int := (up r.length).map fun e => ((r.idxOf e : Nat) : Int) + 1
def spUndone (K : PySem.W.Frag) : Sp := fun vs H Q _ => ∃ (rv : V) (r : List Int), vs = [rv] ∧ RT H rv r ∧ IsRow r ∧ ∀ v H', Same H H' → TI K H' v (inv r) → Q v H'
section
variable {P : Program} {w : World} {K : PySem.W.Frag} {mg : Str → Option Value} {base : Heap}
theorem cal_l_undone (T : Txt K mg) : Cal P w K mg base "_law_undone" 1 (spUndone K) := by
  refine T.d_l_undone.cal (ps := ["_law_row"]) (fun f fd D => ?_) (fun _ _ _ _ _ _ us hl => match us, hl with | [_], _ => rfl)
  refine D.ok sc_l_undone (fun vs H Q E h => ?_) (fun cdv A outer s H vs Q E hr h => ?_)
  · obtain ⟨_, _, rfl, _⟩ := h
    rfl
  · obtain ⟨_, r, rfl, ⟨ra, rfl, hft⟩, hR, k⟩ := h
    have hra : SqT K H ra (r.map V.int) := hft.sq
    have l5 := hR.hi
    refine ⟨_, (pss_one (ps_ret (pe_callTy call_tuple_of (by rfl) T.b_tuple (by decide +kernel) (pa_cons (pe_lc (own := [("_law_entry", 1)]) (g := gName 1) (tt := tYes) rfl sc_l_undone.nd (pi_range2 (by rfl) T.b_range (pa_cons pe_int (pa_cons (pe_op op_add (pe_callB call_len_seq (by rfl) T.b_len (by decide +kernel) (pa_cons (pv 0) pa_nil)) pe_int) pa_nil))) (blkOk_by (own := [("_law_entry", 1)]) (N := ["_law_row", "_law_entry"]) (sc := defScope s_l_undone) (by decide +kernel)) (fun _ _ _ _ _ => (pg_name (i := 1) sc_l_undone.nd rfl (Or.inl rfl))) (fun _ _ _ _ _ => pts_nil) (fun _ _ _ _ _ => (pe_op op_add (show PE _ _ (tTM (rIxI K) (tVar 0) (tCons (tVar 1) tNil)) from pe_tm PySem.F.slot_tuple_index PySem.F.type_tuple_index (show MtR _ _ (rIxI K) from ix_ints) (pv 0) (pa_cons (pv 1) pa_nil)) pe_int))) pa_nil)))), ?_⟩
    refine ⟨_, rfl, _, _, rfl, .inr hra, _, _, rfl, rfl, _, _, rfl, ⟨by decide, by decide, by rw [List.length_map]; omega, by rw [List.length_map]; omega⟩, ?_⟩
    rw [show ((((r.map V.int).length : Nat) : Int) + 1 - 1).toNat = r.length by rw [List.length_map]; omega]
    intro D nD
    refine lc_range (lo := 1) (n := r.length) (fun i H' => Same H H' ∧ H' D = some (.lst (((inv r).take i).map V.int))) ⟨same_new nD, upd_same⟩ ?_ ?_
    · rintro i H2 hi ⟨s2, hD⟩
      have hu : (up r.length)[i]? = some ((1 : Int) + (i : Nat)) := by
        unfold up
        rw [List.getElem?_map, List.getElem?_range hi]
        rfl
      have hv : (inv r)[i]? = some (((r.idxOf ((1 : Int) + (i : Nat)) : Nat) : Int) + 1) := by
        unfold inv
        rw [List.getElem?_map, hu]
        rfl
      refine ⟨rfl, _, rfl, ⟨ra, _, rfl, hft.same s2⟩, _, rfl, ra, r, _, rfl, rfl, sqT_same s2 hra, hR.mem.mpr ⟨by omega, by omega⟩, _, _, rfl, rfl, _, hD, ?_, same_off nD s2 off_upd, ?_⟩
      · rw [List.length_map, List.length_take]
        exact small1000 (by omega)
      · rw [upd_same, take_snoc hv, List.map_append]
        rfl
    · rintro H2 ⟨s2, hD⟩
      rw [List.take_of_length_le (by unfold inv; rw [List.length_map, up_length]; exact Nat.le_refl _)] at hD
      exact ⟨_, _, rfl, .inl ⟨.of hD, fun t nt => k _ _ (s2.trans (same_new nt)) ⟨t, rfl, .of upd_same⟩⟩⟩
end
end Rk

namespace Rk
theorem getD_of {l : List Int} {i : Nat} {a : Int} (h : l[i]? = some a) : l.getD i 0 = a := by
  rw [List.getD_eq_getElem?_getD, h]
  rfl
/-- by places -/
theorem hpB_iff {es qs : List Int} (hl : es.length = qs.length) : hpB es qs = true ↔ ∀ i, i < qs.length → ∀ j, j < qs.length → (es.getD i 0 < es.getD j 0 ↔ qs.getD i 0 < qs.getD j 0) := by
  have get : ∀ {i : Nat}, i < qs.length → (es.zip qs)[i]? = some (es.getD i 0, qs.getD i 0) := fun {i} h => by
    have h1 : es[i]? = some es[i] := List.getElem?_eq_getElem (by omega)
    have h2 : qs[i]? = some qs[i] := List.getElem?_eq_getElem h
    rw [getD_of h1, getD_of h2]
    exact List.getElem?_zip_eq_some.mpr ⟨h1, h2⟩
  have cm : ∀ a b : Int × Int, cmpB a b = true ↔ (a.1 < b.1 ↔ a.2 < b.2) := fun a b => by
    unfold cmpB
    rw [beq_iff_eq]
    exact decide_eq_decide
  unfold hpB
  rw [List.all_eq_true]
  constructor
  · intro h i hi j hj
    have h1 := h _ (List.mem_of_getElem? (get hi))
    rw [List.all_eq_true] at h1
    exact (cm _ _).mp (h1 _ (List.mem_of_getElem? (get hj)))
  · intro h a ha
    rw [List.all_eq_true]
    intro b hb
    obtain ⟨i, hi⟩ := List.mem_iff_getElem?.mp ha
    obtain ⟨j, hj⟩ := List.mem_iff_getElem?.mp hb
    have li := (List.getElem?_eq_some_iff.mp hi).1
    have lj := (List.getElem?_eq_some_iff.mp hj).1
    rw [List.length_zip] at li lj
    have e1 := Option.some.inj (hi.symm.trans (get (i := i) (by omega)))
    have e2 := Option.some.inj (hj.symm.trans (get (i := j) (by omega)))
    rw [e1, e2]
    exact (cm _ _).mpr (h i (by omega) j (by omega))
theorem nd_ne {l : List Int} (h : l.Nodup) {i j : Nat} (hi : i < l.length) (hj : j < l.length) (n : i ≠ j) : l.getD i 0 ≠ l.getD j 0 := by
  have h1 : l[i]? = some l[i] := List.getElem?_eq_getElem hi
  have h2 : l[j]? = some l[j] := List.getElem?_eq_getElem hj
  rw [getD_of h1, getD_of h2]
  intro e
  exact n ((List.getElem_inj h).mp e)
theorem hp_al {es qs : List Int} (hl : es.length = qs.length) (he : es.Nodup) (hq : qs.Nodup) : hpB es qs = true ↔ Al es qs := by
  rw [hpB_iff hl]
  constructor
  · exact fun h a ha t ht => h t (by omega) a ha
  · intro h i hi j hj
    rcases Nat.lt_trichotomy i j with c | c | c
    · exact h j hj i c
    · subst c
      omega
    · have h1 := h i hi j c
      have n1 := nd_ne he (i := i) (j := j) (by omega) (by omega) (by omega)
      have n2 := nd_ne hq (i := i) (j := j) (by omega) (by omega) (by omega)
      omega
theorem sel_nodup {r ps : List Int} (hr : r.Nodup) (h : Asc r.length ps) : (sel r ps).Nodup := by
  unfold sel List.Nodup
  rw [List.pairwise_map]
  refine (List.Pairwise.and_mem.mp h.up).imp fun {a b} hh => ?_
  have ha := h.bd a hh.1
  have hb := h.bd b hh.2.1
  exact nd_ne hr (by omega) (by omega) (by have := hh.2.2; omega)
/-- the law's own look is that of the program -/
theorem plK_iff {r q ps : List Int} (hR : IsRow r) (hQ : IsRow q) : PlK r q q.length ps ↔ Asc r.length ps ∧ ps.length = q.length ∧ Al (sel r ps) q := by
  constructor
  · intro h
    have z := h.hp
    rw [List.take_length] at z
    exact ⟨h.asc, h.len, (hp_al (by rw [sel_length]; exact h.len) (sel_nodup hR.nodup h.asc) hQ.nodup).mp z⟩
  · rintro ⟨h1, h2, h3⟩
    refine ⟨h1, h2, ?_⟩
    rw [List.take_length]
    exact (hp_al (by rw [sel_length]; exact h2) (sel_nodup hR.nodup h1) hQ.nodup).mpr h3
/-- ascending places, as many as there are: all of them -/
theorem asc_full : ∀ {n : Nat} {ps : List Int}, Asc n ps → ps.length = n → ps = (List.range n).map fun i : Nat => ((i : Nat) : Int)
  | 0, ps, _, h => by rw [List.eq_nil_of_length_eq_zero h]; rfl
  | n + 1, ps, hp, hl => by
    have e : ps ≠ [] := fun z => by rw [z] at hl; cases hl
    have e2 := (List.dropLast_concat_getLast e).symm
    have hp' := hp
    rw [e2] at hp
    have hu := List.pairwise_append.mp hp.up
    have h1 := asc_snoc.mp hp
    have hd : Asc n ps.dropLast := ⟨h1.1.up, fun p hp2 => ⟨(h1.1.bd p hp2).1, by have := hu.2.2 p hp2 (ps.getLast e) (by simp); have := h1.2.2; omega⟩⟩
    have hdl : ps.dropLast.length = n := by rw [List.length_dropLast]; omega
    have ih := asc_full hd hdl
    rw [List.range_succ, List.map_append, ← ih]
    have hlast : ps.getLast e = (n : Int) := by
      have h2 := h1.2.2
      by_cases c : ps.getLast e = (n : Int)
      · exact c
      · have h3 : Asc n (ps.dropLast ++ [ps.getLast e]) := asc_snoc.mpr ⟨hd, h1.2.1, by omega⟩
        have := asc_len h3
        rw [List.length_append, hdl] at this
        have z : n + 1 ≤ n := this
        omega
    rw [e2]
    simp [hlast]
theorem idx_of {r : List Int} (hr : r.Nodup) {i : Nat} (hi : i < r.length) : r.idxOf (r.getD i 0) = i := by
  have h1 : r[i]? = some r[i] := List.getElem?_eq_getElem hi
  rw [getD_of h1]
  have hm : r[i] ∈ r := List.getElem_mem hi
  have hlt : r.idxOf r[i] < r.length := List.idxOf_lt_length_iff.mpr hm
  have he : r[r.idxOf r[i]] = r[i] := List.getElem_idxOf hlt
  exact (List.getElem_inj hr).mp he
theorem at_idx {r : List Int} {x : Int} (h : x ∈ r) : r.idxOf x < r.length ∧ r.getD (r.idxOf x) 0 = x := by
  have hlt : r.idxOf x < r.length := List.idxOf_lt_length_iff.mpr h
  exact ⟨hlt, getD_of (by rw [List.getElem?_eq_getElem hlt, List.getElem_idxOf hlt])⟩
theorem inv_length (r : List Int) : (inv r).length = r.length := by unfold inv; rw [List.length_map, up_length]
theorem up_getD {n k : Nat} (h : k < n) : (up n)[k]? = some ((1 : Int) + (k : Nat)) := by
  unfold up
  rw [List.getElem?_map, List.getElem?_range h]
  rfl
theorem inv_getD {r : List Int} {k : Nat} (h : k < r.length) : (inv r).getD k 0 = ((r.idxOf ((1 : Int) + (k : Nat)) : Nat) : Int) + 1 := by
  refine getD_of ?_
  unfold inv
  rw [List.getElem?_map, up_getD h]
  rfl
theorem isRow_inv {r : List Int} (h : IsRow r) : IsRow (inv r) := by
  refine ⟨by rw [inv_length]; exact h.lo, by rw [inv_length]; exact h.hi, ?_⟩
  rw [inv_length]
  have e : r.map (fun e => ((r.idxOf e : Nat) : Int) + 1) = up r.length := by
    refine List.ext_getElem? fun i => ?_
    rw [List.getElem?_map]
    by_cases hi : i < r.length
    · rw [up_getD hi, List.getElem?_eq_getElem hi]
      have := idx_of h.nodup hi
      rw [getD_of (List.getElem?_eq_getElem hi)] at this
      show some (((r.idxOf r[i] : Nat) : Int) + 1) = _
      rw [this, Int.add_comm]
    · rw [List.getElem?_eq_none (by omega), List.getElem?_eq_none (by rw [up_length]; omega)]
      rfl
  have p := h.pm.symm.map (fun e => ((r.idxOf e : Nat) : Int) + 1)
  rw [e] at p
  exact p
theorem plK_self {r ps : List Int} (hR : IsRow r) : PlK r r r.length ps → ps = (List.range r.length).map fun i : Nat => ((i : Nat) : Int) := fun h => asc_full h.asc h.len
theorem inv_at {r : List Int} (h : IsRow r) {i : Nat} (hi : i < r.length) : (inv r).getD (r.getD i 0 - 1).toNat 0 = (i : Int) + 1 := by
  have hm : r.getD i 0 ∈ r := by rw [getD_of (List.getElem?_eq_getElem hi)]; exact List.getElem_mem hi
  have hb := h.mem.mp hm
  rw [inv_getD (by omega), show (1 : Int) + (((r.getD i 0 - 1).toNat : Nat) : Int) = r.getD i 0 by omega, idx_of h.nodup hi]
theorem pat_inv {r q ps : List Int} (hR : IsRow r) (hQ : IsRow q) (h : PlK r q q.length ps) : ∃ ps', PlK (inv r) (inv q) (inv q).length ps' := by
  have z := h.hp
  rw [List.take_length, hpB_iff (by rw [sel_length]; exact h.len)] at z
  have sg : ∀ {a : Nat}, a < q.length → (sel r ps).getD a 0 = r.getD (ps.getD a 0).toNat 0 ∧ 0 ≤ ps.getD a 0 ∧ ps.getD a 0 < r.length := fun {a} ha => by
    have la : a < ps.length := by rw [h.len]; exact ha
    have e : ps[a]? = some ps[a] := List.getElem?_eq_getElem la
    rw [getD_of (sel_get e), getD_of e]
    exact ⟨rfl, h.asc.bd _ (List.getElem_mem _)⟩
  have sb : ∀ {a : Nat}, a < q.length → 1 ≤ (sel r ps).getD a 0 ∧ (sel r ps).getD a 0 ≤ r.length := fun {a} ha => by
    obtain ⟨e, b0, b1⟩ := sg ha
    rw [e]
    have hi : (ps.getD a 0).toNat < r.length := by omega
    rw [getD_of (List.getElem?_eq_getElem hi)]
    exact hR.mem.mp (List.getElem_mem hi)
  have qi : ∀ {k : Nat}, k < q.length → q.idxOf ((1 : Int) + (k : Nat)) < q.length ∧ q.getD (q.idxOf ((1 : Int) + (k : Nat))) 0 = (1 : Int) + (k : Nat) := fun {k} hk => at_idx (hQ.mem.mpr ⟨by omega, by omega⟩)
  have pm : ∀ {a b : Nat}, a < q.length → b < q.length → (ps.getD a 0 < ps.getD b 0 ↔ a < b) := fun {a b} ha hb => by
    have lt : ∀ {a b : Nat}, a < b → b < q.length → ps.getD a 0 < ps.getD b 0 := fun {a b} hab hb => by
      have la : a < ps.length := by rw [h.len]; omega
      have lb : b < ps.length := by rw [h.len]; omega
      have e1 : ps[a]? = some ps[a] := List.getElem?_eq_getElem la
      have e2 : ps[b]? = some ps[b] := List.getElem?_eq_getElem lb
      rw [getD_of e1, getD_of e2]
      exact List.pairwise_iff_getElem.mp h.asc.up a b _ _ hab
    rcases Nat.lt_trichotomy a b with c | c | c
    · have := lt c hb
      omega
    · subst c
      omega
    · have := lt c ha
      omega
  let f : Nat → Int := fun k => (sel r ps).getD (q.idxOf ((1 : Int) + (k : Nat))) 0 - 1
  have fb : ∀ {k : Nat}, k < q.length → 0 ≤ f k ∧ f k < r.length := fun {k} hk => by
    have := sb (qi hk).1
    show 0 ≤ (sel r ps).getD _ 0 - 1 ∧ (sel r ps).getD _ 0 - 1 < _
    omega
  have fg : ∀ {k : Nat}, k < q.length → ((List.range q.length).map f)[k]? = some (f k) := fun {k} hk => by
    rw [List.getElem?_map, List.getElem?_range hk]
    rfl
  have len : ((List.range q.length).map f).length = q.length := by rw [List.length_map, List.length_range]
  refine ⟨(List.range q.length).map f, ⟨?_, ?_⟩, by rw [len, inv_length], ?_⟩
  · rw [List.pairwise_map]
    refine (List.Pairwise.and_mem.mp (List.pairwise_lt_range (n := q.length))).imp fun {k l} hh => ?_
    have hk := List.mem_range.mp hh.1
    have hl := List.mem_range.mp hh.2.1
    have := (z _ (qi hk).1 _ (qi hl).1).mpr (by rw [(qi hk).2, (qi hl).2]; have := hh.2.2; omega)
    show (sel r ps).getD _ 0 - 1 < (sel r ps).getD _ 0 - 1
    omega
  · intro p hp
    obtain ⟨k, hk, rfl⟩ := List.mem_map.mp hp
    rw [inv_length]
    exact fb (List.mem_range.mp hk)
  · rw [List.take_length, hpB_iff (by rw [sel_length, len, inv_length]), inv_length]
    intro k hk l hl
    have gv : ∀ {k : Nat}, k < q.length → (sel (inv r) ((List.range q.length).map f)).getD k 0 = ps.getD (q.idxOf ((1 : Int) + (k : Nat))) 0 + 1 := fun {k} hk => by
      rw [getD_of (sel_get (fg hk))]
      obtain ⟨e, b0, b1⟩ := sg (qi hk).1
      show (inv r).getD ((sel r ps).getD (q.idxOf ((1 : Int) + (k : Nat))) 0 - 1).toNat 0 = _
      rw [e, inv_at hR (by omega)]
      omega
    rw [gv hk, gv hl, inv_getD hk, inv_getD hl]
    have := pm (qi hk).1 (qi hl).1
    omega
theorem inv_inv {r : List Int} (h : IsRow r) : inv (inv r) = r := by
  have hi := isRow_inv h
  refine List.ext_getElem? fun k => ?_
  by_cases hk : k < r.length
  · have e1 : (inv (inv r))[k]? = some ((inv (inv r)).getD k 0) := by
      have : k < (inv (inv r)).length := by rw [inv_length, inv_length]; exact hk
      rw [getD_of (List.getElem?_eq_getElem this), List.getElem?_eq_getElem this]
    have hm : r.getD k 0 ∈ r := by rw [getD_of (List.getElem?_eq_getElem hk)]; exact List.getElem_mem hk
    have hb := h.mem.mp hm
    have e3 := idx_of hi.nodup (i := (r.getD k 0 - 1).toNat) (by rw [inv_length]; omega)
    rw [inv_at h hk] at e3
    rw [e1, inv_getD (by rw [inv_length]; exact hk), Int.add_comm 1 (k : Int), e3, List.getElem?_eq_getElem hk, getD_of (List.getElem?_eq_getElem hk)]
    rw [getD_of (List.getElem?_eq_getElem hk)] at hb
    congr 1
    omega
  · rw [List.getElem?_eq_none (by rw [inv_length, inv_length]; omega), List.getElem?_eq_none (by omega)]
/-- a pattern is there exactly if the undone one is in the undone row -/
theorem pat_iff {r q : List Int} (hR : IsRow r) (hQ : IsRow q) : (∃ ps, PlK (inv r) (inv q) (inv q).length ps) ↔ ∃ ps, PlK r q q.length ps := by
  constructor
  · rintro ⟨ps, h⟩
    have := pat_inv (isRow_inv hR) (isRow_inv hQ) h
    rw [inv_inv hR, inv_inv hQ] at this
    exact this
  · rintro ⟨ps, h⟩
    exact pat_inv hR hQ h
end Rk

namespace Rk
open PySem L2 Ow
/-- what pattern_places told -/
def Told (K : PySem.W.Frag) (H : Hp) (r q : List Int) (tv : V) : Prop := (tv = .non ∧ ∀ ps, ¬ PlK r q q.length ps) ∨ ∃ ps, TI K H tv ps ∧ PlK r q q.length ps
theorem told_both {K : PySem.W.Frag} {H : Hp} {r q : List Int} {X : V → Hp → Prop} (h : ∀ tv H', Same H H' → Told K H' r q tv → X tv H') :
    (∀ v ps H', Same H H' → TI K H' v ps → PlK r q q.length ps → X v H') ∧ (∀ H', Same H H' → (∀ ps, ¬ PlK r q q.length ps) → X .non H') :=
  ⟨fun v ps H' s t p => h v H' s (.inr ⟨ps, t, p⟩), fun H' s n => h _ H' s (.inl ⟨rfl, n⟩)⟩
theorem Told.non {K : PySem.W.Frag} {H : Hp} {r q : List Int} {tv : V} (h : Told K H r q tv) : tv = .non ↔ ∀ ps, ¬ PlK r q q.length ps := by
  rcases h with ⟨e, n⟩ | ⟨ps, ⟨a, e, _⟩, p⟩
  · exact ⟨fun _ => n, fun _ => e⟩
  · exact ⟨(fun z => by rw [e] at z; cases z), fun z => absurd p (z ps)⟩
theorem eqv_dL0 (bs : List (List Int)) : PyData.eqv (dL bs) (.list []) = decide (bs = []) := eqv_dL bs []
/-- all of these are values near places -/
def Nears (K : PySem.W.Frag) (H : Hp) (zs : List V) : Prop := ∀ x ∈ zs, ∃ o, NearAt K H x o ∧ ∀ xs, o = some xs → xs.length ≤ 1000
theorem Nears.same {K : PySem.W.Frag} {H H' : Hp} {zs : List V} (h : Nears K H zs) (s : Same H H') : Nears K H' zs := fun x hx => (h x hx).elim fun o z => ⟨o, z.1.same s, z.2⟩
theorem Nears.but {K : PySem.W.Frag} {H H' : Hp} {zs : List V} {p : Addr} (h : Nears K H zs) (s : But p H H') (b : VatAt H p) : Nears K H' zs := fun x hx => (h x hx).elim fun o z => ⟨o, z.1.but s b, z.2⟩
theorem Nears.nil {K : PySem.W.Frag} {H : Hp} : Nears K H [] := fun _ h => nomatch h
theorem Nears.cons {K : PySem.W.Frag} {H : Hp} {x : V} {zs : List V} {o : Option (List V)} (h : NearAt K H x o) (t : Nears K H zs) (f : ∀ xs, o = some xs → xs.length ≤ 1000 := by exact fun _ e => nomatch e) : Nears K H (x :: zs) := fun y hy => by
  rcases List.mem_cons.mp hy with rfl | hy
  · exact ⟨o, h, f⟩
  · exact t y hy
theorem Nears.append {K : PySem.W.Frag} {H : Hp} {xs zs : List V} (h : Nears K H xs) (t : Nears K H zs) : Nears K H (xs ++ zs) := fun y hy => (List.mem_append.mp hy).elim (h y) (t y)
theorem few_of {ys : List V} (h : ys.length ≤ 1000) : ∀ xs, some ys = some xs → xs.length ≤ 1000 := fun xs e => by injection e with e; rw [← e]; exact h
theorem ib_ints (ns : List Int) : ∀ x ∈ ns.map V.int, IB x := fun x hx => by
  obtain ⟨c, _, rfl⟩ := List.mem_map.mp hx
  exact .inl ⟨c, rfl⟩
theorem TIs.nears {K : PySem.W.Frag} {H : Hp} : ∀ {xs : List V} {cs : List (List Int)}, TIs K H xs cs → (∀ c ∈ cs, c.length ≤ 1000) → Nears K H xs
  | [], _, _, _ => Nears.nil
  | x :: xs, [], t, _ => absurd t id
  | x :: xs, c :: cs, t, f => by
    obtain ⟨a, rfl, ha⟩ := t.1
    exact Nears.cons (.tup ha (ib_ints c)) (TIs.nears t.2 fun d hd => f d (List.mem_cons_of_mem _ hd)) (few_of (by rw [List.length_map]; exact f c (by simp)))
def pl0 (n : Nat) : List Int := (List.range n).map fun i : Nat => ((i : Nat) : Int)
theorem pl0_length (n : Nat) : (pl0 n).length = n := by unfold pl0; rw [List.length_map, List.length_range]
theorem sel_pl0 (r : List Int) : sel r (pl0 r.length) = r := by
  refine List.ext_getElem? fun i => ?_
  by_cases hi : i < r.length
  · rw [sel_get (p := (i : Int)) (by unfold pl0; rw [List.getElem?_map, List.getElem?_range hi]; rfl), List.getElem?_eq_getElem hi, show ((i : Int)).toNat = i from rfl, getD_of (List.getElem?_eq_getElem hi)]
  · rw [List.getElem?_eq_none (by rw [sel_length, pl0_length]; omega), List.getElem?_eq_none (by omega)]
theorem plK_pl0 {r : List Int} (hR : IsRow r) : PlK r r r.length (pl0 r.length) := by
  refine (plK_iff hR hR).mpr ⟨⟨?_, fun p hp => ?_⟩, pl0_length _, by rw [sel_pl0]; exact fun a _ t _ => Iff.rfl⟩
  · unfold pl0
    rw [List.pairwise_map]
    exact (List.pairwise_lt_range (n := r.length)).imp fun {a b} h => by omega
  · unfold pl0 at hp
    obtain ⟨i, hi, rfl⟩ := List.mem_map.mp hp
    have := List.mem_range.mp hi
    omega
theorem rgV_pl0 (n : Nat) : rgV 0 (n : Int) = (pl0 n).map V.int := by
  unfold rgV pl0
  rw [List.map_map, show ((n : Int) - 0).toNat = n by omega]
  refine List.map_congr_left fun i _ => ?_
  show V.int (0 + (i : Int)) = V.int (i : Int)
  rw [Int.zero_add]
theorem isRow_up {n : Nat} (h0 : 2 ≤ n) (h1 : n ≤ 5) : IsRow (up n) := ⟨by rw [up_length]; exact h0, by rw [up_length]; exact h1, by rw [up_length]⟩
theorem pl_iff {r q : List Int} {o : Option (List V)} (hR : IsRow r) (hQ : IsRow q) : isPl r q o ↔ isPl2 r q o := by
  constructor
  · rintro ⟨ps, e, h⟩
    exact ⟨ps, e, (plK_iff hR hQ).mp h⟩
  · rintro ⟨ps, e, h⟩
    exact ⟨ps, e, (plK_iff hR hQ).mpr h⟩
theorem But.off {p D : Addr} {H H' : Hp} {o : HO} (h : But p H H') (n : H D = none) : But p H (upd H' D o) := fun q u ne e => by
  rw [upd_ne (ne_of_none e n)]
  exact h q u ne e
theorem B4 {z : Int} (h : 0 ≤ z ∧ z ≤ 100) : B 8000 z := by
  show z.natAbs < 2 ^ 8000
  exact Nat.lt_of_le_of_lt (show z.natAbs ≤ 100 by omega) (by decide)
def spRight (K : PySem.W.Frag) : Sp := fun vs H Q _ => ∃ p : Addr, vs = [.ref p] ∧ VatAt H p ∧ ∀ H', But p H H' → VatAt H' p → Q (.bl true) H'
section
variable {P : Program} {w : World} {K : PySem.W.Frag} {mg : Str → Option Value} {base : Heap}
theorem cal_l_right (T : Txt K mg) : Cal P w K mg base "_law_right" 6 (spRight K) := by
  refine T.d_l_right.cal (ps := ["_law_vat_here"]) (fun f fd D => ?_) (fun _ _ _ _ _ _ us hl => match us, hl with | [_], _ => rfl)
  refine D.ok sc_l_right (fun vs H Q E h => ?_) (fun cdv A outer s H vs Q E hr h => ?_)
  · obtain ⟨_, rfl, _⟩ := h
    rfl
  · obtain ⟨p, rfl, hb, k⟩ := h
    refine ⟨_, (pss_cons (ps_par (i := 1) (j := 2) rfl sc_l_right.nd rfl rfl (by decide) rfl rfl (pa_cons (pe_cal (cal_l_some_row T) (hr.mono (by decide)) (by rfl) (pa_cons (pv 0) (pa_cons (pe_op op_add pe_int (pe_cal (cal_l_sip T) (hr.mono (by decide)) (by rfl) (pa_cons (pv 0) (pa_cons pe_int pa_nil)))) pa_nil))) (pa_cons (pe_cal (cal_l_some_row T) (hr.mono (by decide)) (by rfl) (pa_cons (pv 0) (pa_cons (pe_op op_add pe_int (pe_cal (cal_l_sip T) (hr.mono (by decide)) (by rfl) (pa_cons (pv 0) (pa_cons pe_int pa_nil)))) pa_nil))) pa_nil)) rfl)
      (pss_cons (ps_par (i := 3) (j := 4) rfl sc_l_right.nd rfl rfl (by decide) rfl rfl (pa_cons (pe_cal (cal_l_every_place T) (hr.mono (by decide)) (by rfl) (pa_cons (pv 1) (pa_cons (pv 2) pa_nil))) (pa_cons (pe_cal (cal_pattern_places T) (hr.mono (by decide)) (by rfl) (pa_cons (pv 1) (pa_cons (pv 2) pa_nil))) pa_nil)) rfl)
      (C8.pss_cut (ps_if (PW.pt (pw_or (pt_cmpR op_ne (pe_cmpR op_isN (pv 4) pe_non (nomark _)) (pe_cmpR (op_eqD hr.units) (pv 3) (pe_lst pa_nil) (nomark _)) (nomark _)) (pw_or1 (PW.pt (pw_and (pt_cmpR op_notN (pv 4) pe_non (nomark _)) (pw_and1 (pt_not (pt_val (pe_cal (cal_l_is_places T) (hr.mono (by decide)) (by rfl) (pa_cons (pv 1) (pa_cons (pv 2) (pa_cons (pv 4) pa_nil)))))))))))) (pss_one (ps_ret pe_bl)) pss_nil)
      (C8.pss_cut (ps_if (pt_cmpR op_ne (pe_cmpR op_isN (pe_cal (cal_pattern_places T) (hr.mono (by decide)) (by rfl) (pa_cons (pe_cal (cal_l_undone T) (hr.mono (by decide)) (by rfl) (pa_cons (pv 1) pa_nil)) (pa_cons (pe_cal (cal_l_undone T) (hr.mono (by decide)) (by rfl) (pa_cons (pv 2) pa_nil)) pa_nil))) pe_non (nomark _)) (pe_cmpR (op_eqD hr.units) (pv 3) (pe_lst pa_nil) (nomark _)) (nomark _)) (pss_one (ps_ret pe_bl)) pss_nil)
      (pss_cons (ps_set (i := 5) sc_l_right.nd rfl (Or.inr rfl) (pe_callB call_len_seq (by rfl) T.b_len (by decide +kernel) (pa_cons (pv 1) pa_nil)))
      (pss_cons (ps_set (i := 6) sc_l_right.nd rfl (Or.inl rfl) (pe_op op_cat (pv 3) (pe_lst (pa_cons pe_non (pa_cons pe_int (pa_cons (pe_tup pa_nil) (pa_cons (pe_lst (pa_cons pe_int (pa_cons pe_int pa_nil))) (pa_cons (pe_tup (pa_cons pe_int pa_nil)) (pa_cons (pe_callTy call_tuple_of (by rfl) T.b_tuple (by decide +kernel) (pa_cons (pe_listRg rfl (by rfl) T.b_list (prg_1 (by rfl) T.b_range (pe_callB call_len_seq (by rfl) T.b_len (by decide +kernel) (pa_cons (pv 2) pa_nil)))) pa_nil)) (pa_cons (pe_tup (pa_cons pe_bl (pa_cons pe_int pa_nil))) (pa_cons (pe_tup (pa_cons pe_int (pa_cons (pv 5) pa_nil))) (pa_cons pe_str pa_nil))))))))))))
      (pss_cons (ps_set (i := 6) sc_l_right.nd rfl (Or.inl rfl) (pe_op op_cat (pv 6) (pe_lst (pa_cons (pe_tup (pa_cons (pe_op op_sub pe_int pe_int) (pa_cons pe_int pa_nil))) (pa_cons (pe_tup (pa_cons pe_int (pa_cons pe_int pa_nil))) (pa_cons pe_dnewK pa_nil))))))
      (C8.pss_cut (ps_set (i := 6) sc_l_right.nd rfl (Or.inl rfl) (pe_op op_cat (pv 6) (pe_op op_rep (pe_lst (pa_cons (pe_callTy call_tuple_of (by rfl) T.b_tuple (by decide +kernel) (pa_cons (pe_lc (own := [("_law_at", 7)]) (g := gName 7) (tt := tYes) rfl sc_l_right.nd (pi_tup (pe_ifExp (pt_cmpR op_notN (pv 4) pe_non (nomark _)) (pv 4) (pe_tup (pa_cons pe_int (pa_cons pe_int pa_nil))))) (blkOk_by (own := [("_law_at", 7)]) (N := ["_law_vat_here", "_law_row", "_law_pattern", "_law_every", "_law_told", "_law_size", "_law_some", "_law_at", "_law_turn", "_law_near", "_law_place"]) (sc := defScope s_l_right) (by decide +kernel)) (fun _ _ _ _ _ => (pg_name (i := 7) sc_l_right.nd rfl (Or.inl rfl))) (fun _ _ _ _ _ => pts_nil) (fun _ _ _ _ _ => (pe_ifExp (pt_cmpR (show OpR _ _ (rIn K false) from op_in_seq) (pv 7) (pe_tup (pa_cons pe_int (pa_cons pe_int pa_nil))) (by rfl)) (pe_cmpR op_eq (pv 7) pe_int (nomark _)) (pv 7)))) pa_nil)) pa_nil)) pe_int)))
      (pss_cons (ps_for PassesOwn.never rfl (pi_range1 (by rfl) T.b_range (pa_cons pe_int pa_nil)) (pg_name (i := 8) sc_l_right.nd rfl (Or.inl rfl)) (pss_cons (ps_set (i := 9) sc_l_right.nd rfl (Or.inl rfl) (pe_cal (cal_l_taste T) (hr.mono (by decide)) (by rfl) (pa_cons (pv 0) (pa_cons (pv 6) pa_nil))))
      (C8.pss_cut (ps_if (pt_cmpR op_eq (pe_cal (cal_l_sip T) (hr.mono (by decide)) (by rfl) (pa_cons (pv 0) (pa_cons pe_int pa_nil))) pe_int (nomark _)) (pss_one (ps_set (i := 9) sc_l_right.nd rfl (Or.inl rfl) (pe_callTy call_tuple_of (by rfl) T.b_tuple (by decide +kernel) (pa_cons (pe_lc (own := [("_law_place", 10)]) (g := gName 10) (tt := tYes) rfl sc_l_right.nd (pi_tup (pv 2)) (blkOk_by (own := [("_law_place", 10)]) (N := ["_law_vat_here", "_law_row", "_law_pattern", "_law_every", "_law_told", "_law_size", "_law_some", "_law_at", "_law_turn", "_law_near", "_law_place"]) (sc := defScope s_l_right) (by decide +kernel)) (fun _ _ _ _ _ => (pg_name (i := 10) sc_l_right.nd rfl (Or.inl rfl))) (fun _ _ _ _ _ => pts_nil) (fun _ _ _ _ _ => (pe_cal (cal_l_sip T) (hr.mono (by decide)) (by rfl) (pa_cons (pv 0) (pa_cons (pe_op op_add (pv 5) pe_int) pa_nil))))) pa_nil)))) pss_nil)
      (pss_one (ps_if (pt_cmpR op_ne (pe_cal (cal_is_pattern_places T) (hr.mono (by decide)) (by rfl) (pa_cons (pv 1) (pa_cons (pv 2) (pa_cons (pv 9) pa_nil)))) (pe_cal (cal_l_is_places T) (hr.mono (by decide)) (by rfl) (pa_cons (pv 1) (pa_cons (pv 2) (pa_cons (pv 9) pa_nil)))) (nomark _)) (pss_one (ps_ret pe_bl)) pss_nil)))))
      (pss_cons (ps_if (pt_cmpR (op_neD hr.units) (pe_cal (cal_pattern_places T) (hr.mono (by decide)) (by rfl) (pa_cons (pv 1) (pa_cons (pv 1) pa_nil))) (pe_callTy call_tuple_of (by rfl) T.b_tuple (by decide +kernel) (pa_cons (pe_listRg rfl (by rfl) T.b_list (prg_1 (by rfl) T.b_range (pv 5))) pa_nil)) (nomark _)) (pss_one (ps_ret pe_bl)) pss_nil)
      (pss_one (ps_ret (pe_ifExp (pt_cmpR op_lt (pv 5) pe_int (nomark _)) (pe_cmpR op_isN (pe_cal (cal_pattern_places T) (hr.mono (by decide)) (by rfl) (pa_cons (pv 1) (pa_cons (pe_callTy call_tuple_of (by rfl) T.b_tuple (by decide +kernel) (pa_cons (pe_listRg rfl (by rfl) T.b_list (prg_2 (by rfl) T.b_range pe_int (pe_op op_add (pv 5) pe_int))) pa_nil)) pa_nil))) pe_non (nomark _)) pe_bl))))))))))))), ?_⟩
    refine ⟨_, rfl, _, rfl, p, _, rfl, by decide, B4 (by decide), hb, fun i H1 i0 i1 o1 v1 => ?_⟩
    refine ⟨_, _, rfl, rfl, p, _, rfl, v1, by omega, by omega, fun rv r H2 o2 v2 hr2 hR => ?_⟩
    refine ⟨_, rfl, _, rfl, p, _, rfl, by decide, B4 (by decide), v2, fun j H3 j0 j1 o3 v3 => ?_⟩
    refine ⟨_, _, rfl, rfl, p, _, rfl, v3, by omega, by omega, fun qv q H4 o4 v4 hq4 hQ => ⟨_, _, rfl, ?_⟩⟩
    have hr4 : RT H4 rv r := (hr2.but o3 v2).but o4 v3
    have vat4 := v4
    have o14 : But p H H4 := ((o1.trans o2).trans o3).trans o4
    refine ⟨_, rfl, _, rfl, _, _, r, q, rfl, hr4.ti, hq4.ti, hR, hQ, fun l bs H5 s5 hl hm hlen => ?_⟩
    refine ⟨_, rfl, _, rfl, _, _, r, q, rfl, (hr4.same s5).ti, (hq4.same s5).ti, hR, hQ, ?_⟩
    refine And.symm (told_both (H := H5) (r := r) (q := q) ?_)
    intro tv H6 s6 ht
    refine ⟨_, _, rfl, ?_⟩
    have hbs : bs = [] ↔ ∀ ps, ¬ PlK r q q.length ps := by
      constructor
      · rintro rfl ps h
        have := (hm ps).mpr ((plK_iff hR hQ).mp h)
        cases this
      · intro h
        refine List.eq_nil_iff_forall_not_mem.mpr fun ps hp => h ps ((plK_iff hR hQ).mpr ((hm ps).mp hp))
    have fewP : ∀ {ps : List Int}, ps.length = q.length → (ps.map V.int).length ≤ 1000 := fun {ps} e => by
      have := hQ.hi
      rw [List.length_map]
      omega
    refine ⟨fun σ H' => σ = [some (.ref p), some rv, some qv, some (.ref l), some tv, none, none, none, none, none, none] ∧ Same H6 H', ?_, ?_⟩
    rotate_left
    · rintro _ H7 ⟨rfl, s7⟩
      refine ⟨fun σ H' => σ = [some (.ref p), some rv, some qv, some (.ref l), some tv, none, none, none, none, none, none] ∧ Same H7 H', ?_, ?_⟩
      rotate_left
      · rintro _ H8 ⟨rfl, s8⟩
        have s48 := ((s5.trans s6).trans s7).trans s8
        obtain ⟨ra, hra0, hra8⟩ := (hr4.same s48).ti (K := K)
        obtain ⟨qa, hqa0, hqa8⟩ := (hq4.same s48).ti (K := K)
        subst hra0 hqa0
        refine ⟨_, rfl, _, _, rfl, .inr hra8, ?_⟩
        refine ⟨_, rfl, Nat.zero_le _, fun t0 n0 => ⟨show 2 ≤ sizeLine by decide, fun l1 n1 => ⟨show 1 ≤ sizeLine by decide, fun t1 n2 => ?_⟩⟩⟩
        have c1 := (same_new (o := .tup []) n0).trans ((same_new (o := .lst [.int 0, .int 1]) n1).trans (same_new (o := .tup [.int 0]) n2))
        refine ⟨_, rfl, _, _, rfl, .inr (sqT_same c1 hqa8), _, rfl, .of_le (by decide) (by rw [List.length_map]; have := hQ.hi; omega) (by decide) (by omega), fun l2 n3 => ?_⟩
        have lqm : (q.map V.int).length = q.length := List.length_map _
        have q5 := hQ.hi
        refine ⟨_, _, rfl, .inl ⟨.of upd_same, fun t2 n4 => ⟨show 2 ≤ sizeLine by decide, fun t3 n5 => ⟨_, rfl, show 2 ≤ sizeLine by decide, fun t4 n6 => ⟨show 9 ≤ sizeLine by decide, fun m n7 => ?_⟩⟩⟩⟩⟩
        obtain ⟨xs, hxs, hxt⟩ := hl
        have u0 := same_new (o := .tup []) n0
        have u1 := same_new (o := .lst [.int 0, .int 1]) n1
        have u2 := same_new (o := .tup [.int 0]) n2
        have u3 := same_new (o := .lst (rgV 0 ((q.map V.int).length : Nat))) n3
        have u4 := same_new (o := .tup (rgV 0 ((q.map V.int).length : Nat))) n4
        have u5 := same_new (o := .tup [.bl true, .int 0]) n5
        have u6 := same_new (o := .tup [.int 0, .int ((r.map V.int).length : Nat)]) n6
        have u7 := same_new (o := .lst [.non, .int 0, .ref t0, .ref l1, .ref t1, .ref t2, .ref t3, .ref t4, .str "01"]) n7
        have w6 := u6.trans u7
        have w5 := u5.trans w6
        have w4 := u4.trans w5
        have w3 := u3.trans w4
        have w2 := u2.trans w3
        have w1 := u1.trans w2
        have w0 := u0.trans w1
        have s5m := ((s6.trans s7).trans s8).trans w0
        have hl32 : xs.length ≤ 32 := by rw [hxt.len]; exact hlen
        have cl : ∀ c ∈ bs, c.length ≤ 1000 := fun c hc => by
          have := ((hm c).mp hc).2.1
          omega
        have hrg : (rgV 0 ((q.map V.int).length : Nat)).length ≤ 1000 := by
          rw [rgV_length]
          omega
        have ibr : ∀ x ∈ rgV 0 ((q.map V.int).length : Nat), IB x := fun x hx => by
          unfold rgV at hx
          obtain ⟨i, _, rfl⟩ := List.mem_map.mp hx
          exact .inl ⟨_, rfl⟩
        have N1 : Nears K (upd _ m _) (xs ++ [.non, .int 0, .ref t0, .ref l1, .ref t1, .ref t2, .ref t3, .ref t4, .str "01"]) :=
          Nears.append (TIs.nears (hxt.same s5m) cl)
            (Nears.cons .non (Nears.cons (.int 0) (Nears.cons (.tup (.of (w1 _ _ upd_same)) (ib_ints [])) (Nears.cons (.lst (w2 _ _ upd_same) (by decide)) (Nears.cons (.tup (.of (w3 _ _ upd_same)) (ib_ints [0])) (Nears.cons (.tup (.of (w5 _ _ upd_same)) ibr)
              (Nears.cons (.tup (.of (w6 _ _ upd_same)) (fun x hx => by simp at hx; rcases hx with rfl | rfl; exact .inr ⟨_, rfl⟩; exact .inl ⟨_, rfl⟩)) (Nears.cons (.tup (.of (u7 _ _ upd_same)) (ib_ints [0, _])) (Nears.cons (.str "01") Nears.nil) (few_of (by simp))) (few_of (by simp))) (few_of hrg)) (few_of (by simp)))) (few_of (by simp)))))
        refine ⟨l, m, xs, _, rfl, rfl, s5m _ _ hxs, upd_same, szl (by simp; omega), fun z1 n8 => ?_⟩
        have u8 := same_new (o := .lst (xs ++ [.non, .int 0, .ref t0, .ref l1, .ref t1, .ref t2, .ref t3, .ref t4, .str "01"])) n8
        refine ⟨_, rfl, _, _, rfl, rfl, show 2 ≤ sizeLine by decide, fun t5 m1 => ⟨show 2 ≤ sizeLine by decide, fun t6 m2 => fun d m3 => ⟨show 3 ≤ sizeLine by decide, fun l3 m4 => ?_⟩⟩⟩
        have v1 := same_new (o := .tup [.int (0 - 1), .int 0]) m1
        have v2 := same_new (o := .tup [.int 1, .int 0]) m2
        have v3 := same_new (o := .dK []) m3
        have v4 := same_new (o := .lst [.ref t5, .ref t6, .ref d]) m4
        have x3 := v3.trans v4
        have x2 := v2.trans x3
        have x1 := v1.trans x2
        have N2 : Nears K (upd _ l3 _) ((xs ++ [.non, .int 0, .ref t0, .ref l1, .ref t1, .ref t2, .ref t3, .ref t4, .str "01"]) ++ [.ref t5, .ref t6, .ref d]) :=
          Nears.append (N1.same (u8.trans x1)) (Nears.cons (.tup (.of (x2 _ _ upd_same)) (ib_ints [0 - 1, 0])) (Nears.cons (.tup (.of (x3 _ _ upd_same)) (ib_ints [1, 0])) (Nears.cons (.dic (v4 _ _ upd_same)) Nears.nil) (few_of (by simp))) (few_of (by simp)))
        refine ⟨z1, l3, _, _, rfl, rfl, x1 _ _ upd_same, upd_same, szl (by simp; omega), fun z2 m5 => ?_⟩
        have v5 := same_new (o := .lst ((xs ++ [.non, .int 0, .ref t0, .ref l1, .ref t1, .ref t2, .ref t3, .ref t4, .str "01"]) ++ [.ref t5, .ref t6, .ref d])) m5
        have N3 := N2.same v5
        have s8z := w0.trans ((u8.trans x1).trans v5)
        have hlz : (((xs ++ [.non, .int 0, .ref t0, .ref l1, .ref t1, .ref t2, .ref t3, .ref t4, .str "01"]) ++ [.ref t5, .ref t6, .ref d]) : List V).length ≤ 44 := by simp; omega
        refine ⟨fun σ H' => ∃ (z : Addr) (zs : List V), σ = [some (.ref p), some (.ref ra), some (.ref qa), some (.ref l), some tv, some (.int ((r.map V.int).length : Nat)), some (.ref z), none, none, none, none] ∧ Same H8 H' ∧ H' z = some (.lst zs) ∧ Nears K H' zs ∧ 3 < zs.length ∧ zs.length ≤ 1000, ?_, ?_⟩
        rotate_left
        · rintro _ H9 ⟨z, zs, rfl, s9, hz, hN, hz0, hz1⟩
          have hzp : z ≠ p := fun e => by
            obtain ⟨b0, b1, b2, hp⟩ := vat4.same (s48.trans s9)
            rw [e, hp] at hz
            injection hz with hz
            injection hz with hz
            rw [← hz] at hz0
            simp at hz0
          have vat9 : VatAt H9 p := vat4.same (s48.trans s9)
          have hra9 := sqT_same s9 hra8
          have hqa9 := sqT_same s9 hqa8
          have len_r : (r.map V.int).length = r.length := List.length_map _
          have r5 := hR.hi
          have r2 := hR.lo
          have q5 := hQ.hi
          have sqB : ∀ {Hx : Hp} {a : Addr} {xs : List V}, But p H9 Hx → SqT K H9 a xs → SqT K Hx a xs := fun b h => by
            obtain ⟨b0, b1, b2, hp⟩ := vat9
            exact b.sqT hp h
          refine ⟨_, rfl, by decide, by decide, for_range (lo := 0) (n := 6) (fun i σ H' => ∃ v8 v9 : Option V, σ = [some (.ref p), some (.ref ra), some (.ref qa), some (.ref l), some tv, some (.int ((r.map V.int).length : Nat)), some (.ref z), none, v8, v9, none] ∧ But p H9 H' ∧ VatAt H' p) ⟨none, none, rfl, .refl, vat9⟩ ?_ ?_⟩
          · rintro i _ Ha hi ⟨v8, v9, rfl, ba, va⟩
            refine ⟨_, rfl, _, rfl, p, z, zs, rfl, va, ba _ _ hzp hz, hzp, by omega, hz1, fun nv Hb hnv bb vb => ?_⟩
            obtain ⟨o, hno, hfew⟩ := (hN.but (ba.trans bb) vat9) nv hnv
            refine ⟨fun σ H' => ∃ (nv : V) (o : Option (List V)), σ = [some (.ref p), some (.ref ra), some (.ref qa), some (.ref l), some tv, some (.int ((r.map V.int).length : Nat)), some (.ref z), none, some (.int (0 + (i : Int))), some nv, none] ∧ But p H9 H' ∧ VatAt H' p ∧ NearAt K H' nv o ∧ ∀ xs, o = some xs → xs.length ≤ 1000, ?_, ?_⟩
            rotate_left
            · rintro _ Hc ⟨nv, o, rfl, bc, vc, hno, hfew⟩
              have hra := sqB bc hra9
              have hqa := sqB bc hqa9
              refine ⟨_, rfl, _, rfl, _, rfl, _, _, _, r, q, o, rfl, ⟨ra, rfl, hra⟩, ⟨qa, rfl, hqa⟩, hR, hQ, hno, fun b1 Hd sd e1 => ?_⟩
              refine ⟨_, rfl, _, rfl, _, rfl, _, _, _, r, q, o, rfl, ⟨ra, rfl, sqT_same sd hra⟩, ⟨qa, rfl, sqT_same sd hqa⟩, hR, hQ, hno.same sd, hfew, fun b2 He se e2 => ?_⟩
              have eb : b1 = b2 := by
                rw [Bool.eq_iff_iff]
                exact e1.trans ((pl_iff hR hQ).trans e2.symm)
              subst eb
              refine ⟨rfl, _, rfl, ?_⟩
              rw [show (!decide (V.bl b1 = V.bl b1)) = false by simp]
              exact iteF ⟨_, _, rfl, bc.trans (.of_same (sd.trans se)), vc.same (sd.trans se)⟩
            refine ⟨_, rfl, p, _, rfl, by decide, B4 (by decide), vb, fun d Hc d0 d1 bc vc => ⟨rfl, _, rfl, ite2 (fun _ => ?_) (fun _ => ?_)⟩⟩
            · have b9c : But p H9 Hc := (ba.trans bb).trans bc
              refine ⟨_, rfl, qa, rfl, ⟨_, sqB b9c hqa9⟩, fun D nD => lc_tup (K := K) (a := qa) (xs := q.map V.int) (fun i H' => But p Hc H' ∧ VatAt H' p ∧ ∃ ys, H' D = some (.lst ys) ∧ ys.length = i ∧ ∀ y ∈ ys, IB y) ⟨.of_same (same_new nD), vc.same (same_new nD), [], upd_same, rfl, by simp⟩ (fun i H' _ h => sqB (b9c.trans h.1) hqa9) ?_ ?_⟩
              · rintro k x Hd hx ⟨bd, vd, ys, hD, hyl, hyb⟩
                obtain ⟨c, hc, rfl⟩ := int_at hx
                have kl := (List.getElem?_eq_some_iff.mp hc).1
                refine ⟨rfl, _, rfl, _, rfl, _, _, rfl, rfl, p, _, rfl, by omega, B4 (by omega), vd, fun e He e0 e1 be ve => ?_⟩
                have hDp : D ≠ p := vat_ne vc nD
                refine ⟨ys, be _ _ hDp hD, small1000 (by omega), (bd.trans be).off nD, ve.but but_upd (Ne.symm hDp), ys ++ [.int e], upd_same, by rw [List.length_append, hyl]; rfl, fun u hu => (List.mem_append.mp hu).elim (hyb u) fun z => by rw [List.mem_singleton.mp z]; exact .inl ⟨_, rfl⟩⟩
              · rintro Hd ⟨bd, vd, ys, hD, hyl, hyb⟩
                refine ⟨D, _, rfl, .inl ⟨.of hD, fun t nt => ?_⟩⟩
                refine ⟨.ref t, some ys, rfl, (b9c.trans bd).trans (.of_same (same_new nt)), vd.same (same_new nt), .tup (.of upd_same) hyb, few_of (by rw [hyl, List.length_map]; omega)⟩
            · exact ⟨nv, o, rfl, (ba.trans bb).trans bc, vc, hno.but bc vb, hfew⟩
          · rintro _ Ha ⟨v8, v9, rfl, ba, va⟩
            have hraA := sqB ba hra9
            refine ⟨_, rfl, _, rfl, _, _, r, r, rfl, ⟨ra, rfl, hraA⟩, ⟨ra, rfl, hraA⟩, hR, hR, And.symm ⟨fun v ps Hb sb tb pk => ?_, fun Hb sb nn => absurd (plK_pl0 hR) (nn _)⟩⟩
            obtain rfl : ps = pl0 r.length := plK_self hR pk
            refine ⟨_, rfl, _, rfl, ?_⟩
            refine ⟨.of_le (by decide) (by omega) (by decide) (by omega), fun l2 n3 => ⟨_, _, rfl, .inl ⟨.of upd_same, fun t2 n4 => ?_⟩⟩⟩
            have sc := (same_new (o := .lst (rgV 0 ((r.map V.int).length : Nat))) n3).trans (same_new (o := .tup (rgV 0 ((r.map V.int).length : Nat))) n4)
            have ht2 : TI K (upd (upd Hb l2 (.lst (rgV 0 ((r.map V.int).length : Nat)))) t2 (.tup (rgV 0 ((r.map V.int).length : Nat)))) (.ref t2) (pl0 r.length) := ⟨t2, rfl, .of (by rw [upd_same, len_r, rgV_pl0])⟩
            refine ⟨_, _, (tb.same sc).dp, ht2.dp, sh_dT _, sh_dT _, ?_⟩
            rw [eqv_dT, decide_eq_true rfl]
            refine ⟨_, rfl, iteF ?_⟩
            have hraC := sqT_same (sb.trans sc) hraA
            have oC := (((((o14.trans (.of_same (s48.trans s9))).trans ba).trans (.of_same (sb.trans sc)))))
            have vC := va.same (sb.trans sc)
            refine ⟨_, rfl, _, _, rfl, rfl, _, rfl, ite2 (fun h => ?_) (fun h => ?_)⟩
            · have h5 : r.length < 5 := by
                have := of_decide_eq_true h
                omega
              refine ⟨_, rfl, _, rfl, _, _, rfl, rfl, _, _, rfl, rfl, ?_⟩
              refine ⟨.of_le (by decide) (by omega) (by omega) (by omega), fun l3 m1 => ⟨_, _, rfl, .inl ⟨.of upd_same, fun t3 m2 => ?_⟩⟩⟩
              have eup : rgV 1 ((((r.map V.int).length : Nat) : Int) + 2) = (up (r.length + 1)).map V.int := by
                rw [← rgV_up, len_r]
                congr 1
              have sd := (same_new (o := .lst (rgV 1 ((((r.map V.int).length : Nat) : Int) + 2))) m1).trans (same_new (o := .tup (rgV 1 ((((r.map V.int).length : Nat) : Int) + 2))) m2)
              refine ⟨_, _, r, up (r.length + 1), rfl, ⟨ra, rfl, sqT_same sd hraC⟩, ⟨t3, rfl, .of (by rw [upd_same, eup])⟩, hR, isRow_up (by omega) (by omega), And.symm ⟨fun v ps Hb sb tb pk => ?_, fun Hb sb nn => ?_⟩⟩
              · have h1 := asc_len pk.asc
                have h2 := pk.len
                rw [up_length] at h2
                omega
              · refine ⟨rfl, ?_⟩
                exact k _ (oC.trans (.of_same (sd.trans sb))) (vC.same (sd.trans sb))
            · exact k _ oC vC
        refine ⟨_, rfl, _, rfl, rfl, _, rfl, ?_⟩
        rcases ht with ⟨rfl, _⟩ | ⟨ps, ⟨ta, rfl, hta⟩, hps⟩
        · rw [show (!decide ((V.non : V) = V.non)) = false from rfl]
          refine iteF ⟨show 2 ≤ sizeLine by decide, fun tb nb => ?_⟩
          have few5 : (2 : Nat) ≤ 5 := by decide
          have sqb : ∀ {Hx : Hp}, SqT K (upd Hx tb (.tup [.int 0, .int 1])) tb (([0, 1] : List Int).map V.int) := fun {Hx} => .of upd_same
          refine ⟨tb, rfl, ⟨_, sqb⟩, fun D nD => lc_tup (K := K) (a := tb) (xs := ([0, 1] : List Int).map V.int) (fun i H' => Same (upd _ tb _) H' ∧ ∃ ys, H' D = some (.lst ys) ∧ ys.length = i ∧ ∀ y ∈ ys, IB y) ⟨same_new nD, [], upd_same, rfl, by simp⟩ (fun i H' _ h => sqT_same h.1 sqb) ?_ ?_⟩
          · rintro i x Ha hx ⟨sa, ys, hD, hyl, hyb⟩
            obtain ⟨c, hc, rfl⟩ := int_at hx
            have il := (List.getElem?_eq_some_iff.mp hc).1
            have il5 : i < 5 := by have := few5; first | omega | (simp at il; omega)
            refine ⟨rfl, _, rfl, show 2 ≤ sizeLine by decide, fun t nt => ?_⟩
            have hD2 := same_new (o := .tup [.int 0, .int 1]) nt _ _ hD
            have fin : ∀ y, IB y → ∃ acc, (upd Ha t (.tup [.int 0, .int 1])) D = some (.lst acc) ∧ acc.length < sizeLine ∧ Same (upd _ tb _) (upd (upd Ha t (.tup [.int 0, .int 1])) D (.lst (acc ++ [y]))) ∧ ∃ ys, upd (upd Ha t (.tup [.int 0, .int 1])) D (.lst (acc ++ [y])) D = some (.lst ys) ∧ ys.length = i + 1 ∧ ∀ y ∈ ys, IB y := fun y hy =>
              ⟨ys, hD2, small1000 (by omega), same_off nD (sa.trans (same_new nt)) off_upd, ys ++ [y], upd_same, by rw [List.length_append, hyl]; rfl, fun u hu => (List.mem_append.mp hu).elim (hyb u) fun z => by rw [List.mem_singleton.mp z]; exact hy⟩
            refine ⟨t, _, rfl, .inr (.of upd_same), rfl, rfl, _, rfl, ite2 (fun _ => ?_) (fun _ => ?_)⟩
            · exact ⟨_, rfl, rfl, fin _ (.inr ⟨_, rfl⟩)⟩
            · exact ⟨_, rfl, fin _ (.inl ⟨_, rfl⟩)⟩
          · rintro Ha ⟨sa, ys, hD, hyl, hyb⟩
            have hy1000 : ys.length ≤ 1000 := by rw [hyl, List.length_map]; have := few5; first | omega | (simp; done)
            refine ⟨D, _, rfl, .inl ⟨.of hD, fun t nt => ⟨show 1 ≤ sizeLine by decide, fun l4 k1 => ⟨_, _, _, rfl, rfl, upd_same, by decide, by decide, (show 1 * 2 ≤ sizeLine by decide), fun z3 k2 => ?_⟩⟩⟩⟩
            have y1 := same_new (o := .tup ys) nt
            have y2 := same_new (o := .lst [.ref t]) k1
            have y3 := same_new (o := .lst (List.replicate (2 : Int).toNat [V.ref t]).flatten) k2
            have y13 := ((same_new (o := .tup [.int 0, .int 1]) nb).trans sa).trans (y1.trans (y2.trans y3))
            refine ⟨z2, z3, _, _, rfl, rfl, y13 _ _ upd_same, upd_same, szl (by have h1 := hlz; simp at h1 ⊢; omega), fun z4 k3 => ?_⟩
            have y4 := same_new (o := .lst (((xs ++ [.non, .int 0, .ref t0, .ref l1, .ref t1, .ref t2, .ref t3, .ref t4, .str "01"]) ++ [.ref t5, .ref t6, .ref d]) ++ (List.replicate (2 : Int).toNat [V.ref t]).flatten)) k3
            have nt' : NearAt K _ (.ref t) (some ys) := .tup (.of ((y2.trans (y3.trans y4)) _ _ upd_same)) hyb
            refine ⟨z4, _, rfl, (s8z.trans y13).trans y4, upd_same, Nears.append (N3.same (y13.trans y4)) (Nears.cons nt' (Nears.cons nt' Nears.nil (few_of hy1000)) (few_of hy1000)), by simp, by have h1 := hlz; simp at h1 ⊢; omega⟩
        · rw [show (!decide ((V.ref ta : V) = V.non)) = true from rfl]
          have few5 : ps.length ≤ 5 := by rw [hps.len]; exact hQ.hi
          have sqb := sqT_same ((s7.trans s8).trans s8z) hta
          refine iteT ⟨_, rfl, ?_⟩
          refine ⟨ta, rfl, ⟨_, sqb⟩, fun D nD => lc_tup (K := K) (a := ta) (xs := (ps : List Int).map V.int) (fun i H' => Same (upd _ z2 _) H' ∧ ∃ ys, H' D = some (.lst ys) ∧ ys.length = i ∧ ∀ y ∈ ys, IB y) ⟨same_new nD, [], upd_same, rfl, by simp⟩ (fun i H' _ h => sqT_same h.1 sqb) ?_ ?_⟩
          · rintro i x Ha hx ⟨sa, ys, hD, hyl, hyb⟩
            obtain ⟨c, hc, rfl⟩ := int_at hx
            have il := (List.getElem?_eq_some_iff.mp hc).1
            have il5 : i < 5 := by have := few5; first | omega | (simp at il; omega)
            refine ⟨rfl, _, rfl, show 2 ≤ sizeLine by decide, fun t nt => ?_⟩
            have hD2 := same_new (o := .tup [.int 0, .int 1]) nt _ _ hD
            have fin : ∀ y, IB y → ∃ acc, (upd Ha t (.tup [.int 0, .int 1])) D = some (.lst acc) ∧ acc.length < sizeLine ∧ Same (upd _ z2 _) (upd (upd Ha t (.tup [.int 0, .int 1])) D (.lst (acc ++ [y]))) ∧ ∃ ys, upd (upd Ha t (.tup [.int 0, .int 1])) D (.lst (acc ++ [y])) D = some (.lst ys) ∧ ys.length = i + 1 ∧ ∀ y ∈ ys, IB y := fun y hy =>
              ⟨ys, hD2, small1000 (by omega), same_off nD (sa.trans (same_new nt)) off_upd, ys ++ [y], upd_same, by rw [List.length_append, hyl]; rfl, fun u hu => (List.mem_append.mp hu).elim (hyb u) fun z => by rw [List.mem_singleton.mp z]; exact hy⟩
            refine ⟨t, _, rfl, .inr (.of upd_same), rfl, rfl, _, rfl, ite2 (fun _ => ?_) (fun _ => ?_)⟩
            · exact ⟨_, rfl, rfl, fin _ (.inr ⟨_, rfl⟩)⟩
            · exact ⟨_, rfl, fin _ (.inl ⟨_, rfl⟩)⟩
          · rintro Ha ⟨sa, ys, hD, hyl, hyb⟩
            have hy1000 : ys.length ≤ 1000 := by rw [hyl, List.length_map]; have := few5; first | omega | (simp; done)
            refine ⟨D, _, rfl, .inl ⟨.of hD, fun t nt => ⟨show 1 ≤ sizeLine by decide, fun l4 k1 => ⟨_, _, _, rfl, rfl, upd_same, by decide, by decide, (show 1 * 2 ≤ sizeLine by decide), fun z3 k2 => ?_⟩⟩⟩⟩
            have y1 := same_new (o := .tup ys) nt
            have y2 := same_new (o := .lst [.ref t]) k1
            have y3 := same_new (o := .lst (List.replicate (2 : Int).toNat [V.ref t]).flatten) k2
            have y13 := ((Same.refl _).trans sa).trans (y1.trans (y2.trans y3))
            refine ⟨z2, z3, _, _, rfl, rfl, y13 _ _ upd_same, upd_same, szl (by have h1 := hlz; simp at h1 ⊢; omega), fun z4 k3 => ?_⟩
            have y4 := same_new (o := .lst (((xs ++ [.non, .int 0, .ref t0, .ref l1, .ref t1, .ref t2, .ref t3, .ref t4, .str "01"]) ++ [.ref t5, .ref t6, .ref d]) ++ (List.replicate (2 : Int).toNat [V.ref t]).flatten)) k3
            have nt' : NearAt K _ (.ref t) (some ys) := .tup (.of ((y2.trans (y3.trans y4)) _ _ upd_same)) hyb
            refine ⟨z4, _, rfl, (s8z.trans y13).trans y4, upd_same, Nears.append (N3.same (y13.trans y4)) (Nears.cons nt' (Nears.cons nt' Nears.nil (few_of hy1000)) (few_of hy1000)), by simp, by have h1 := hlz; simp at h1 ⊢; omega⟩
      have s47 := (s5.trans s6).trans s7
      refine ⟨_, rfl, rv, r, rfl, hr4.same s47, hR, fun v1 H8 s8 t1 => ?_⟩
      refine ⟨_, rfl, qv, q, rfl, (hq4.same s47).same s8, hQ, fun v2 H9 s9 t2 => ?_⟩
      refine ⟨_, _, inv r, inv q, rfl, t1.same s9, t2, isRow_inv hR, isRow_inv hQ, ?_⟩
      refine And.symm (told_both (H := H9) (r := inv r) (q := inv q) ?_)
      intro uv H10 s10 hu
      refine ⟨rfl, _, rfl, Nat.zero_le _, fun e1 n1 => ⟨_, _, (hl.same ((((s6.trans s7).trans s8).trans s9).trans (s10.trans (same_new n1)))).dp, .lst (.of upd_same) .nil, sh_dL bs, sh_L [], ?_⟩⟩
      rw [eqv_dL0]
      have ee : decide (uv = .non) = decide (bs = []) := decide_eq_decide.mpr (hu.non.trans ((Iff.trans ⟨fun z ps h => (pat_iff hR hQ).mpr ⟨ps, h⟩ |>.elim fun ps' h' => z ps' h', fun z ps h => (pat_iff hR hQ).mp ⟨ps, h⟩ |>.elim fun ps' h' => z ps' h'⟩ hbs.symm)))
      rw [ee]
      refine ⟨rfl, _, rfl, ?_⟩
      rw [show (!decide (V.bl (decide (bs = [])) = V.bl (decide (bs = [])))) = false by simp]
      exact iteF ⟨rfl, (s8.trans s9).trans (s10.trans (same_new n1))⟩
    refine ⟨_, rfl, rfl, _, rfl, Nat.zero_le _, fun e1 n1 => ⟨_, _, (hl.same (s6.trans (same_new n1))).dp, .lst (.of upd_same) .nil, sh_dL bs, sh_L [], ?_⟩⟩
    rw [eqv_dL0]
    have ee : decide (tv = .non) = decide (bs = []) := decide_eq_decide.mpr (ht.non.trans hbs.symm)
    rw [ee]
    have s7 := s6.trans (same_new (o := .lst []) n1)
    refine ⟨rfl, _, rfl, ?_⟩
    rw [show (!decide (V.bl (decide (bs = [])) = V.bl (decide (bs = [])))) = false by simp]
    refine iteF ?_
    refine ⟨_, rfl, rfl, _, rfl, ?_⟩
    rcases ht with ⟨rfl, _⟩ | ⟨ps, tps, hps⟩
    · rw [show (!decide ((V.non : V) = V.non)) = false from rfl]
      exact iteF (iteF ⟨rfl, same_new n1⟩)
    · have hne : (!decide (tv = .non)) = true := by obtain ⟨a, rfl, _⟩ := tps; rfl
      rw [hne]
      obtain ⟨ta, rfl, hta⟩ := tps
      have s47 := (s5.trans s6).trans (same_new (o := .lst []) n1)
      refine iteT ⟨_, rfl, _, rfl, _, rfl, _, _, _, r, q, some (ps.map V.int), rfl, (hr4.same s47).ti, (hq4.same s47).ti, hR, hQ, .tup (sqT_same (same_new n1) hta) (fun x hx => ?_), (fun xs e => by injection e with e; rw [← e]; exact fewP hps.len), fun b H8 s8 hb8 => ?_⟩
      · obtain ⟨c, _, rfl⟩ := List.mem_map.mp hx
        exact .inl ⟨c, rfl⟩
      · have hbt : b = true := hb8.mpr ⟨ps, rfl, (plK_iff hR hQ).mp hps⟩
        subst hbt
        exact ⟨_, rfl, iteF ⟨rfl, (same_new n1).trans s8⟩⟩
end
end Rk

namespace Rk
open PySem L2 Ow
/-- all places, step by step -/
def walk (r q : List Int) : Nat → List (List Int)
  | 0 => [[]]
  | k + 1 => ((walk r q k).flatMap (nxt r.length)).filter fun ps => hpB (sel r ps) (q.take (k + 1))
theorem walk_mem (r q : List Int) : ∀ k ps, ps ∈ walk r q k ↔ PlK r q k ps
  | 0, ps => by rw [plK_zero]; simp [walk]
  | k + 1, ps => step_mem (walk_mem r q k) ps
theorem only {r q ps a : List Int} (e : walk r q q.length = [a]) (h : PlK r q q.length ps) : ps = a := by
  have := (walk_mem r q _ ps).mpr h
  rw [e] at this
  simpa using this
theorem none_ {r q : List Int} (e : walk r q q.length = []) (ps : List Int) : ¬ PlK r q q.length ps := fun h => by
  have := (walk_mem r q _ ps).mpr h
  rw [e] at this
  cases this
theorem some_ {r q a : List Int} (e : (walk r q q.length).contains a = true) : PlK r q q.length a := (walk_mem r q _ a).mp (List.contains_iff_mem.mp e)
def spLaw (K : PySem.W.Frag) : Sp := fun vs H Q _ => ∃ (a : Addr) (ns : List Int), vs = [.ref a] ∧ SqL K H a (ns.map V.int) ∧ ns.length ≤ 63 ∧ ∀ H', Q (.bl true) H'
section
variable {P : Program} {w : World} {K : PySem.W.Frag} {mg : Str → Option Value} {base : Heap}
theorem ok_law (T : Txt K mg) {f : Addr} {fd : FuncData} (D : Fun K "law" "law" s_law f fd) : FnOk P w K mg base CX0 8 f fd ["_law_script"] (spLaw K) := by
  refine D.ok sc_law (fun vs H Q E h => ?_) (fun cdv A outer s H vs Q E hr h => ?_)
  · obtain ⟨a, ns, rfl, _⟩ := h
    rfl
  · obtain ⟨sa, ns, rfl, hs, hlen, k⟩ := h
    refine ⟨_, (pss_cons (ps_for PassesOwn.never rfl (pi_range1 (by rfl) T.b_range (pa_cons (pe_callB (call_max2 rfl) (by rfl) T.b_max (by decide +kernel) (pa_cons pe_int (pa_cons (pe_callB (call_min2 rfl) (by rfl) T.b_min (by decide +kernel) (pa_cons pe_int (pa_cons (pe_callB call_len_seq (by rfl) T.b_len (by decide +kernel) (pa_cons (pv 0) pa_nil)) pa_nil))) pa_nil))) pa_nil)) (pg_name (i := 1) sc_law.nd rfl (Or.inl rfl)) (pss_cons (ps_set (i := 2) sc_law.nd rfl (Or.inl rfl) (pe_cal (cal_l_vat T) (hr.mono (by decide)) (by rfl) (pa_cons (pv 0) (pa_cons (pv 1) pa_nil))))
      (pss_one (ps_for PassesOwn.never rfl (pi_range1 (by rfl) T.b_range (pa_cons pe_int pa_nil)) (pg_name (i := 3) sc_law.nd rfl (Or.inl rfl)) (pss_one (ps_if (pt_not (pt_val (pe_cal (cal_l_right T) (hr.mono (by decide)) (by rfl) (pa_cons (pv 2) pa_nil)))) (pss_one (ps_ret pe_bl)) pss_nil))))))
      (pss_cons (ps_set (i := 4) sc_law.nd rfl (Or.inl rfl) (pe_lst (pa_cons (pe_cal (cal_pattern_places T) (hr.mono (by decide)) (by rfl) (pa_cons (pe_tup (pa_cons pe_int (pa_cons pe_int (pa_cons pe_int (pa_cons pe_int (pa_cons pe_int pa_nil)))))) (pa_cons (pe_tup (pa_cons pe_int (pa_cons pe_int (pa_cons pe_int (pa_cons pe_int pa_nil))))) pa_nil))) (pa_cons (pe_cal (cal_pattern_places T) (hr.mono (by decide)) (by rfl) (pa_cons (pe_tup (pa_cons pe_int (pa_cons pe_int (pa_cons pe_int pa_nil)))) (pa_cons (pe_tup (pa_cons pe_int (pa_cons pe_int (pa_cons pe_int pa_nil)))) pa_nil))) pa_nil))))
      (pss_cons (ps_if (PW.pt (pw_or (pt_cmpR (op_neD hr.units) (pv 4) (pe_lst (pa_cons (pe_tup (pa_cons pe_int (pa_cons pe_int (pa_cons pe_int (pa_cons pe_int pa_nil))))) (pa_cons pe_non pa_nil))) (nomark _)) (pw_or1 (pt_not (pt_val (pe_cal (cal_is_pattern_places T) (hr.mono (by decide)) (by rfl) (pa_cons (pe_tup (pa_cons pe_int (pa_cons pe_int (pa_cons pe_int (pa_cons pe_int pa_nil))))) (pa_cons (pe_tup (pa_cons pe_int (pa_cons pe_int pa_nil))) (pa_cons (pe_tup (pa_cons pe_int (pa_cons pe_int pa_nil))) pa_nil))))))))) (pss_one (ps_ret pe_bl)) pss_nil)
      (pss_cons (ps_if (pt_cmpR (op_neD hr.units) (pe_cal (cal_pattern_places T) (hr.mono (by decide)) (by rfl) (pa_cons (pe_tup (pa_cons pe_int (pa_cons pe_int (pa_cons pe_int (pa_cons pe_int pa_nil))))) (pa_cons (pe_tup (pa_cons pe_int (pa_cons pe_int (pa_cons pe_int (pa_cons pe_int pa_nil))))) pa_nil))) (pe_tup (pa_cons pe_int (pa_cons pe_int (pa_cons pe_int (pa_cons pe_int pa_nil))))) (nomark _)) (pss_one (ps_ret pe_bl)) pss_nil)
      (pss_one (ps_ret (pe_cmpR op_isN (pe_cal (cal_pattern_places T) (hr.mono (by decide)) (by rfl) (pa_cons (pe_tup (pa_cons pe_int (pa_cons pe_int (pa_cons pe_int (pa_cons pe_int (pa_cons pe_int pa_nil)))))) (pa_cons (pe_tup (pa_cons pe_int (pa_cons pe_int pa_nil))) pa_nil))) pe_non (nomark _)))))))), ?_⟩
    have hj : ∀ j : Int, -(2 ^ 62) ≤ (if (if (j : Int) < 4 then (j : Int) else 4) > 1 then (if (j : Int) < 4 then (j : Int) else 4) else 1) ∧ (if (if (j : Int) < 4 then (j : Int) else 4) > 1 then (if (j : Int) < 4 then (j : Int) else 4) else 1) < 2 ^ 62 := fun j => by
      split <;> split <;> omega
    refine ⟨_, rfl, _, _, rfl, .inl hs, _, _, rfl, _, _, rfl, _, rfl, (hj _).1, (hj _).2, for_range (lo := 0) (fun _ σ H' => SqL K H' sa (ns.map V.int) ∧ ∃ v1 v2 v3 : Option V, σ = [some (.ref sa), v1, v2, v3, none]) ⟨hs, none, none, none, rfl⟩ ?_ ?_⟩
    · rintro i σ H0 hi ⟨hs, v1, v2, v3, rfl⟩
      refine ⟨_, rfl, _, rfl, sa, _, ns, rfl, hs, by omega, fun p H1 s1 np bb => ?_⟩
      refine ⟨_, rfl, by decide, by decide, for_range (lo := 0) (n := 3) (fun _ σ H2 => But p H1 H2 ∧ VatAt H2 p ∧ ∃ v3 : Option V, σ = [some (.ref sa), some (.int (0 + (i : Int))), some (.ref p), v3, none]) ⟨.refl, bb, _, rfl⟩ ?_ ?_⟩
      · rintro j σ H2 hj2 ⟨k0, c0, v3, rfl⟩
        exact ⟨_, rfl, p, rfl, c0, fun H3 o3 b3 => ⟨_, rfl, iteF ⟨k0.trans o3, b3, _, rfl⟩⟩⟩
      · rintro σ H2 ⟨k0, c0, v3, rfl⟩
        exact ⟨SqL.ext hs (same_off np s1 k0), _, _, _, rfl⟩
    · rintro σ H0 ⟨hs, v1, v2, v3, rfl⟩
      refine ⟨show 5 ≤ sizeLine by decide, fun t1 n1 => ⟨show 4 ≤ sizeLine by decide, fun t2 n2 => ?_⟩⟩
      have w1 := same_new (o := .tup [.int 3, .int 4, .int 1, .int 2]) n2
      refine ⟨_, _, [4, 5, 3, 1, 2], [3, 4, 1, 2], rfl, ⟨t1, rfl, .of (w1 _ _ upd_same)⟩, ⟨t2, rfl, .of upd_same⟩, ⟨by decide, by decide, by decide⟩, ⟨by decide, by decide, by decide⟩, And.symm ⟨fun v ps H1 s1 tv pk => ?_, fun H1 s1 nn => absurd (some_ (a := [0, 1, 3, 4]) (by decide +kernel)) (nn _)⟩⟩
      obtain rfl : ps = [0, 1, 3, 4] := only (by decide +kernel) pk
      refine ⟨show 3 ≤ sizeLine by decide, fun t3 n3 => ⟨show 3 ≤ sizeLine by decide, fun t4 n4 => ?_⟩⟩
      have w3 := same_new (o := .tup [.int 3, .int 2, .int 1]) n4
      have w34 := (same_new (o := .tup [.int 2, .int 3, .int 1]) n3).trans w3
      refine ⟨_, _, [2, 3, 1], [3, 2, 1], rfl, ⟨t3, rfl, .of (w3 _ _ upd_same)⟩, ⟨t4, rfl, .of upd_same⟩, ⟨by decide, by decide, by decide⟩, ⟨by decide, by decide, by decide⟩, And.symm ⟨fun v ps H1 s1 tv pk => absurd pk (none_ (by decide +kernel) _), fun H2 s2 nn => ?_⟩⟩
      refine ⟨show 2 ≤ sizeLine by decide, fun L nL => ?_⟩
      have tvL := tv.same ((w34.trans s2).trans (same_new (o := .lst [v, .non]) nL))
      refine ⟨_, rfl, show 4 ≤ sizeLine by decide, fun t5 n5 => ⟨show 2 ≤ sizeLine by decide, fun M nM => ?_⟩⟩
      have wM := same_new (o := .lst [.ref t5, .non]) nM
      have w5M := (same_new (o := .tup [.int 0, .int 1, .int 3, .int 4]) n5).trans wM
      refine ⟨.list [dT [0, 1, 3, 4], .none], .list [dT [0, 1, 3, 4], .none], .lst (.of (w5M _ _ upd_same)) (.cons (tvL.same w5M).dp (.cons .non .nil)), .lst (.of upd_same) (.cons (TI.dp (ns := [0, 1, 3, 4]) ⟨t5, rfl, .of (wM _ _ upd_same)⟩) (.cons .non .nil)), by decide +kernel, by decide +kernel, ?_⟩
      rw [show (!PyData.eqv (.list [dT [0, 1, 3, 4], .none]) (.list [dT [0, 1, 3, 4], .none])) = false by decide +kernel]
      refine ⟨_, rfl, iteF ?_⟩
      refine ⟨show 4 ≤ sizeLine by decide, fun t6 n6 => ⟨show 2 ≤ sizeLine by decide, fun t7 n7 => ⟨show 2 ≤ sizeLine by decide, fun t8 n8 => ?_⟩⟩⟩
      have w8 := same_new (o := .tup [.int 0, .int 2]) n8
      have w78 := (same_new (o := .tup [.int 2, .int 1]) n7).trans w8
      refine ⟨_, _, _, [4, 2, 3, 1], [2, 1], some ([0, 2].map V.int), rfl, ⟨t6, rfl, .of (w78 _ _ upd_same)⟩, ⟨t7, rfl, .of (w8 _ _ upd_same)⟩, ⟨by decide, by decide, by decide⟩, ⟨by decide, by decide, by decide⟩, .tup (.of upd_same) (ib_ints _), fun b H3 s3 eb => ?_⟩
      obtain rfl : b = true := eb.mpr ⟨[0, 2], rfl, some_ (by decide +kernel)⟩
      refine ⟨_, rfl, iteF ?_⟩
      refine ⟨show 4 ≤ sizeLine by decide, fun u1 m1 => ⟨show 4 ≤ sizeLine by decide, fun u2 m2 => ?_⟩⟩
      have x2 := same_new (o := .tup [.int 4, .int 2, .int 3, .int 1]) m2
      refine ⟨_, _, [4, 2, 3, 1], [4, 2, 3, 1], rfl, ⟨u1, rfl, .of (x2 _ _ upd_same)⟩, ⟨u2, rfl, .of upd_same⟩, ⟨by decide, by decide, by decide⟩, ⟨by decide, by decide, by decide⟩, And.symm ⟨fun v ps H4 s4 tv4 pk => ?_, fun H1 s1 nn => absurd (some_ (a := [0, 1, 2, 3]) (by decide +kernel)) (nn _)⟩⟩
      obtain rfl : ps = [0, 1, 2, 3] := only (by decide +kernel) pk
      refine ⟨show 4 ≤ sizeLine by decide, fun u3 m3 => ?_⟩
      refine ⟨_, _, (tv4.same (same_new m3)).dp, TI.dp (ns := [0, 1, 2, 3]) ⟨u3, rfl, .of upd_same⟩, sh_dT _, sh_dT _, ?_⟩
      rw [eqv_dT, decide_eq_true rfl]
      refine ⟨_, rfl, iteF ?_⟩
      refine ⟨show 5 ≤ sizeLine by decide, fun u4 m4 => ⟨show 2 ≤ sizeLine by decide, fun u5 m5 => ?_⟩⟩
      have x5 := same_new (o := .tup [.int 2, .int 1]) m5
      refine ⟨_, _, [1, 2, 3, 4, 5], [2, 1], rfl, ⟨u4, rfl, .of (x5 _ _ upd_same)⟩, ⟨u5, rfl, .of upd_same⟩, ⟨by decide, by decide, by decide⟩, ⟨by decide, by decide, by decide⟩, And.symm ⟨fun v ps H1 s1 tv pk => absurd pk (none_ (by decide +kernel) _), fun H5 s5 nn => ?_⟩⟩
      exact ⟨rfl, k _⟩
end
end Rk

namespace Rk
open PySem L2 Ow
section
variable {K : PySem.W.Frag} {h : Heap} {mg : Str → Option Value} {x qual : Str} {st : Stmt} {f p T0 : Addr} {oc kV doc pm cdv ct oc2 : Value} {od an od2 : Option Addr} {sl sl2 : Array (Option Value)} {tk n : Nat} {rest : List Value}
theorem mdef_mk (X : K.In h) (G : h.Ns mainGlobals mg) (a : PySem.W.nsIn K mainGlobals x = some (some (.ref f)))
    (l : K.lookup f = some ⟨oc, od, .func (PySem.W.fnOf x x (defArgs st) (defBody st) (defScope st) .none kV doc pm an cdv ct), sl⟩) (c : PySem.W.codeIn K cdv x = true) (k : PySem.W.keepIn K (.ref f) = true) : MDef K mg x st :=
  ⟨f, _, fun_mk l c k, PySem.W.mg_of X G a⟩
theorem gi_mk {t : Nat} {i : Int} {x : Str} (X : K.In h) (G : h.Ns mainGlobals mg) (a : PySem.W.nsIn K mainGlobals x = some (some (.int i t))) : ∃ u, mg x = some u ∧ RelV (.int i) u := ⟨_, PySem.W.mg_of X G a, ⟨t, rfl⟩⟩
theorem end_mk {l : PySem.W.OpenLaw} {w : World} {fa : Addr} (X : K.In h) (G : h.Ns mainGlobals mg) (hfa : mg "law" = some (.ref fa)) (T : Txt K mg) (a : PySem.W.nsIn K mainGlobals "law" = some (some (.ref f)))
    (l1 : K.lookup f = some ⟨oc, od, .func (PySem.W.fnOf "law" "law" (defArgs s_law) (defBody s_law) (defScope s_law) .none kV doc pm an cdv ct), sl⟩) (c : PySem.W.codeIn K cdv "law" = true) (k : PySem.W.keepIn K (.ref f) = true) :
    ∃ fd : FuncData, (∀ (s : Shared) (v : Value), BindsTo s fd ⟨[v], []⟩ [("_law_script", v)]) ∧ ∀ base : Heap, K.In base → base.Ns mainGlobals mg → FnOk l.prog w K mg base CX0 8 fa fd ["_law_script"] (spLaw K) := by
  have e := hfa.symm.trans (PySem.W.mg_of X G a)
  cases e
  exact ⟨PySem.W.fnOf "law" "law" (defArgs s_law) (defBody s_law) (defScope s_law) .none kV doc pm an cdv ct, fun s v => .of_eq rfl, fun base _ _ => ok_law T (fun_mk (st := s_law) l1 c k)⟩
end
theorem walkEnd {l : PySem.W.OpenLaw} {q : Program} {loose : List Str} {XP : (Str → Option Value) → Heap → Prop} {YP : World → Heap → Prop} {d : DefRec} {K : Params → PySem.W.Frag} (hn : l.most = some 63) (hdf : d.params.defaults = [])
    (hY : ∀ (w : World) (h : Heap), YP w h → (K w.params).In h)
    (F : ∀ (w : World) (mg : Str → Option Value) (fa : Addr) (h : Heap), (K w.params).In h → h.Ns mainGlobals mg → mg d.name = some (.ref fa) →
      ∃ fd : FuncData, (∀ (s : Shared) (u : Value), BindsTo s fd ⟨[u], []⟩ [("_law_script", u)]) ∧ ∀ base : Heap, (K w.params).In base → base.Ns mainGlobals mg → FnOk l.prog w (K w.params) mg base CX0 8 fa fd ["_law_script"] (spLaw (K w.params))) :
    PySem.W.WalkO q loose XP YP l.row.toRowW d [] (fun f vs => PySem.call f vs) :=
  L2.walk_of (n := 63) (k := 8) (x := "_law_script") (CX := fun _ => CX0) (sp := fun w => spLaw (K w.params)) hn (by decide) hdf ⟨rfl, by decide, by decide⟩ hY F (fun _ _ a ns hl _ hS => ⟨a, ns, rfl, hS, hl, fun _ => rfl⟩) fun _ _ _ _ _ z => z
end Rk

open PySem PySem.W PyProof.Rows in
set_option maxRecDepth 100000 in
set_option maxHeartbeats 0 in
theorem PySem.Challenge.cw_underwords_k66_whole_patterns_in_rows_holds : PySem.Challenge.rw_underwords_k66_whole_patterns_in_rows.Holds := by
  w_on; o_law; k_head; (case hw => w_witness2)
  k_fill
  refine Rk.walkEnd (l := PySem.Challenge.rw_underwords_k66_whole_patterns_in_rows) rfl rfl (fun w h Y => PySem.W.kIn_of Y) ?F
  case F =>
    intro w mg fa h KX G hmg
    refine' Rk.end_mk KX G hmg ?T ?a ?l ?c ?k
    (case a => k_is)
    (case l => k_is)
    (case c => k_is)
    (case k => k_is)
    case T =>
      refine' { gMP := ?gMP, d_is_within := ?d_is_within, d_pattern_places := ?d_pattern_places, d_is_pattern_places := ?d_is_pattern_places, d_is_row := ?d_is_row, d_are_entries := ?d_are_entries, d_check_row := ?d_check_row, d_has_pattern := ?d_has_pattern, d_l_vat := ?d_l_vat, d_l_sip := ?d_l_sip, d_l_taste := ?d_l_taste, d_l_some_row := ?d_l_some_row, d_l_is_alike := ?d_l_is_alike, d_l_every_place := ?d_l_every_place, d_l_undone := ?d_l_undone, d_l_is_places := ?d_l_is_places, d_l_right := ?d_l_right, b_list := ?b_list, b_sorted := ?b_sorted, b_isinstance := ?b_isinstance, b_int := ?b_int, b_bool := ?b_bool, b_tuple := ?b_tuple, b_len := ?b_len, b_abs := ?b_abs, b_max := ?b_max, b_min := ?b_min, b_all := ?b_all, b_zip := ?b_zip, b_range := ?b_range }
      (case gMP => (refine' Rk.gi_mk KX G ?q1; (case q1 => k_is)))
      (case d_is_within => (refine' Rk.mdef_mk KX G ?q1 ?q2 ?q3 ?q4; (case q1 => k_is); (case q2 => k_is); (case q3 => k_is); (case q4 => k_is)))
      (case d_pattern_places => (refine' Rk.mdef_mk KX G ?q1 ?q2 ?q3 ?q4; (case q1 => k_is); (case q2 => k_is); (case q3 => k_is); (case q4 => k_is)))
      (case d_is_pattern_places => (refine' Rk.mdef_mk KX G ?q1 ?q2 ?q3 ?q4; (case q1 => k_is); (case q2 => k_is); (case q3 => k_is); (case q4 => k_is)))
      (case d_is_row => (refine' Rk.mdef_mk KX G ?q1 ?q2 ?q3 ?q4; (case q1 => k_is); (case q2 => k_is); (case q3 => k_is); (case q4 => k_is)))
      (case d_are_entries => (refine' Rk.mdef_mk KX G ?q1 ?q2 ?q3 ?q4; (case q1 => k_is); (case q2 => k_is); (case q3 => k_is); (case q4 => k_is)))
      (case d_check_row => (refine' Rk.mdef_mk KX G ?q1 ?q2 ?q3 ?q4; (case q1 => k_is); (case q2 => k_is); (case q3 => k_is); (case q4 => k_is)))
      (case d_has_pattern => (refine' Rk.mdef_mk KX G ?q1 ?q2 ?q3 ?q4; (case q1 => k_is); (case q2 => k_is); (case q3 => k_is); (case q4 => k_is)))
      (case d_l_vat => (refine' Rk.mdef_mk KX G ?q1 ?q2 ?q3 ?q4; (case q1 => k_is); (case q2 => k_is); (case q3 => k_is); (case q4 => k_is)))
      (case d_l_sip => (refine' Rk.mdef_mk KX G ?q1 ?q2 ?q3 ?q4; (case q1 => k_is); (case q2 => k_is); (case q3 => k_is); (case q4 => k_is)))
      (case d_l_taste => (refine' Rk.mdef_mk KX G ?q1 ?q2 ?q3 ?q4; (case q1 => k_is); (case q2 => k_is); (case q3 => k_is); (case q4 => k_is)))
      (case d_l_some_row => (refine' Rk.mdef_mk KX G ?q1 ?q2 ?q3 ?q4; (case q1 => k_is); (case q2 => k_is); (case q3 => k_is); (case q4 => k_is)))
      (case d_l_is_alike => (refine' Rk.mdef_mk KX G ?q1 ?q2 ?q3 ?q4; (case q1 => k_is); (case q2 => k_is); (case q3 => k_is); (case q4 => k_is)))
      (case d_l_every_place => (refine' Rk.mdef_mk KX G ?q1 ?q2 ?q3 ?q4; (case q1 => k_is); (case q2 => k_is); (case q3 => k_is); (case q4 => k_is)))
      (case d_l_undone => (refine' Rk.mdef_mk KX G ?q1 ?q2 ?q3 ?q4; (case q1 => k_is); (case q2 => k_is); (case q3 => k_is); (case q4 => k_is)))
      (case d_l_is_places => (refine' Rk.mdef_mk KX G ?q1 ?q2 ?q3 ?q4; (case q1 => k_is); (case q2 => k_is); (case q3 => k_is); (case q4 => k_is)))
      (case d_l_right => (refine' Rk.mdef_mk KX G ?q1 ?q2 ?q3 ?q4; (case q1 => k_is); (case q2 => k_is); (case q3 => k_is); (case q4 => k_is)))
      (case b_list => exact PySem.W.mg_none_of KX G (by k_is))
      (case b_sorted => exact PySem.W.mg_none_of KX G (by k_is))
      (case b_isinstance => exact PySem.W.mg_none_of KX G (by k_is))
      (case b_int => exact PySem.W.mg_none_of KX G (by k_is))
      (case b_bool => exact PySem.W.mg_none_of KX G (by k_is))
      (case b_tuple => exact PySem.W.mg_none_of KX G (by k_is))
      (case b_len => exact PySem.W.mg_none_of KX G (by k_is))
      (case b_abs => exact PySem.W.mg_none_of KX G (by k_is))
      (case b_max => exact PySem.W.mg_none_of KX G (by k_is))
      (case b_min => exact PySem.W.mg_none_of KX G (by k_is))
      (case b_all => exact PySem.W.mg_none_of KX G (by k_is))
      (case b_zip => exact PySem.W.mg_none_of KX G (by k_is))
      (case b_range => exact PySem.W.mg_none_of KX G (by k_is))
